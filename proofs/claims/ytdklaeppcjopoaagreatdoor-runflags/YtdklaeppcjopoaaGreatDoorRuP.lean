/- run.New: of what may be. -/
import Derived.Test.YtdklaeppcjopoaaGreatDoorG11
import Derived.Test.YtdklaeppcjopoaaGreatDoorG12
namespace Go.Proofs.YtdklaeppcjopoaaGreatDoor
open Go.RowKit
set_option linter.unusedVariables false

theorem clone2 (n cap : Nat) (ao : Option Addr) (g : Nat → Int) (w : World) (hn : (n : Int) ≤ 1048576) (hB : BsIn w ao n cap g) :
    Calls Tryz.prog 48 #[.slice ao n cap] w fun r w' => ∃ ao' cap', r = .returned (.slice ao' n cap') ∧ BsIn w' ao' n cap' g ∧ (ao' = none ∨ ∃ b, ao' = some ⟨b, 0, none⟩ ∧ w.heap.size ≤ b) ∧ w.grownBy w' none := by
  refine (clone_any n cap ao g w hn hB.nil hB.bs).mono ?_
  rintro r w' ⟨v, rfl, ho, hg⟩
  have ho' := ho
  obtain ⟨_, ⟨rfl, h0⟩ | ⟨k, c, cur, rfl, hk, hb, h1, h2, h3, h4⟩⟩ := ho
  · exact ⟨none, 0, by rw [h0], ⟨fun _ => ⟨h0, rfl⟩, by omega, Nat.zero_le _, hB.fit, .inl h0, fun _ _ h => by omega⟩, .inl rfl, hg⟩
  · refine ⟨some ⟨k, 0, none⟩, c, rfl, ?_, .inr ⟨k, rfl, hk⟩, hg⟩
    obtain ⟨ao2, cap2, e, e1, e2, e3, e4⟩ := ho'.shape
    injection e with e5 e6 e7
    subst e5 e7
    exact ⟨e1, e2, e3, hB.fit, e4, fun b off h0 e => (by injection e with e; injection e with e; subst e; exact (ho'.lt k rfl).2)⟩
theorem put_any {w : World} {B D S : Nat} {m : Nat → Int} (hm : IsM w B D S m) (s2 : (S : Int) ≤ 1048576) {ao : Option Addr} {n cap : Nat} {g : Nat → Int} (hB : BsIn w ao n cap g) (hd : 4096 + (n : Int) ≤ S) :
    Calls Tryz.prog 47 #[.pointer (some ⟨B, 0, none⟩), .int .u64 4096, .slice ao n cap] w fun r w' => r = .returned (.int .i64 0) ∧ IsM w' B D S (Mm.pt m 4096 n g) ∧ w.grownBy w' (some D) := by
  rcases Nat.eq_zero_or_pos n with h0 | h0
  · subst h0
    refine (put_none B D S cap ao m 4096 w hm).mono ?_
    rintro r w' ⟨rfl, rfl⟩
    rw [Mm.pt_zero]
    exact ⟨rfl, hm, World.grownBy.refl _ _⟩
  · obtain ⟨b, off, e, hc⟩ := hB.bs.at h0
    rw [e]
    exact put_in B D S n cap b off m g 4096 w hm s2 h0 (by decide) (by omega) hB.fit hc
theorem cell_new (w : World) (v : Value) (t : TypeId) : (w.alloc (Obj.cells #[v] t)).cell? ⟨w.heap.size, 0, none⟩ = some v := by simp
/-- a machine that New has made -/
structure NewOk (I : Ig) (S an : Nat) (ag : Nat → Int) (w w' : World) (h : Pd) (N : Nat) : Prop where
  x : IsC w' h (Ru.init I S an ag)
  c : w'.cell? ⟨N, 0, none⟩ = some h.mi
  im : h.im = ⟨I.t, I.cn, I.cg, S⟩
  at' : h.At
  b0 : w.heap.size ≤ h.B
  d0 : w.heap.size ≤ h.D
  n0 : w.heap.size ≤ N
  nb : N ≠ h.B
  nd : N ≠ h.D
  g : w.grownBy w' none
/-- what the composite's parts are told -/
def psiN (b0 M : Nat) (ca : Option Addr) (cn cc : Nat) (cg : Nat → Int) (en : Int) (base : Nat) : Nat → Value → World → Prop
  | 0 => fun v _ => v = .pointer (some ⟨b0, 1, none⟩)
  | 1 => fun v _ => v = .slice ca cn cc
  | 2 => fun v w => ∃ ao cap, v = .slice ao cn cap ∧ BsIn w ao cn cap cg ∧ (ao = none ∨ ∃ b, ao = some ⟨b, 0, none⟩ ∧ base ≤ b)
  | 3 => fun v _ => v = .pointer (some ⟨b0, 3, none⟩)
  | 4 => fun v _ => v = .int .i64 en
  | 5 => fun v _ => v = .int .u64 en
  | 6 => fun v _ => v = .pointer (some ⟨M, 0, none⟩)
  | 7 => fun v w => ∃ ao cap, v = .agg #[.slice ao cn cap, .int .u64 en, .int .u64 0, .int .u64 0, .int .u64 0, .int .u64 0, .int .u64 0, .int .u64 0, .int .u64 0, .int .u64 0, .int .u64 0, .int .u64 0, .int .u64 0, .int .u64 0, .int .u64 0, .int .u64 0, .int .u64 0, .int .u64 0, .pointer (some ⟨M, 0, none⟩), .int .u64 0, .int .u64 0, .int .i64 0, .int .i64 0] ∧ BsIn w ao cn cap cg ∧ (ao = none ∨ ∃ b, ao = some ⟨b, 0, none⟩ ∧ base ≤ b)
  | 8 => fun v w => ∃ N, v = .pointer (some ⟨N, 0, none⟩) ∧ w.rowIs N 85 23 (fun i => (#[.slice none 0 0, .int .u64 0, .int .u64 0, .int .u64 0, .int .u64 0, .int .u64 0, .int .u64 0, .int .u64 0, .int .u64 0, .int .u64 0, .int .u64 0, .int .u64 0, .int .u64 0, .int .u64 0, .int .u64 0, .int .u64 0, .int .u64 0, .int .u64 0, .pointer none, .int .u64 0, .int .u64 0, .int .i64 0, .int .i64 0] : Array Value).getD i undef) ∧ base ≤ N
  | _ => fun _ _ => True
theorem psiN_stable {b0 M : Nat} {ca : Option Addr} {cn cc : Nat} {cg : Nat → Int} {en : Int} {base i : Nat} {v : Value} {w w' : World} (h : psiN b0 M ca cn cc cg en base i v w) (g : w.grownBy w' none) : psiN b0 M ca cn cc cg en base i v w' := by
  match i, h with
  | 0, h => exact h
  | 1, h => exact h
  | 2, ⟨ao, cap, h1, h2, h3⟩ => exact ⟨ao, cap, h1, h2.grow g (fun _ _ _ _ => by simp), h3⟩
  | 3, h => exact h
  | 4, h => exact h
  | 5, h => exact h
  | 6, h => exact h
  | 7, ⟨ao, cap, h1, h2, h3⟩ => exact ⟨ao, cap, h1, h2.grow g (fun _ _ _ _ => by simp), h3⟩
  | 8, ⟨N, h1, h2, h3⟩ => exact ⟨N, h1, h2.of_block (g.block _ h2.lt (by simp)), h3⟩
  | _ + 9, h => trivial
set_option maxRecDepth 100000 in
set_option maxHeartbeats 4000000 in
theorem new_ok {I : Ig} {w : World} (hI : I.In w) (hm : I.mayB = true) (S : Nat) (aa : Option Addr) (an ac : Nat) (ag : Nat → Int) (hA : RwIn .u64 w aa an ac ag) (ha : (an : Int) ≤ 6) (hag : ∀ i, i < an → Ru.W64 (ag i)) (s1 : (8192 : Int) ≤ S) (s2 : (S : Int) ≤ 1048576) (hd2 : I.dn ≤ 1048576) (hd : 4096 + (I.dn : Int) ≤ (S : Int) - 4096) (hen : 0 ≤ I.en ∧ I.en ≤ 1048576) :
    Calls Tryz.prog 33 #[I.val, .int .i64 S, .slice aa an ac] w fun r w' => ∃ (h : Pd) (N : Nat), r = .returned (.tuple #[.pointer (some ⟨N, 0, none⟩), .int .i64 0]) ∧ NewOk I S an ag w w' h N := by
  have HN : Hid (∀ W, Calls Tryz.prog 46 #[.int .i64 S] W fun e w' => e = .returned (.tuple #[.pointer (some ⟨W.heap.size + 1, 0, none⟩), .int .i64 0]) ∧ IsM w' (W.heap.size + 1) W.heap.size S (fun _ => 0) ∧ W.grownBy w' none) := fun W => new_in S W s1 s2
  have HM : Hid (∀ W, W.heap.size = W.heap.size → w.grownBy W none → Calls Tryz.prog 45 #[I.val] W fun r w' => r = .returned (.bool true) ∧ W.grownBy w' none) := fun W _ g => by have := image_any (hI.kept g); rw [hm] at this; exact this
  have HI : Hid (I.In w) := hI
  obtain ⟨t, ca, cn, cc, cg, da, dn, dc, dg, en, fa, fn, fc, fg⟩ := I
  unfold Ig.val at HM ⊢
  dsimp only at HM hd hd2 ⊢
  have G := World.grownBy_alloc w (Obj.cells #[.int .i64 t, .slice ca cn cc, .slice da dn dc, .int .i64 en, .slice fa fn fc] 64) none
  have B0 : (w.alloc (Obj.cells #[.int .i64 t, .slice ca cn cc, .slice da dn dc, .int .i64 en, .slice fa fn fc] 64)).cell? ⟨w.heap.size, 0, none⟩ = some (.int .i64 t) := by simp
  have B1 : (w.alloc (Obj.cells #[.int .i64 t, .slice ca cn cc, .slice da dn dc, .int .i64 en, .slice fa fn fc] 64)).cell? ⟨w.heap.size, 1, none⟩ = some (.slice ca cn cc) := by simp
  have B2 : (w.alloc (Obj.cells #[.int .i64 t, .slice ca cn cc, .slice da dn dc, .int .i64 en, .slice fa fn fc] 64)).cell? ⟨w.heap.size, 2, none⟩ = some (.slice da dn dc) := by simp
  have B3 : (w.alloc (Obj.cells #[.int .i64 t, .slice ca cn cc, .slice da dn dc, .int .i64 en, .slice fa fn fc] 64)).cell? ⟨w.heap.size, 3, none⟩ = some (.int .i64 en) := by simp
  have B4 : (w.alloc (Obj.cells #[.int .i64 t, .slice ca cn cc, .slice da dn dc, .int .i64 en, .slice fa fn fc] 64)).cell? ⟨w.heap.size, 4, none⟩ = some (.slice fa fn fc) := by simp
  have hdd : decide ((S : Int) - 4096 < 4096 + (dn : Int)) = false := decide_eq_false (by omega)
  have hd3 : (dn : Int) ≤ 1048576 := by omega
  have eE : IntKind.u64.wrap en = en := by rw [IntKind.wrap_u64]; dsimp only at hen; omega
  have HPut : Hid (∀ (W : World) (M D : Nat), IsM W M D S (fun _ => 0) → w.grownBy W none → Calls Tryz.prog 47 #[.pointer (some ⟨M, 0, none⟩), .int .u64 4096, .slice da dn dc] W fun r w' => r = .returned (.int .i64 0) ∧ IsM w' M D S (Mm.pt (fun _ => 0) 4096 dn dg) ∧ W.grownBy w' (some D)) := fun W M D hM g => put_any hM s2 (HI.out.d.grow g (fun _ _ _ _ => by simp)) (by omega)
  have ht12 : t = 1 ∨ t = 2 := by have := hm; unfold Ig.mayB at this; simp at this; omega
  have hcn : (cn : Int) ≤ 1048576 := by have := hm; unfold Ig.mayB at this; simp at this; omega
  have HCl : Hid (∀ (W : World), w.grownBy W none → Calls Tryz.prog 48 #[.slice ca cn cc] W fun r w' => ∃ ao' cap', r = .returned (.slice ao' cn cap') ∧ BsIn w' ao' cn cap' cg ∧ (ao' = none ∨ ∃ b, ao' = some ⟨b, 0, none⟩ ∧ W.heap.size ≤ b) ∧ W.grownBy w' none) := fun W g => clone2 cn cc ca cg W hcn (HI.out.c.grow g (fun _ _ _ _ => by simp))
  clear hI hm
  go_enter Tryz.func33, Tryz.ntmps33
  go_wp2_with (first
    | (go_at_call 45; refine (HM.out _ rfl G).mono ?_; rintro r w1 ⟨rfl, g1⟩; have b2 := g1.cell B2 (by simp))
    | (go_at_call 46; refine (HN.out _).mono ?_; rintro r w2 ⟨rfl, m2, g2⟩; have d2 := g2.cell b2 (by simp); have GG : w.grownBy w2 none := grown_trans (grown_trans G g1) g2)
    | (go_at_call 47; refine (HPut.out _ _ _ m2 GG).mono ?_; rintro r w3 ⟨rfl, m3, g3⟩))
  rename_i K hK
  have HK : Hid _ := hK
  clear hK
  have hsz1 : w.heap.size < w1.heap.size := by have := g1.size; rw [size_alloc] at this; omega
  have GW : w.grownBy w3 none := grown_two GG g3 (by omega)
  have X0 := (g3.cell (g2.cell (g1.cell B0 (by simp)) (by simp)) (by simp; omega))
  have X1 := (g3.cell (g2.cell (g1.cell B1 (by simp)) (by simp)) (by simp; omega))
  have X3 := (g3.cell (g2.cell (g1.cell B3 (by simp)) (by simp)) (by simp; omega))
  have HMM : Hid (IsM w3 (w1.heap.size + 1) w1.heap.size S (Mm.pt (fun _ => 0) 4096 dn dg)) := m3
  have hD1 : w.heap.size ≤ w1.heap.size := by omega
  have HGW : Hid (w.grownBy w3 none) := GW
  have HX0 : Hid (w3.cell? ⟨w.heap.size, 0, none⟩ = some (.int .i64 t)) := X0
  have hsz3 : w1.heap.size + 1 < w3.heap.size := m3.head.lt
  clear B0 B1 B2 B3 B4 b2 d2 g1 g2 g3 G GG m2 m3 GW X0 hsz1
  obtain ⟨Dd, hDd⟩ : ∃ n, n = w1.heap.size := ⟨_, rfl⟩
  rw [← hDd] at HMM hD1 hsz3
  rw [← hDd]
  clear hDd
  have HX1 : Hid (∀ W, w3.drew.grownBy W none → W.cell? ⟨w.heap.size, 1, none⟩ = some (.slice ca cn cc)) := fun W g => g.cell ((grown_drew (World.grownBy.refl _ none)).cell X1 (by simp)) (by simp)
  have HX3 : Hid (∀ W, w3.drew.grownBy W none → W.cell? ⟨w.heap.size, 3, none⟩ = some (.int .i64 en)) := fun W g => g.cell ((grown_drew (World.grownBy.refl _ none)).cell X3 (by simp)) (by simp)
  have HCl3 : Hid (∀ (W : World), w3.drew.grownBy W none → Calls Tryz.prog 48 #[.slice ca cn cc] W fun r w' => ∃ v, r = .returned v ∧ W.grownBy w' none ∧ psiN w.heap.size (Dd + 1) ca cn cc cg en w3.heap.size 2 v w') := fun W g => (HCl.out W (grown_trans (grown_drew HGW.out) g)).mono fun r w' ⟨ao', cap', h1, h2, h3, h4⟩ => ⟨_, h1, h4, ao', cap', rfl, h2, h3.imp id fun ⟨b, e, hb⟩ => ⟨b, e, Nat.le_trans g.size hb⟩⟩
  clear X1 X3 HCl
  refine region_inv 9 (psiN w.heap.size (Dd + 1) ca cn cc cg en w3.heap.size) (by kernel_rfl) (by kernel_rfl) (by kernel_rfl) (by kernel_rfl) (fun i v W W' hi h g => psiN_stable h g) ?_ ?_
  · intro i hi V W g hV
    have hc : i = 0 ∨ i = 1 ∨ i = 2 ∨ i = 3 ∨ i = 4 ∨ i = 5 ∨ i = 6 ∨ i = 7 ∨ i = 8 := by omega
    have x1 := HX1.out W g
    have x3 := HX3.out W g
    rcases hc with rfl | rfl | rfl | rfl | rfl | rfl | rfl | rfl | rfl
    · exact stepV_val rfl rfl (World.grownBy.refl _ _) rfl
    · have h0 : V 0 = _ := hV 0 (by kernel_rfl)
      refine stepV_val (v := .slice ca cn cc) (w' := W) rfl ?_ (World.grownBy.refl _ _) rfl
      simp [frV, dstOf, Act.put, Act.eval, go_sem, h0, x1]
    · have h1 : V 1 = _ := hV 1 (by kernel_rfl)
      refine stepV_call (f := 48) (args := #[.slice ca cn cc]) rfl ?_ (HCl3.out W g)
      simp [frV, dstOf, Act.put, Act.eval, go_sem, h1]
    · exact stepV_val rfl rfl (World.grownBy.refl _ _) rfl
    · have h3 : V 3 = _ := hV 3 (by kernel_rfl)
      refine stepV_val (v := .int .i64 en) (w' := W) rfl ?_ (World.grownBy.refl _ _) rfl
      simp [frV, dstOf, Act.put, Act.eval, go_sem, h3, x3]
    · have h4 : V 4 = _ := hV 4 (by kernel_rfl)
      refine stepV_val (v := .int .u64 en) (w' := W) rfl ?_ (World.grownBy.refl _ _) rfl
      simp [frV, dstOf, Act.put, Act.eval, go_sem, h4, eE]
    · exact stepV_val rfl rfl (World.grownBy.refl _ _) rfl
    · obtain ⟨ao2, cap2, h2, hb2, ha2⟩ := hV 2 (by kernel_rfl)
      have h5 : V 5 = _ := hV 5 (by kernel_rfl)
      have h6 : V 6 = _ := hV 6 (by kernel_rfl)
      refine stepV_val (v := .agg #[.slice ao2 cn cap2, .int .u64 en, .int .u64 0, .int .u64 0, .int .u64 0, .int .u64 0, .int .u64 0, .int .u64 0, .int .u64 0, .int .u64 0, .int .u64 0, .int .u64 0, .int .u64 0, .int .u64 0, .int .u64 0, .int .u64 0, .int .u64 0, .int .u64 0, .pointer (some ⟨Dd + 1, 0, none⟩), .int .u64 0, .int .u64 0, .int .i64 0, .int .i64 0]) (w' := W) rfl ?_ (World.grownBy.refl _ _) ⟨ao2, cap2, rfl, hb2, ha2⟩
      simp [frV, dstOf, Act.put, Act.eval, go_sem, h2, h5, h6]
    · refine stepV_val (v := .pointer (some ⟨W.heap.size, 0, none⟩)) (w' := W.alloc (Obj.cells #[.slice none 0 0, .int .u64 0, .int .u64 0, .int .u64 0, .int .u64 0, .int .u64 0, .int .u64 0, .int .u64 0, .int .u64 0, .int .u64 0, .int .u64 0, .int .u64 0, .int .u64 0, .int .u64 0, .int .u64 0, .int .u64 0, .int .u64 0, .int .u64 0, .pointer none, .int .u64 0, .int .u64 0, .int .i64 0, .int .i64 0] 85)) rfl ?_ (World.grownBy_alloc _ _ _) ⟨W.heap.size, rfl, World.rowIs_alloc W _ _ _ (fun i hi => getD_some _ i hi), g.size⟩
      simp [go_sem]
  · intro V W g hV
    have h0 : V 0 = _ := hV 0 (by decide)
    have h1 : V 1 = _ := hV 1 (by decide)
    obtain ⟨ao2, cap2, h2, _, _⟩ := hV 2 (by decide)
    have h3 : V 3 = _ := hV 3 (by decide)
    have h4 : V 4 = _ := hV 4 (by decide)
    have h5 : V 5 = _ := hV 5 (by decide)
    have h6 : V 6 = _ := hV 6 (by decide)
    obtain ⟨ao, cap, h7, hb7, ha7⟩ := hV 7 (by decide)
    obtain ⟨N, h8, hr8, hN8⟩ := hV 8 (by decide)
    obtain ⟨W5, hst, hr5, g5⟩ := run_store_core #[.slice ao cn cap, .int .u64 en, .int .u64 0, .int .u64 0, .int .u64 0, .int .u64 0, .int .u64 0, .int .u64 0, .int .u64 0, .int .u64 0, .int .u64 0, .int .u64 0, .int .u64 0, .int .u64 0, .int .u64 0, .int .u64 0, .int .u64 0, .int .u64 0, .pointer (some ⟨Dd + 1, 0, none⟩), .int .u64 0, .int .u64 0, .int .i64 0, .int .i64 0] hr8 rfl (by
      intro v hv
      simp only [List.mem_cons, List.not_mem_nil, or_false] at hv
      rcases hv with rfl | rfl | rfl | rfl | rfl | rfl | rfl | rfl | rfl | rfl | rfl | rfl | rfl | rfl | rfl | rfl | rfl | rfl | rfl | rfl | rfl | rfl | rfl <;> rfl)
    simp only [List.drop_succ_cons, List.drop_zero]
    simp [frV, dstOf, Act.put, h0, h1, h2, h3, h4, h5, h6, h7, h8]
    refine wpList_store1 (w' := W5) rfl ?_ ?_
    · show ((Instr.storeAt 85 (.pointer (some ⟨N, 0, none⟩)) (.agg #[.slice ao cn cap, .int .u64 en, .int .u64 0, .int .u64 0, .int .u64 0, .int .u64 0, .int .u64 0, .int .u64 0, .int .u64 0, .int .u64 0, .int .u64 0, .int .u64 0, .int .u64 0, .int .u64 0, .int .u64 0, .int .u64 0, .int .u64 0, .int .u64 0, .pointer (some ⟨Dd + 1, 0, none⟩), .int .u64 0, .int .u64 0, .int .i64 0, .int .i64 0])) >>= fun _ => pure Next.skip).run Tryz.prog W = _
      rw [Sem.run_bind, hst]
      rfl
    · have hsz3' : w.heap.size ≤ w3.heap.size := HGW.out.size
      have hNlt : w3.heap.size ≤ N := hN8
      have GW3 : w3.grownBy W none := grown_trans (grown_drew (World.grownBy.refl _ none)) g
      have HG5 : Hid (w.grownBy W5 none) := grown_two (grown_trans HGW.out GW3) g5 (by omega)
      have HM5 : Hid (IsM W5 (Dd + 1) Dd S (Mm.pt (fun _ => 0) 4096 dn dg)) := (HMM.out.kept GW3 (by simp) (by simp)).kept g5 (by simp; omega) (by simp; omega)
      have hw0 : w.heap.size < w3.heap.size := World.block_lt_of_cell? _ _ HX0.out
      have HT5 : W5.cell? ⟨w.heap.size, 0, none⟩ = some (.int .i64 t) := g5.cell (GW3.cell HX0.out (by simp)) (by simp; omega)
      have HA5 : Hid (RwIn .u64 W5 aa an ac ag) := (hA.grow (grown_trans HGW.out GW3) (fun _ _ _ _ => by simp)).grow g5 (fun b off h0 e hh => by have := hA.lt b off h0 e; injection hh with hh; omega)
      have HB5 : Hid (BsIn W5 ao cn cap cg) := hb7.grow g5 (fun b off h0 e hh => by
        injection hh with hh
        subst hh
        obtain ⟨b2, off2, e2, hc2⟩ := hb7.bs.at h0
        have hz := hr8.cell (i := 0) (by decide)
        rcases ha7 with h | ⟨b3, h, _⟩
        · rw [h] at e; cases e
        · rw [h] at e2
          injection e2 with e2
          injection e2 with e2 e3
          subst e2 e3
          rw [h] at e
          injection e with e
          injection e with e
          subst e
          have h5 := hc2 0 h0
          rw [Nat.zero_add] at h5
          rw [hz] at h5
          cases h5)
      have HAo : Hid (ao = none ∨ ∃ b, ao = some ⟨b, 0, none⟩ ∧ w3.heap.size ≤ b) := ha7
      have HNn : Hid (w3.heap.size ≤ N ∧ w.heap.size ≤ Dd ∧ Dd + 1 < w3.heap.size) := ⟨hN8, hD1, hsz3⟩
      have hne : N ≠ w.heap.size := by omega
      have R6 := hr5.set 19 (.int .u64 (rup (4096 + (dn : Int))))
      have R7 := R6.set 20 (.int .u64 ((S : Int) - 4096))
      have G7 : W5.grownBy ((W5.setCell ⟨N, 19, none⟩ (.int .u64 (rup (4096 + (dn : Int))))).setCell ⟨N, 20, none⟩ (.int .u64 ((S : Int) - 4096))) (some N) := grown_trans (grown_setCell _ _ _ _) (grown_setCell _ _ _ _)
      have HA7 := HA5.out.grow G7 (fun b off h0 e hh => by have := hA.lt b off h0 e; injection hh with hh; omega)
      obtain ⟨W8, hcopy, R8, G8⟩ : ∃ W8, (Builtin.copy_ #[35, 35] 3 #[.slice (some ⟨N, 2, none⟩) 16 16, .slice aa an ac]).run Tryz.prog ((W5.setCell ⟨N, 19, none⟩ (.int .u64 (rup (4096 + (dn : Int))))).setCell ⟨N, 20, none⟩ (.int .u64 ((S : Int) - 4096))) = .ok (goInt an) W8 ∧ W8.rowIs N 85 23 (fun i => if 2 ≤ i ∧ i < 2 + an then .int .u64 (ag (i - 2)) else if i = 20 then .int .u64 ((S : Int) - 4096) else if i = 19 then .int .u64 (rup (4096 + (dn : Int))) else (#[.slice ao cn cap, .int .u64 en, .int .u64 0, .int .u64 0, .int .u64 0, .int .u64 0, .int .u64 0, .int .u64 0, .int .u64 0, .int .u64 0, .int .u64 0, .int .u64 0, .int .u64 0, .int .u64 0, .int .u64 0, .int .u64 0, .int .u64 0, .int .u64 0, .pointer (some ⟨Dd + 1, 0, none⟩), .int .u64 0, .int .u64 0, .int .i64 0, .int .i64 0] : Array Value).getD i undef) ∧ ((W5.setCell ⟨N, 19, none⟩ (.int .u64 (rup (4096 + (dn : Int))))).setCell ⟨N, 20, none⟩ (.int .u64 ((S : Int) - 4096))).grownBy W8 (some N) := by
        rcases HA7.bs with h0 | ⟨b, off, e, hc⟩
        · subst h0
          refine ⟨_, run_copy_none (P := Tryz.prog) _ 35 35 3 23 _ aa 16 16 0 ac Tryz.underlying35 info_u64 (by simp), ?_, World.grownBy.refl _ _⟩
          refine R7.congr ?_
          intro j hj
          have hh : ¬ (2 ≤ j ∧ j < 2 + 0) := by omega
          first | exact (if_neg hh).symm | exact if_neg hh
        · rw [e]
          exact run_copy_words N 23 2 16 16 b off an ac _ ag R7 (by omega) (by omega) hc
      have R9 := R8.set 17 (.int .u64 (S : Int))
      have HG9 : Hid (W5.grownBy (W8.setCell ⟨N, 17, none⟩ (.int .u64 (S : Int))) (some N)) := grown_trans (grown_trans G7 G8) (grown_setCell _ _ _ _)
      obtain ⟨R, hR⟩ : ∃ R : Nat → Int, R = fun i => if i < an then ag i else if i = 15 then (S : Int) else 0 := ⟨_, rfl⟩
      have R10 : (W8.setCell ⟨N, 17, none⟩ (.int .u64 (S : Int))).rowIs N 85 23 (fun i => (#[.slice ao cn cap, .int .u64 en, .int .u64 (R 0), .int .u64 (R 1), .int .u64 (R 2), .int .u64 (R 3), .int .u64 (R 4), .int .u64 (R 5), .int .u64 (R 6), .int .u64 (R 7), .int .u64 (R 8), .int .u64 (R 9), .int .u64 (R 10), .int .u64 (R 11), .int .u64 (R 12), .int .u64 (R 13), .int .u64 (R 14), .int .u64 (R 15), .pointer (some ⟨Dd + 1, 0, none⟩), .int .u64 (rup (4096 + (dn : Int))), .int .u64 ((S : Int) - 4096), .int .i64 0, .int .i64 0] : Array Value).getD i undef) := R9.congr (fun j hj => by
        rw [hR]
        have hj' : j = 0 ∨ j = 1 ∨ j = 2 ∨ j = 3 ∨ j = 4 ∨ j = 5 ∨ j = 6 ∨ j = 7 ∨ j = 8 ∨ j = 9 ∨ j = 10 ∨ j = 11 ∨ j = 12 ∨ j = 13 ∨ j = 14 ∨ j = 15 ∨ j = 16 ∨ j = 17 ∨ j = 18 ∨ j = 19 ∨ j = 20 ∨ j = 21 ∨ j = 22 := by omega
        rcases hj' with rfl | rfl | rfl | rfl | rfl | rfl | rfl | rfl | rfl | rfl | rfl | rfl | rfl | rfl | rfl | rfl | rfl | rfl | rfl | rfl | rfl | rfl | rfl
        all_goals (simp; try (repeat' split) <;> first | rfl | omega | (exfalso; omega)))
      have HT8 : W8.cell? ⟨w.heap.size, 0, none⟩ = some (.int .i64 t) := (grown_trans G7 G8).cell HT5 (by simp; omega)
      obtain ⟨v17, c17⟩ : ∃ v, W8.cell? ⟨N, 17, none⟩ = some v := ⟨_, R8.cell (by decide)⟩
      have f8 := R8.frozen 17
      have c19 : W5.cell? ⟨N, 19, none⟩ = some (.int .u64 0) := hr5.cell (i := 19) (by decide)
      have c20 : W5.cell? ⟨N, 20, none⟩ = some (.int .u64 0) := hr5.cell (i := 20) (by decide)
      have f5 := hr5.frozen 19
      have f6 := hr5.frozen 20
      have HZ : rup (4096 + (dn : Int)) = Ru.up (4096 + (dn : Int)) := by rw [rup_eq]; unfold Ru.up; omega
      have hR15 : R 15 = (S : Int) := by rw [hR]; show (if 15 < an then ag 15 else if 15 = 15 then (S : Int) else 0) = S; rw [if_neg (by omega), if_pos rfl]
      have HPr : Hid (∀ W, Calls Tryz.prog 49 #[.int .u64 (4096 + (dn : Int))] W fun r w' => r = .returned (.tuple #[.int .u64 (rup (4096 + (dn : Int))), .bool (decide (4096 + (dn : Int) ≤ rup (4096 + (dn : Int))))]) ∧ w' = W) := fun W => pround _ W (by omega) (by omega)
      have G9 := HG9.out
      have GA : w.grownBy (W8.setCell ⟨N, 17, none⟩ (.int .u64 (S : Int))) none := grown_two HG5.out G9 (by omega)
      have HM9 : IsM (W8.setCell ⟨N, 17, none⟩ (.int .u64 (S : Int))) (Dd + 1) Dd S (Mm.pt (fun _ => 0) 4096 dn dg) := HM5.out.kept G9 (by simp; omega) (by simp; omega)
      have HB9 : BsIn (W8.setCell ⟨N, 17, none⟩ (.int .u64 (S : Int))) ao cn cap cg := HB5.out.grow G9 (fun b off h0 e hh => by
        injection hh with hh
        subst hh
        obtain ⟨b2, off2, e2, hc2⟩ := HB5.out.bs.at h0
        rw [e2] at e
        injection e with e
        injection e with e e3
        subst e
        have hz := hr5.cell (i := 21) (by decide)
        have hz0 := hr5.cell (i := 0) (by decide)
        have h5 := hc2 0 h0
        rcases HAo.out with h | ⟨b3, h, _⟩
        · rw [h] at e2; cases e2
        · rw [h] at e2
          injection e2 with e2
          injection e2 with e2 e4
          subst e2 e4
          rw [Nat.zero_add] at h5
          rw [hz0] at h5
          cases h5)
      have hsN : (W8.setCell ⟨N, 17, none⟩ (.int .u64 (S : Int))).heap.size = W8.heap.size := by simp [World.setCell]
      have hlt8 : N < W8.heap.size := R8.lt
      have HOk : (Ru.init ⟨t, ca, cn, cc, cg, da, dn, dc, dg, en, fa, fn, fc, fg⟩ S an ag).Ok := ⟨fun i => by
          show Ru.W64 (if i < an then ag i else if i = 15 then (S : Int) else 0)
          by_cases h1 : i < an
          · rw [if_pos h1]; exact hag i h1
          · rw [if_neg h1]; by_cases h2 : i = 15
            · rw [if_pos h2]; unfold Ru.W64; omega
            · rw [if_neg h2]; unfold Ru.W64; omega, by show 0 ≤ Ru.up (4096 + (dn : Int)) ∧ Ru.up (4096 + (dn : Int)) ≤ 1048600; unfold Ru.up; omega, by show Ru.W64 0; unfold Ru.W64; omega, by show Ru.W64 0; unfold Ru.W64; omega, by show -9223372036854775808 ≤ en ∧ en ≤ 9223372036854775807; omega, HM9.fit⟩
      have hRw : ∀ i, R i = (Ru.init ⟨t, ca, cn, cc, cg, da, dn, dc, dg, en, fa, fn, fc, fg⟩ S an ag).r i := fun i => by rw [hR]; rfl
      have hwr : Ru.wr en = en := by unfold Ru.wr; omega
      have HT9 : Hid ((W8.setCell ⟨N, 17, none⟩ (.int .u64 (S : Int))).cell? ⟨w.heap.size, 0, none⟩ = some (.int .i64 t)) := G9.cell HT5 (by simp; omega)
      have hat : ao = none ∨ ∃ b off, ao = some ⟨b, off, none⟩ := by rcases HAo.out with h | ⟨b, h, _⟩; exact .inl h; exact .inr ⟨b, 0, h⟩
      obtain ⟨W9, hW9⟩ : ∃ W9, W9 = W8.setCell ⟨N, 17, none⟩ (.int .u64 (S : Int)) := ⟨_, rfl⟩
      rw [← hW9] at GA HM9 HB9 hsN
      have hs9 : w.heap.size ≤ W9.heap.size := by omega
      have hcb : ∀ b off, 0 < cn → ao = some ⟨b, off, none⟩ → b ≠ W9.heap.size ∧ b ≠ Dd + 1 ∧ b ≠ Dd := fun b off h0 e => by
        have h1 := HB9.lt b off h0 e
        rcases HAo.out with h | ⟨b3, h, h3⟩
        · rw [h] at e; cases e
        · rw [h] at e
          injection e with e
          injection e with e
          omega
      refine HK.out _ _ ?_
      clear HK
      rcases ht12 with rfl | rfl
      · skip
        have hx : IsC ((W9.alloc (Obj.cells #[.slice ao cn cap, .int .u64 en, .int .u64 (R 0), .int .u64 (R 1), .int .u64 (R 2), .int .u64 (R 3), .int .u64 (R 4), .int .u64 (R 5), .int .u64 (R 6), .int .u64 (R 7), .int .u64 (R 8), .int .u64 (R 9), .int .u64 (R 10), .int .u64 (R 11), .int .u64 (R 12), .int .u64 (R 13), .int .u64 (R 14), .int .u64 (R 15), .pointer (some ⟨Dd + 1, 0, none⟩), .int .u64 (rup (4096 + (dn : Int))), .int .u64 ((S : Int) - 4096), .int .i64 0, .int .i64 0] 113)).alloc (Obj.cells #[.iface 111 (.pointer (some ⟨W9.heap.size, 0, none⟩))] 81)) ⟨1, ao, cn, cap, cg, W9.heap.size, Dd + 1, Dd, S⟩ (Ru.init ⟨1, ca, cn, cc, cg, da, dn, dc, dg, en, fa, fn, fc, fg⟩ S an ag) := by
          have r0 := fresh_row1 ⟨1, ao, cn, cap, cg, W9.heap.size, Dd + 1, Dd, S⟩ (Ru.init ⟨1, ca, cn, cc, cg, da, dn, dc, dg, en, fa, fn, fc, fg⟩ S an ag) rfl W9 R en (rup (4096 + (dn : Int))) 0 0 0 0 0 hRw hwr.symm HZ rfl rfl rfl rfl rfl
          have ga := World.grownBy_alloc W9 (Obj.cells #[.slice ao cn cap, .int .u64 en, .int .u64 (R 0), .int .u64 (R 1), .int .u64 (R 2), .int .u64 (R 3), .int .u64 (R 4), .int .u64 (R 5), .int .u64 (R 6), .int .u64 (R 7), .int .u64 (R 8), .int .u64 (R 9), .int .u64 (R 10), .int .u64 (R 11), .int .u64 (R 12), .int .u64 (R 13), .int .u64 (R 14), .int .u64 (R 15), .pointer (some ⟨Dd + 1, 0, none⟩), .int .u64 (rup (4096 + (dn : Int))), .int .u64 ((S : Int) - 4096), .int .i64 0, .int .i64 0] 113) none
          have gb := World.grownBy_alloc (W9.alloc (Obj.cells #[.slice ao cn cap, .int .u64 en, .int .u64 (R 0), .int .u64 (R 1), .int .u64 (R 2), .int .u64 (R 3), .int .u64 (R 4), .int .u64 (R 5), .int .u64 (R 6), .int .u64 (R 7), .int .u64 (R 8), .int .u64 (R 9), .int .u64 (R 10), .int .u64 (R 11), .int .u64 (R 12), .int .u64 (R 13), .int .u64 (R 14), .int .u64 (R 15), .pointer (some ⟨Dd + 1, 0, none⟩), .int .u64 (rup (4096 + (dn : Int))), .int .u64 ((S : Int) - 4096), .int .i64 0, .int .i64 0] 113)) (Obj.cells #[.iface 111 (.pointer (some ⟨W9.heap.size, 0, none⟩))] 81) none
          exact ⟨r0.of_block (gb.block _ r0.lt (by simp)), (HM9.kept ga (by simp) (by simp)).kept gb (by simp) (by simp), (HB9.grow ga (fun _ _ _ _ => by simp)).grow gb (fun _ _ _ _ => by simp), fun b off h0 e => hcb b off h0 e, s1, s2, HOk⟩
        refine new_rest1 S an ac dn cn cap w.heap.size N (Dd + 1) aa ao en (rup (4096 + (dn : Int))) _ R W5 W8 v17 s1 s2 hd3 HPr hcopy c17 f8 c19 c20 f5 f6 HT9 (row_lit _ rfl R10) ?_ _ _ _ _ _ _ _ _ _ _ _ _ _ _ _ _ _ _ _ _ _ _ _ _ _ _ _ _ _ _ _ _ _ _ _ _ _ _ _ _ _ _ _ _ _ _ _ _ _ _ _ _ _ _ _ _ _ _ _ _ _ _ _ _ _ _ _ _ _ _ _ _ _ _ _ _ _ _
        rw [← hW9]
        refine ⟨⟨1, ao, cn, cap, cg, W9.heap.size, Dd + 1, Dd, S⟩, W9.heap.size + 1, rfl, hx, ?_, rfl, hat, hs9, HNn.out.2.1, by omega, by show W9.heap.size + 1 ≠ W9.heap.size; omega, by show W9.heap.size + 1 ≠ Dd; omega, grown_trans GA (grown_alloc2 _ _ _)⟩
        have e : (W9.alloc (Obj.cells #[.slice ao cn cap, .int .u64 en, .int .u64 (R 0), .int .u64 (R 1), .int .u64 (R 2), .int .u64 (R 3), .int .u64 (R 4), .int .u64 (R 5), .int .u64 (R 6), .int .u64 (R 7), .int .u64 (R 8), .int .u64 (R 9), .int .u64 (R 10), .int .u64 (R 11), .int .u64 (R 12), .int .u64 (R 13), .int .u64 (R 14), .int .u64 (R 15), .pointer (some ⟨Dd + 1, 0, none⟩), .int .u64 (rup (4096 + (dn : Int))), .int .u64 ((S : Int) - 4096), .int .i64 0, .int .i64 0] 113)).heap.size = W9.heap.size + 1 := size_alloc _ _
        rw [← e]
        exact cell_new _ _ _
      · skip
        have hx : IsC ((W9.alloc (Obj.cells #[.slice ao cn cap, .int .u64 en, .int .u64 (R 0), .int .u64 (R 1), .int .u64 (R 2), .int .u64 (R 3), .int .u64 (R 4), .int .u64 (R 5), .int .u64 (R 6), .int .u64 (R 7), .int .u64 (R 8), .int .u64 (R 9), .int .u64 (R 10), .int .u64 (R 11), .int .u64 (R 12), .int .u64 (R 13), .int .u64 (R 14), .int .u64 (R 15), .pointer (some ⟨Dd + 1, 0, none⟩), .int .u64 (rup (4096 + (dn : Int))), .int .u64 ((S : Int) - 4096), .int .i64 0, .int .i64 0, .int .i64 0, .int .u64 0, .int .u64 0] 118)).alloc (Obj.cells #[.iface 114 (.pointer (some ⟨W9.heap.size, 0, none⟩))] 81)) ⟨2, ao, cn, cap, cg, W9.heap.size, Dd + 1, Dd, S⟩ (Ru.init ⟨2, ca, cn, cc, cg, da, dn, dc, dg, en, fa, fn, fc, fg⟩ S an ag) := by
          have r0 := fresh_row2 ⟨2, ao, cn, cap, cg, W9.heap.size, Dd + 1, Dd, S⟩ (Ru.init ⟨2, ca, cn, cc, cg, da, dn, dc, dg, en, fa, fn, fc, fg⟩ S an ag) rfl W9 R en (rup (4096 + (dn : Int))) 0 0 0 0 0 hRw hwr.symm HZ rfl rfl rfl rfl rfl
          have ga := World.grownBy_alloc W9 (Obj.cells #[.slice ao cn cap, .int .u64 en, .int .u64 (R 0), .int .u64 (R 1), .int .u64 (R 2), .int .u64 (R 3), .int .u64 (R 4), .int .u64 (R 5), .int .u64 (R 6), .int .u64 (R 7), .int .u64 (R 8), .int .u64 (R 9), .int .u64 (R 10), .int .u64 (R 11), .int .u64 (R 12), .int .u64 (R 13), .int .u64 (R 14), .int .u64 (R 15), .pointer (some ⟨Dd + 1, 0, none⟩), .int .u64 (rup (4096 + (dn : Int))), .int .u64 ((S : Int) - 4096), .int .i64 0, .int .i64 0, .int .i64 0, .int .u64 0, .int .u64 0] 118) none
          have gb := World.grownBy_alloc (W9.alloc (Obj.cells #[.slice ao cn cap, .int .u64 en, .int .u64 (R 0), .int .u64 (R 1), .int .u64 (R 2), .int .u64 (R 3), .int .u64 (R 4), .int .u64 (R 5), .int .u64 (R 6), .int .u64 (R 7), .int .u64 (R 8), .int .u64 (R 9), .int .u64 (R 10), .int .u64 (R 11), .int .u64 (R 12), .int .u64 (R 13), .int .u64 (R 14), .int .u64 (R 15), .pointer (some ⟨Dd + 1, 0, none⟩), .int .u64 (rup (4096 + (dn : Int))), .int .u64 ((S : Int) - 4096), .int .i64 0, .int .i64 0, .int .i64 0, .int .u64 0, .int .u64 0] 118)) (Obj.cells #[.iface 114 (.pointer (some ⟨W9.heap.size, 0, none⟩))] 81) none
          exact ⟨r0.of_block (gb.block _ r0.lt (by simp)), (HM9.kept ga (by simp) (by simp)).kept gb (by simp) (by simp), (HB9.grow ga (fun _ _ _ _ => by simp)).grow gb (fun _ _ _ _ => by simp), fun b off h0 e => hcb b off h0 e, s1, s2, HOk⟩
        refine new_rest2 S an ac dn cn cap w.heap.size N (Dd + 1) aa ao en (rup (4096 + (dn : Int))) _ R W5 W8 v17 s1 s2 hd3 HPr hcopy c17 f8 c19 c20 f5 f6 HT9 (row_lit _ rfl R10) ?_ _ _ _ _ _ _ _ _ _ _ _ _ _ _ _ _ _ _ _ _ _ _ _ _ _ _ _ _ _ _ _ _ _ _ _ _ _ _ _ _ _ _ _ _ _ _ _ _ _ _ _ _ _ _ _ _ _ _ _ _ _ _ _ _ _ _ _ _ _ _ _ _ _ _ _ _ _ _
        rw [← hW9]
        refine ⟨⟨2, ao, cn, cap, cg, W9.heap.size, Dd + 1, Dd, S⟩, W9.heap.size + 1, rfl, hx, ?_, rfl, hat, hs9, HNn.out.2.1, by omega, by show W9.heap.size + 1 ≠ W9.heap.size; omega, by show W9.heap.size + 1 ≠ Dd; omega, grown_trans GA (grown_alloc2 _ _ _)⟩
        have e : (W9.alloc (Obj.cells #[.slice ao cn cap, .int .u64 en, .int .u64 (R 0), .int .u64 (R 1), .int .u64 (R 2), .int .u64 (R 3), .int .u64 (R 4), .int .u64 (R 5), .int .u64 (R 6), .int .u64 (R 7), .int .u64 (R 8), .int .u64 (R 9), .int .u64 (R 10), .int .u64 (R 11), .int .u64 (R 12), .int .u64 (R 13), .int .u64 (R 14), .int .u64 (R 15), .pointer (some ⟨Dd + 1, 0, none⟩), .int .u64 (rup (4096 + (dn : Int))), .int .u64 ((S : Int) - 4096), .int .i64 0, .int .i64 0, .int .i64 0, .int .u64 0, .int .u64 0] 118)).heap.size = W9.heap.size + 1 := size_alloc _ _
        rw [← e]
        exact cell_new _ _ _
end Go.Proofs.YtdklaeppcjopoaaGreatDoor
