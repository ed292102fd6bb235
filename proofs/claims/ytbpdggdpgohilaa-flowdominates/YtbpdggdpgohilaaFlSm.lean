/- flow: semidominators. -/
import Derived.Test.YtbpdggdpgohilaaG20
import Derived.Test.YtbpdggdpgohilaaRuLh
import Derived.Test.YtbpdggdpgohilaaG10
namespace Go.Proofs.Ytbpdggdpgohilaa
open Go.RowKit
set_option linter.unusedVariables false
set_option maxRecDepth 100000
set_option maxHeartbeats 16000000

/-- what a walk's parts lie as, in every later world -/
structure FwC (bs : List Sa.Bl) (wk : Sa.Wk) (g : Nat → Int) (W : World) (N NN WB SB MB RB PB bb bo mc pc k : Nat) : Prop where
  c0 : W.cell? ⟨WB, 0, none⟩ = some (.pointer (some ⟨SB, 0, none⟩))
  c1 : W.cell? ⟨WB, 1, none⟩ = some (.slice (some ⟨PB, 0, none⟩) wk.order.length pc)
  s0 : W.cell? ⟨SB, 0, none⟩ = some (.slice (some ⟨MB, 0, none⟩) wk.order.length mc)
  s1 : W.cell? ⟨SB, 1, none⟩ = some (.slice (some ⟨RB, 0, none⟩) bs.length bs.length)
  o : ∀ i, i < wk.order.length → W.cell? ⟨MB, i, none⟩ = some (.int .i64 (wk.order.getD i 0))
  r : ∀ i, i < bs.length → W.cell? ⟨RB, i, none⟩ = some (.int .i64 (g i))
  pz : OwnZ W N (.slice (some ⟨PB, 0, none⟩) wk.order.length pc) wk.parent
  b : ∀ i, i < bs.length → ∃ a1 a2 a3 a4 k1 k2 k3 k4, BlC (· < NN) W bb (bo + i * 6) (bs.getD i Sa.bl0) a1 a2 a3 a4 k1 k2 k3 k4
theorem fwC {N NN : Nat} {bs : List Sa.Bl} {wk : Sa.Wk} {post : List Int} (hO : Sa.WkO bs wk) {w : World} {a : Option Addr} {k PB BX FB WB SB RB : Nat} (hB : BlL (· < NN) w a k bs) (hA : FwAt N w PB BX FB WB SB RB bs.length a k wk post) : ∃ MB PB bb bo mc pc g, a = some ⟨bb, bo, none⟩ ∧ wk.order.length ≤ mc ∧ wk.order.length ≤ pc ∧ mc ≤ maxLen ∧ pc ≤ maxLen ∧ (∀ b, b < bs.length → wk.rank b ≠ -1 → g b = wk.rank b) ∧ ∀ W, w.grownBy W none → FwC bs wk g W N NN WB SB MB RB PB bb bo mc pc k := by
  obtain ⟨mv, pv, qv, r, hL⟩ := hA
  obtain ⟨oa, oc, hov, ho1, ho2, ho3⟩ := hL.st.o.slice
  obtain ⟨pa, pc, hpv, hp1, hp2, hp3⟩ := hL.p.slice
  have hpl := hO.i.len
  obtain ⟨OB, e1, -, -⟩ := ho3 hO.o0.1
  obtain ⟨PB2, e2, -, -⟩ := hp3 (by rw [← hpl]; exact hO.o0.1)
  have hn0 : 0 < bs.length := by have := hO.i.le; have := hO.o0.1; omega
  obtain ⟨bb, bo, -, -, -, -, -, -, -, -, e3, -, -⟩ := hB.num hn0
  subst e1 e2 e3
  rw [← hpl] at hpv hp1
  refine ⟨OB, PB2, bb, bo, oc, pc, r, rfl, ho1, hp1, ho2, hp2, fun b hb => (hL.st.pl b hb).2, fun W g => ?_⟩
  have hL' := hL.grow g
  rw [hov, hpv] at hL'
  refine ⟨hL'.w.cell (i := 0) rfl, hL'.w.cell (i := 1) rfl, hL'.st.k.cell (i := 0) rfl, hL'.st.k.cell (i := 1) rfl, fun i hi => hL'.st.o.n.cell hi, fun i hi => hL'.st.r.cell hi, hL'.p, fun i hi => ?_⟩
  obtain ⟨b2, o2, a1, a2, a3, a4, k1, k2, k3, k4, he, -, hb⟩ := (hB.grow g).num hi
  injection he with he
  injection he with e1 e2
  subst e1 e2
  exact ⟨a1, a2, a3, a4, k1, k2, k3, k4, hb⟩
def smC (m WB PB pc : Nat) : Nat → Value
  | 2 => .pointer (some ⟨WB, 1, none⟩)
  | 3 => .slice (some ⟨PB, 0, none⟩) m pc
  | 7 => .pointer (some ⟨WB, 1, none⟩)
  | 8 => .slice (some ⟨PB, 0, none⟩) m pc
  | 9 => .int .i64 (m : Int)
  | _ => .pointer (some ⟨WB, 0, none⟩)
def smP (S m WB PB pc : Nat) (par : List Int) (W0 : World) : Nat → (Nat → Value) → World → Prop
  | 4, V, w => OwnZ w S (V 4) par
  | 10, V, w => ∃ q, V 10 = .slice (some ⟨q, 0, none⟩) m m ∧ OwnN w S (.slice (some ⟨q, 0, none⟩) m m) m (fun _ => 0)
  | 11, V, w => ∃ q, V 11 = .pointer (some ⟨q, 0, none⟩) ∧ S ≤ q
  | 12, V, w => ∃ q, V 12 = .pointer (some ⟨q, 0, none⟩) ∧ S ≤ q
  | 13, V, w => ∃ q, V 11 = .pointer (some ⟨q, 0, none⟩) ∧ Bk w q 24 [V 4] ∧ W0.grownBy w none
  | i, V, w => V i = smC m WB PB pc i
def smG (V : Nat → Value) (w : World) : Prop := (∀ q, V 11 = .pointer (some ⟨q, 0, none⟩) → q < w.heap.size ∧ (∃ x, Bk w q 24 [x]) ∧ V 12 ≠ .pointer (some ⟨q, 0, none⟩)) ∧ ∀ q, V 12 = .pointer (some ⟨q, 0, none⟩) → q < w.heap.size ∧ Bk w q 24 [.slice none 0 0]
/-- what an operation may turn -/
def smT (S : Nat) : Nat → World → World → Prop
  | 13, w, w' => ∃ q x y, S ≤ q ∧ Bk w q 24 [y] ∧ w' = w.setCell ⟨q, 0, none⟩ x
  | _, w, w' => w.grownBy w' none
theorem smG_other {V : Nat → Value} {w w' : World} (h : smG V w) (hg : w.grownBy w' none) {i : Nat} (h1 : (11 : Nat) ≠ i) (h3 : (12 : Nat) ≠ i) {v : Value} : smG (upV V i v) w' := by
  unfold smG
  rw [upV_ne h1, upV_ne h3]
  refine ⟨fun q hq => ?_, fun q hq => ?_⟩
  · obtain ⟨a1, ⟨x, a2⟩, a3⟩ := h.1 q hq
    exact ⟨Nat.lt_of_lt_of_le a1 hg.size, ⟨x, a2.grow hg⟩, a3⟩
  · obtain ⟨a1, a2⟩ := h.2 q hq
    exact ⟨Nat.lt_of_lt_of_le a1 hg.size, a2.grow hg⟩
theorem ownRow_neL {w : World} {base q n : Nat} {v y : Value} {xs : List Value} (h : w.ownsRow base 3 1 v n xs) (hk : Bk w q 24 [y]) (hq : v.ownBlock = some q) : False := by
  rcases h.2 with ⟨e, _⟩ | ⟨q', c', cur, e, _, e2, _⟩
  · rw [e] at hq; cases hq
  · rw [e] at hq
    injection hq with hq
    subst hq
    unfold Bk at hk
    rw [e2] at hk
    simp at hk
theorem smT_keepK {S i : Nat} {W0 w w' : World} (hS : S = W0.heap.size) (h : smT S i w w') (hK : W0.grownBy w none) : W0.grownBy w' none := by
  unfold smT at h
  split at h
  · obtain ⟨q, x, y, h1, h2, rfl⟩ := h
    exact Ch.fresh2 hK (Ch.one (l := [q]) (grown_set _ _ _ _) (by simp)) (by intro z hz; simp at hz; omega)
  · exact grown_trans hK h
theorem smP_keep {S m WB PB pc : Nat} {par : List Int} {W0 : World} {i j : Nat} {V : Nat → Value} {w w' : World} (hne : j ≠ i) (g : smT S i w w') (h : smP S m WB PB pc par W0 j V w) : smP S m WB PB pc par W0 j V w' := by
  unfold smT at g
  split at g
  · obtain ⟨q, x, y, h1, h2, rfl⟩ := g
    have hc : Ch w (w.setCell ⟨q, 0, none⟩ x) [q] := Ch.one (grown_set _ _ _ _) (by simp)
    unfold smP at h
    split at h
    · exact ownsRow_ch h hc (fun z hz hm => by rw [List.mem_singleton.1 hm] at hz; exact ownRow_neL h h2 hz)
    · obtain ⟨z, e1, e2⟩ := h
      exact ⟨z, e1, ownsRow_ch e2 hc (fun z hz hm => by rw [List.mem_singleton.1 hm] at hz; exact ownRow_neL e2 h2 hz)⟩
    · exact h
    · exact h
    · exact absurd rfl hne
    · unfold smP
      split <;> first | exact h | (exfalso; simp_all; done)
  · unfold smP at h
    split at h
    · exact h.grow g
    · obtain ⟨q, h1, h2⟩ := h; exact ⟨q, h1, h2.grow g⟩
    · exact h
    · exact h
    · obtain ⟨q, h1, h2, h3⟩ := h; exact ⟨q, h1, h2.grow g, grown_trans h3 g⟩
    · unfold smP
      split <;> first | exact h | (exfalso; simp_all; done)
theorem smP_cong {S m WB PB pc : Nat} {par : List Int} {W0 : World} {j : Nat} {V V' : Nat → Value} {w : World} (h : V j = V' j) (h13 : j = 13 → V 11 = V' 11 ∧ V 4 = V' 4) (hP : smP S m WB PB pc par W0 j V w) : smP S m WB PB pc par W0 j V' w := by
  unfold smP at hP
  split at hP
  · rw [h] at hP; exact hP
  · rw [h] at hP; exact hP
  · rw [h] at hP; exact hP
  · rw [h] at hP; exact hP
  · obtain ⟨e1, e2⟩ := h13 rfl
    rw [e1, e2] at hP; exact hP
  · rw [h] at hP
    unfold smP
    split <;> first | exact hP | (exfalso; simp_all; done)
theorem stepFH_skip {P : Program} {o : Oper} {T : World → World → Prop} {Φ Γ : (Nat → Value) → World → Prop} {V : Nat → Value} {i : Nat} {a : Act} {w w' : World} (hg : o.guard = none) (hr : (execOp a.eval o).run P w = .ok .skip w') (hT : T w w') (hΦ : Φ (upV V i undef) w') (hΓ : Γ (upV V i undef) w') : stepFH P o T Φ Γ V i a w := by
  unfold stepFH
  rw [hr]
  exact ⟨hg, hT, hΦ, hΓ⟩
theorem flSemis_any {N NN : Nat} {bs : List Sa.Bl} {wk : Sa.Wk} {post : List Int} (hO : Sa.WkO bs wk) (hble : bs.length ≤ 4096) {w : World} {a : Option Addr} {k PB0 BX FB0 WB SB RB : Nat} (hB : BlL (· < NN) w a k bs) (hA : FwAt N w PB0 BX FB0 WB SB RB bs.length a k wk post) : Calls Try.prog 29 #[.pointer (some ⟨WB, 0, none⟩), .slice a bs.length k] w fun r w' => ∃ M, r = .returned (.slice (some ⟨M, 0, none⟩) wk.order.length wk.order.length) ∧ OwnN w' w.heap.size (.slice (some ⟨M, 0, none⟩) wk.order.length wk.order.length) wk.order.length (Sa.semis bs wk) ∧ w.grownBy w' none := by
  obtain ⟨MB, PB, bb, bo, oc, pc, g, rfl, ho1, hp1, ho2, hp2, hgr, hF⟩ := fwC hO hB hA
  have HF : Hid (∀ W, w.grownBy W none → FwC bs wk g W N NN WB SB MB RB PB bb bo oc pc k) := hF
  have HO : Hid (Sa.WkO bs wk) := hO
  have HGr0 : Hid (∀ b, b < bs.length → wk.rank b ≠ -1 → g b = wk.rank b) := hgr
  obtain ⟨m, hm⟩ : ∃ m, m = wk.order.length := ⟨_, rfl⟩
  have HM : Hid (m = wk.order.length) := hm
  have hm0 : 0 < m := by rw [hm]; exact hO.o0.1
  have hmn : m ≤ bs.length := by rw [hm]; exact hO.i.le
  have hmI : (0 : Int) < (m : Int) := by omega
  have hm9 : (m : Int) ≤ 8796093022208 := by omega
  have hm4 : (m : Int) ≤ 4096 := by omega
  obtain ⟨FR, hFR⟩ : ∃ FR, FR = Sa.semis bs wk := ⟨_, rfl⟩
  have HFR : Hid (FR = Sa.semiAll bs wk (m - 1) (fun _ => 0) ⟨fun i => wk.parent.getD i 0, fun _ => 0⟩) := by show FR = _; rw [hFR, hm]; rfl
  have hmf : ∀ (fn : Fn) (first cap : Array Value) (w : World), (Instr.makeFunc fn first cap).run Try.prog w = .ok (.func fn first cap) w := fun _ _ _ _ => rfl
  have c1 := (hF w (World.grownBy.refl _ _)).c1
  rw [← hm] at c1 ho1 hp1
  rw [← hm, ← hFR]
  unfold maxLen at ho2 hp2
  clear hFR hB hA hF hO hm hgr
  go_enter Try.func29, Try.ntmps29
  go_wp2_with (at_make; refine wp_mkn rfl (.tmp 16) (.tmp 16) rfl m hm9 rfl rfl ?_; intro w1 ho9 hg1; have HOM : Hid (OwnN w1 w.heap.size (.slice (some ⟨w.heap.size, 0, none⟩) m m) m (fun _ => 0)) := ho9; have HG1 : Hid (w.grownBy w1 none) := hg1; clear ho9 hg1)
  obtain ⟨M, hM⟩ : ∃ M, M = w.heap.size := ⟨_, rfl⟩
  have HMs : Hid (M = w.heap.size) := hM
  rw [← hM] at HOM ⊢
  obtain ⟨S, hS⟩ : ∃ S, S = w1.heap.size := ⟨_, rfl⟩
  have HS : Hid (S = w1.heap.size) := hS
  have HMS : Hid (M < S) := by show M < S; rw [hS]; exact HOM.out.lt M rfl
  clear hM hS c1
  have HW : Hid (∀ W, w1.drew.grownBy W none → FwC bs wk g W N NN WB SB MB RB PB bb bo oc pc k) := fun W g => HF.out W (grown_trans HG1.out (grown_trans (grown_drew (World.grownBy.refl _ _)) g))
  refine region_lfH (fun _ W => w1.drew.grownBy W none) (smT S) (smP S m WB PB pc wk.parent w1.drew) smG 14
    (fun i V V' W hi h1 h2 h3 => smP_cong h1 (fun h9 => by subst h9; exact ⟨h2 11 (by kernel_rfl), h2 4 (by kernel_rfl)⟩) h3)
    (fun V V' W h1 h2 => by unfold smG at h2 ⊢; rw [← h1 11 (by omega), ← h1 12 (by omega)]; exact h2)
    (fun i j W W' hi hj hne hc hT hK => smT_keepK (by rw [HS.out]; simp) hT hK)
    (fun i j V W W' hi hj hne hc hT hP => smP_keep hne hT hP)
    (by kernel_rfl) (by kernel_rfl) (by kernel_rfl) (by kernel_rfl) (fun i hi => World.grownBy.refl _ _) ⟨fun q hq => ?_, fun q hq => ?_⟩ (fun U => ?_)
  · exact absurd hq (by rw [show valOf _ _ _ = undef from rfl]; simp [undef])
  · exact absurd hq (by rw [show valOf _ _ _ = undef from rfl]; simp [undef])
  simp only [List.take_succ_cons, List.take_zero]
  refine lfl_consH 1 rfl (fun W hK hG hd => ?_) ?_
  · exact stepFH_val rfl rfl (v := .pointer (some ⟨WB, 0, none⟩)) (w' := W) (by simp [go_sem]) (World.grownBy.refl _ _) (upV_at U 0 _) (smG_other hG (World.grownBy.refl _ _) (by decide) (by decide))
  simp only [Act.put, List.setIfInBounds_toArray, List.set_cons_succ, List.set_cons_zero]
  refine lfl_consH 2 rfl (fun W hK hG hd => ?_) ?_
  · have e0 : U 0 = smC m WB PB pc 0 := hd 0 (by kernel_rfl)
    exact stepFH_val rfl rfl (v := .pointer (some ⟨WB, 0, none⟩)) (w' := W) (by simp [go_sem, e0, smC]) (World.grownBy.refl _ _) (upV_at U 1 _) (smG_other hG (World.grownBy.refl _ _) (by decide) (by decide))
  simp only [Act.put, List.setIfInBounds_toArray, List.set_cons_succ, List.set_cons_zero]
  refine lfl_consH 3 rfl (fun W hK hG hd => ?_) ?_
  · have e1 : U 1 = smC m WB PB pc 1 := hd 1 (by kernel_rfl)
    exact stepFH_val rfl rfl (v := .pointer (some ⟨WB, 1, none⟩)) (w' := W) (by simp [go_sem, e1, smC]) (World.grownBy.refl _ _) (upV_at U 2 _) (smG_other hG (World.grownBy.refl _ _) (by decide) (by decide))
  simp only [Act.put, List.setIfInBounds_toArray, List.set_cons_succ, List.set_cons_zero]
  refine lfl_consH 4 rfl (fun W hK hG hd => ?_) ?_
  · have e2 : U 2 = smC m WB PB pc 2 := hd 2 (by kernel_rfl)
    have q1 := (HW.out W hK).c1
    rw [← HM.out] at q1
    exact stepFH_val rfl rfl (v := .slice (some ⟨PB, 0, none⟩) m pc) (w' := W) (by simp [go_sem, e2, smC, q1]) (World.grownBy.refl _ _) (upV_at U 3 _) (smG_other hG (World.grownBy.refl _ _) (by decide) (by decide))
  simp only [Act.put, List.setIfInBounds_toArray, List.set_cons_succ, List.set_cons_zero]
  refine lfl_consH 5 rfl (fun W hK hG hd => ?_) ?_
  · have e3 : U 3 = smC m WB PB pc 3 := hd 3 (by kernel_rfl)
    have hp := (HW.out W hK).pz
    rw [← HM.out] at hp
    refine stepFH_call rfl rfl (f := 30) (args := #[.slice (some ⟨PB, 0, none⟩) m pc]) (by simp [go_sem, e3, smC]) ((saClone_any hp (by rw [← HO.out.i.len, ← HM.out]; omega)).mono ?_)
    rintro e w' ⟨u, rfl, ho, hg⟩
    exact ⟨u, rfl, hg, by show OwnZ w' S (upV U 4 u 4) wk.parent; rw [upV_at]; exact ho.low (by rw [HS.out]; exact hK.size), smG_other hG hg (by decide) (by decide)⟩
  simp only [Act.put, List.setIfInBounds_toArray, List.set_cons_succ, List.set_cons_zero]
  refine lfl_consH 6 rfl (fun W hK hG hd => ?_) ?_
  · exact stepFH_val rfl rfl (v := .pointer (some ⟨WB, 0, none⟩)) (w' := W) (by simp [go_sem]) (World.grownBy.refl _ _) (upV_at U 5 _) (smG_other hG (World.grownBy.refl _ _) (by decide) (by decide))
  simp only [Act.put, List.setIfInBounds_toArray, List.set_cons_succ, List.set_cons_zero]
  refine lfl_consH 7 rfl (fun W hK hG hd => ?_) ?_
  · have e5 : U 5 = smC m WB PB pc 5 := hd 5 (by kernel_rfl)
    exact stepFH_val rfl rfl (v := .pointer (some ⟨WB, 0, none⟩)) (w' := W) (by simp [go_sem, e5, smC]) (World.grownBy.refl _ _) (upV_at U 6 _) (smG_other hG (World.grownBy.refl _ _) (by decide) (by decide))
  simp only [Act.put, List.setIfInBounds_toArray, List.set_cons_succ, List.set_cons_zero]
  refine lfl_consH 8 rfl (fun W hK hG hd => ?_) ?_
  · have e6 : U 6 = smC m WB PB pc 6 := hd 6 (by kernel_rfl)
    exact stepFH_val rfl rfl (v := .pointer (some ⟨WB, 1, none⟩)) (w' := W) (by simp [go_sem, e6, smC]) (World.grownBy.refl _ _) (upV_at U 7 _) (smG_other hG (World.grownBy.refl _ _) (by decide) (by decide))
  simp only [Act.put, List.setIfInBounds_toArray, List.set_cons_succ, List.set_cons_zero]
  refine lfl_consH 9 rfl (fun W hK hG hd => ?_) ?_
  · have e7 : U 7 = smC m WB PB pc 7 := hd 7 (by kernel_rfl)
    have q1 := (HW.out W hK).c1
    rw [← HM.out] at q1
    exact stepFH_val rfl rfl (v := .slice (some ⟨PB, 0, none⟩) m pc) (w' := W) (by simp [go_sem, e7, smC, q1]) (World.grownBy.refl _ _) (upV_at U 8 _) (smG_other hG (World.grownBy.refl _ _) (by decide) (by decide))
  simp only [Act.put, List.setIfInBounds_toArray, List.set_cons_succ, List.set_cons_zero]
  refine lfl_consH 10 rfl (fun W hK hG hd => ?_) ?_
  · have e8 : U 8 = smC m WB PB pc 8 := hd 8 (by kernel_rfl)
    exact stepFH_val rfl rfl (v := .int .i64 (m : Int)) (w' := W) (by simp [go_sem, e8, smC]) (World.grownBy.refl _ _) (upV_at U 9 _) (smG_other hG (World.grownBy.refl _ _) (by decide) (by decide))
  simp only [Act.put, List.setIfInBounds_toArray, List.set_cons_succ, List.set_cons_zero]
  refine lfl_consH 11 rfl (fun W hK hG hd => ?_) ?_
  · have e9 : U 9 = smC m WB PB pc 9 := hd 9 (by kernel_rfl)
    obtain ⟨w', hr, r1, r2⟩ := run_make_n W m hm9
    exact stepFH_val rfl rfl (v := .slice (some ⟨W.heap.size, 0, none⟩) m m) (w' := w') (by simp [execOp, hr, Act.eval, e9, smC, Result.andThen]) r2 ⟨_, upV_at U 10 _, r1.low (by rw [HS.out]; exact hK.size)⟩ (smG_other hG r2 (by decide) (by decide))
  simp only [Act.put, List.setIfInBounds_toArray, List.set_cons_succ, List.set_cons_zero]
  refine lfl_consH 12 rfl (fun W hK hG hd => ?_) ?_
  · refine stepFH_val rfl rfl (v := .pointer (some ⟨W.heap.size, 0, none⟩)) (w' := W.alloc (.cells #[.slice none 0 0] 24)) (by simp [go_sem]) (World.grownBy_alloc _ _ _) ⟨W.heap.size, upV_at U 11 _, by rw [HS.out]; exact hK.size⟩ ?_
    have hga := World.grownBy_alloc W (.cells #[.slice none 0 0] 24) none
    have hsz : (W.alloc (.cells #[.slice none 0 0] 24)).heap.size = W.heap.size + 1 := by simp
    unfold smG
    rw [upV_at, upV_ne (show (12 : Nat) ≠ 11 by decide), hsz]
    refine ⟨fun q hq => ?_, fun q hq => ⟨Nat.lt_succ_of_lt (hG.2 q hq).1, (hG.2 q hq).2.grow hga⟩⟩
    simp at hq
    subst hq
    exact ⟨Nat.lt_succ_self _, ⟨_, Bk.new _ _ [.slice none 0 0]⟩, fun e => Nat.lt_irrefl _ (hG.2 _ e).1⟩
  simp only [Act.put, List.setIfInBounds_toArray, List.set_cons_succ, List.set_cons_zero]
  refine lfl_consH 13 rfl (fun W hK hG hd => ?_) ?_
  · refine stepFH_val rfl rfl (v := .pointer (some ⟨W.heap.size, 0, none⟩)) (w' := W.alloc (.cells #[.slice none 0 0] 24)) (by simp [go_sem]) (World.grownBy_alloc _ _ _) ⟨W.heap.size, upV_at U 12 _, by rw [HS.out]; exact hK.size⟩ ?_
    have hga := World.grownBy_alloc W (.cells #[.slice none 0 0] 24) none
    have hsz : (W.alloc (.cells #[.slice none 0 0] 24)).heap.size = W.heap.size + 1 := by simp
    unfold smG
    rw [upV_at, upV_ne (show (11 : Nat) ≠ 12 by decide), hsz]
    refine ⟨fun q hq => ?_, fun q hq => ?_⟩
    · obtain ⟨a1, ⟨x, a2⟩, a3⟩ := hG.1 q hq
      refine ⟨Nat.lt_succ_of_lt a1, ⟨x, a2.grow hga⟩, fun e => ?_⟩
      simp at e
      first | done | omega
    · simp at hq
      subst hq
      exact ⟨Nat.lt_succ_self _, Bk.new _ _ [.slice none 0 0]⟩
  simp only [Act.put, List.setIfInBounds_toArray, List.set_cons_succ, List.set_cons_zero]
  refine lfl_consH 14 rfl (fun W hK hG hd => ?_) ?_
  · obtain ⟨q, e11, hq⟩ := hd 11 (by kernel_rfl)
    have h4 : OwnZ W S (U 4) wk.parent := hd 4 (by kernel_rfl)
    obtain ⟨va, vc, e4, -⟩ := h4.slice
    obtain ⟨a1, ⟨y, a2⟩, a3⟩ := hG.1 q e11
    have cq := a2.cell (i := 0) rfl
    have fq := a2.frozen 0
    have a4 : Bk (W.setCell ⟨q, 0, none⟩ (U 4)) q 24 [U 4] := a2.set 0 _
    have hC : Ch W (W.setCell ⟨q, 0, none⟩ (U 4)) [q] := Ch.one (grown_set _ _ _ _) (by simp)
    refine stepFH_skip rfl (w' := W.setCell ⟨q, 0, none⟩ (U 4)) (by rw [e4]; simp [go_sem, e11, cq, fq]) ⟨q, _, y, hq, a2, rfl⟩ ⟨q, by rw [upV_ne (by decide)]; exact e11, by rw [upV_ne (by decide)]; exact a4, Ch.fresh2 hK hC (by intro z hz; simp at hz; rw [hz]; have := HS.out; simp; omega)⟩ ?_
    unfold smG
    rw [upV_ne (show (11 : Nat) ≠ 13 by decide), upV_ne (show (12 : Nat) ≠ 13 by decide)]
    refine ⟨fun z hz => ?_, fun z hz => ?_⟩
    · rw [e11] at hz
      simp at hz
      subst hz
      exact ⟨Nat.lt_of_lt_of_le a1 hC.size, ⟨_, a4⟩, a3⟩
    · obtain ⟨b1, b2⟩ := hG.2 z hz
      have hne : z ≠ q := fun e => by subst e; exact a3 hz
      exact ⟨Nat.lt_of_lt_of_le b1 hC.size, b2.ch hC (by simp; exact hne)⟩
  simp only [Act.put]
  refine lfl_nilH fun W8 hg8 hall => ?_
  have hU8 : OwnZ W8 S (U 4) wk.parent := hall 4 (by decide)
  obtain ⟨Lo, e10, hL8⟩ := hall 10 (by decide)
  obtain ⟨UP, e11, hUPS⟩ := hall 11 (by decide)
  obtain ⟨LP, e12, hLPS⟩ := hall 12 (by decide)
  obtain ⟨UP', e13, hk11, hG18⟩ := hall 13 (by decide)
  rw [e11] at e13
  injection e13 with e13
  injection e13 with e13
  injection e13 with e13
  subst e13
  have hne : UP ≠ LP := fun e => (hg8.1 UP e11).2.2 (by rw [e12, e])
  have hk12 := (hg8.2 LP e12).2
  have hpl : wk.parent.length = m := by rw [HM.out]; exact HO.out.i.len.symm
  obtain ⟨ua, uc, e4, hu1, hu2, hu3⟩ := hU8.slice
  obtain ⟨U1, hua, hUS, hUl⟩ := hu3 (by omega)
  rw [hua] at e4
  rw [e4] at hk11 hU8 ⊢
  rw [hpl] at hU8 hu1 hk11 ⊢
  rw [e10, e11, e12]
  have HU8 : Hid (OwnN W8 S (.slice (some ⟨U1, 0, none⟩) m uc) m (fun i => wk.parent.getD i 0)) := by have h9 := hU8.n; rw [hpl] at h9; exact h9
  have HL8 : Hid (OwnN W8 S (.slice (some ⟨Lo, 0, none⟩) m m) m (fun _ => 0)) := hL8
  have hUL : U1 ≠ Lo := fun e => by
    have q1 := HU8.out.cell hm0
    have q2 := HL8.out.cell hm0
    rw [e, q2] at q1
    have := HO.out.o0.2.2
    rw [this] at q1
    injection q1 with q1
    injection q1 with _ q1
    omega
  have hLS : S ≤ Lo := HL8.out.base Lo rfl
  have HG18 : Hid (w1.grownBy W8 none) := grown_trans (grown_drew (World.grownBy.refl _ _)) hG18
  have HK11 : Hid (Bk W8 UP 24 [.slice (some ⟨U1, 0, none⟩) m uc]) := hk11
  have HK12 : Hid (Bk W8 LP 24 [.slice none 0 0]) := hk12
  have cl := hk12.cell (i := 0) rfl
  have fl := hk12.frozen 0
  clear hall hg8 hk11 hk12 e4 hu2 hu3 hua hpl hG18 e10 e11 e12 hU8 hL8 HW
  simp only [List.drop_succ_cons, List.drop_zero]
  go_wp2_with fail
  obtain ⟨FP, hFP⟩ : ∃ FP, FP = W8.heap.size := ⟨_, rfl⟩
  rw [← hFP]
  obtain ⟨W9, hW9⟩ : ∃ W9, W9 = (W8.setCell ⟨LP, 0, none⟩ (.slice (some ⟨Lo, 0, none⟩) m m)).alloc (Obj.cells #[.func (.func 43) #[] #[.pointer (some ⟨UP, 0, none⟩), .pointer (some ⟨LP, 0, none⟩), .pointer (some ⟨FP, 0, none⟩)]] 79) := ⟨_, rfl⟩
  have hCa : Ch W8 (W8.setCell ⟨LP, 0, none⟩ (.slice (some ⟨Lo, 0, none⟩) m m)) [LP] := Ch.one (grown_set _ _ _ _) (by simp)
  have hga : (W8.setCell ⟨LP, 0, none⟩ (.slice (some ⟨Lo, 0, none⟩) m m)).grownBy W9 none := by rw [hW9]; exact World.grownBy_alloc _ _ _
  have hLPU : LP ≠ U1 := ownN_ne HU8.out HK12.out (by decide)
  have hLPL : LP ≠ Lo := ownN_ne HL8.out HK12.out (by decide)
  have HF9 : Hid (LsF W9 UP LP FP U1 Lo m uc m) := ⟨(HK11.out.ch hCa (by simp; exact hne)).grow hga, (HK12.out.set 0 _).grow hga, by
    rw [hW9]
    have e : FP = (W8.setCell ⟨LP, 0, none⟩ (.slice (some ⟨Lo, 0, none⟩) m m)).heap.size := by rw [hFP]; simp
    rw [e]
    exact Bk.new _ _ _⟩
  have HU9 : Hid (OwnN W9 S (.slice (some ⟨U1, 0, none⟩) m uc) m (fun i => wk.parent.getD i 0)) := (HU8.out.ch hCa (by intro q hq; injection hq with hq; subst hq; simp; exact fun e => hLPU e.symm)).grow hga
  have HL9 : Hid (OwnN W9 S (.slice (some ⟨Lo, 0, none⟩) m m) m (fun _ => 0)) := (HL8.out.ch hCa (by intro q hq; injection hq with hq; subst hq; simp; exact fun e => hLPL e.symm)).grow hga
  have hlps : S ≤ LP := hLPS
  have HM9 : Hid (OwnN W9 M (.slice (some ⟨M, 0, none⟩) m m) m (fun _ => 0)) := ((HOM.out.grow HG18.out).ch hCa (by intro q hq; injection hq with hq; subst hq; simp; have := HMS.out; omega)).grow hga
  have HG9 : Hid (w.grownBy W9 none) := grown_trans (Ch.fresh2 (grown_trans HG1.out HG18.out) hCa (by intro q hq; simp at hq; have := HMS.out; have := HMs.out; omega)) hga
  have HMz : Hid (M ≠ U1 ∧ M ≠ Lo ∧ M = w.heap.size) := by have := HMS.out; have := HMs.out; exact ⟨by omega, by omega, by assumption⟩
  have HZs : Hid (w.heap.size ≤ U1 ∧ w.heap.size ≤ Lo) := by have := HMS.out; have := HMs.out; exact ⟨by omega, by omega⟩
  have HBo : Hid (M ≠ UP ∧ M ≠ LP ∧ M ≠ FP) := by
    have := HMS.out
    have := HS.out
    have := HG18.out.size
    have hups : S ≤ UP := hUPS
    exact ⟨by omega, by omega, by omega⟩
  have HUp : Hid (∀ j : Nat, (fun i : Nat => wk.parent.getD i 0) j < (j : Int)) := fun j => by
    by_cases hj : j < wk.order.length
    · exact (HO.out.i.par j hj).2.1
    · have : ¬ j < wk.parent.length := by rw [← HO.out.i.len]; exact hj
      simp only [List.getD_eq_getElem?_getD, List.getElem?_eq_none (show wk.parent.length ≤ j by omega), Option.getD_none]
      have := HM.out
      omega
  rw [← hW9]
  clear hW9 hFP hCa hga HU8 HL8 HK11 HK12 HOM HG1 HG18 cl fl hLPU hLPL hlps hUS hUl hLS hne hmf hUPS hLPS
  go_loopw [9] (fun ix wr => ∃ (i : Nat) (mf : Nat → Int) (s : Sa.Fo), ix = .int .i64 i ∧ i < m ∧ OwnN wr M (.slice (some ⟨M, 0, none⟩) m m) m mf ∧ OwnN wr S (.slice (some ⟨U1, 0, none⟩) m uc) m s.up ∧ OwnN wr S (.slice (some ⟨Lo, 0, none⟩) m m) m s.low ∧ LsF wr UP LP FP U1 Lo m uc m ∧ w.grownBy wr none ∧ FR = Sa.semiAll bs wk i mf s ∧ ∀ j : Nat, s.up j < (j : Int)) (fun ix _ => (intOf ix).toNat)
  case atStart => exact ⟨m - 1, _, ⟨_, _⟩, by go_num, by omega, HM9.out, HU9.out, HL9.out, HF9.out, HG9.out, HFR.out, HUp.out⟩
  case round =>
    obtain ⟨i, mf, s, rfl, him, hMo, hUo, hLo', hKo, hgo, hfr, hup⟩ := hrel
    have HMr : Hid (OwnN wr M (.slice (some ⟨M, 0, none⟩) m m) m mf) := hMo
    have HUr : Hid (OwnN wr S (.slice (some ⟨U1, 0, none⟩) m uc) m s.up) := hUo
    have HLr : Hid (OwnN wr S (.slice (some ⟨Lo, 0, none⟩) m m) m s.low) := hLo'
    have HKr : Hid (LsF wr UP LP FP U1 Lo m uc m) := hKo
    have HGr : Hid (w.grownBy wr none) := hgo
    have HFr : Hid (FR = Sa.semiAll bs wk i mf s) := hfr
    have HUp2 : Hid (∀ j : Nat, s.up j < (j : Int)) := hup
    clear hMo hUo hLo' hKo hgo hfr hup HM9 HU9 HL9 HF9 HG9 HFR HUp
    by_cases hi9 : i = 0
    case pos =>
      subst hi9
      have HR : Hid (FR = mf) := HFr.out
      clear HFr
      go_wp2
      go_ret
      exact ⟨M, rfl, by rw [HR.out, ← HMz.out.2.2]; exact HMr.out, HGr.out⟩
    obtain ⟨i0, hie⟩ : ∃ i0, i = i0 + 1 := ⟨i - 1, by omega⟩
    have HIe : Hid (i = i0 + 1) := hie
    have hi1 : i < m := him
    have hiI : (i : Int) < (m : Int) := by omega
    have hiP : 0 < i := by omega
    have cM := HMr.out.cell hi1
    have fM := HMr.out.frozen i
    obtain ⟨w6, hw6⟩ : ∃ w6, w6 = wr.setCell ⟨M, i, none⟩ (.int .i64 (i : Int)) := ⟨_, rfl⟩
    have hC6 : Ch wr w6 [M] := by rw [hw6]; exact Ch.one (grown_set _ _ _ _) (by simp)
    have hG6 : w.grownBy w6 none := Ch.fresh2 HGr.out hC6 (by intro q hq; simp at hq; have := HMz.out.2.2; omega)
    have HG6 : Hid (w.grownBy w6 none) := hG6
    have HM6 : Hid (OwnN w6 M (.slice (some ⟨M, 0, none⟩) m m) m (setF mf i (i : Int))) := by rw [hw6]; exact HMr.out.set hi1 _
    have HU6 : Hid (OwnN w6 S (.slice (some ⟨U1, 0, none⟩) m uc) m s.up) := HUr.out.ch hC6 (by intro q hq; injection hq with hq; subst hq; simp; exact fun e => HMz.out.1 e.symm)
    have HL6 : Hid (OwnN w6 S (.slice (some ⟨Lo, 0, none⟩) m m) m s.low) := HLr.out.ch hC6 (by intro q hq; injection hq with hq; subst hq; simp; exact fun e => HMz.out.2.1 e.symm)
    have HK6 : Hid (LsF w6 UP LP FP U1 Lo m uc m) := HKr.out.ch hC6 (by simp; exact fun e => HBo.out.1 e.symm) (by simp; exact fun e => HBo.out.2.1 e.symm) (by simp; exact fun e => HBo.out.2.2 e.symm)
    obtain ⟨b, hbn, hbo, -⟩ := HO.out.i.ord i (by rw [← HM.out]; exact hi1)
    have hX := HF.out w6 hG6
    have q0 := hX.c0
    have q1 := hX.s0
    have qo := hX.o i (by rw [← HM.out]; exact hi1)
    rw [hbo] at qo
    rw [← HM.out] at q1
    obtain ⟨a1, a2, a3, a4, k1, k2, k3, k4, hbl⟩ := hX.b b hbn
    have HPr : Hid (Sa.prs bs wk i = (bs.getD b Sa.bl0).preds) := by show Sa.prs bs wk i = _; unfold Sa.prs; rw [hbo, Int.toNat_natCast]
    have HPo : Hid (∀ p, p ∈ (bs.getD b Sa.bl0).preds → 0 ≤ p ∧ p < (bs.length : Int) ∧ 0 ≤ wk.rank p.toNat ∧ wk.rank p.toNat < (m : Int)) := fun p hp => by
      have := Sa.prs_ok HO.out i p (by rw [HPr.out]; exact hp)
      rw [← HM.out] at this
      exact this
    obtain ⟨ps, hps⟩ : ∃ ps, ps = (bs.getD b Sa.bl0).preds := ⟨_, rfl⟩
    have qp := hbl.c3
    have hpn := hbl.preds
    rw [← hps] at HPr HPo qp hpn
    have hple := hpn.le
    have hpmx := hpn.max
    unfold maxLen at hpmx
    have HNp : Hid (∀ W, w.grownBy W none → ∀ j, (hj : j < ps.length) → ∃ pb po, a2 = some ⟨pb, po, none⟩ ∧ W.cell? ⟨pb, po + j, none⟩ = some (.int .i64 ps[j])) := fun W g j hj => by
      obtain ⟨c1, c2, c3, c4, d1, d2, d3, d4, hbl2⟩ := (HF.out W g).b b hbn
      obtain ⟨c5, c6, c7, c8, d5, d6, d7, d8, hbl3⟩ := (HF.out w (World.grownBy.refl _ _)).b b hbn
      have e1 := hbl2.c3
      have e2 := g.cell hbl3.c3 (by simp)
      have e3 := hG6.cell hbl3.c3 (by simp)
      rw [hbl.c3] at e3
      rw [e1] at e2
      injection e2 with e2
      injection e3 with e3
      injection e2 with f1 _ _
      injection e3 with f2 _ _
      obtain ⟨pb, po, f3, -, f4⟩ := hbl2.preds.at (i := j) (by rw [← hps]; exact hj)
      unfold NumQ at f4
      rw [Nat.mul_one] at f4
      refine ⟨pb, po, by rw [f2, ← f1, f3], ?_⟩
      rw [f4]
      simp only [hps]
    have hbI : (b : Int) < (bs.length : Int) := by omega
    have hiN : (i : Int) < 4097 := by omega
    have HFi : Hid (FR = Sa.semiAll bs wk i0 (Sa.semiSt bs wk i0 mf s).1 (Sa.semiSt bs wk i0 mf s).2) := by have h9 := HFr.out; rw [hie] at h9; exact h9
    have HSt : Hid (Sa.semiSt bs wk i0 mf s = (setF mf i (Sa.semiIn wk i ps (i : Int) s).1, ⟨(Sa.semiIn wk i ps (i : Int) s).2.up, setF (Sa.semiIn wk i ps (i : Int) s).2.low i (Sa.semiIn wk i ps (i : Int) s).1⟩)) := by show _ = _; unfold Sa.semiSt; rw [← hie, HPr.out]
    have HWBl : Hid (WB < w.heap.size ∧ RB < w.heap.size ∧ SB < w.heap.size) := ⟨World.block_lt_of_cell? _ _ (HF.out w (World.grownBy.refl _ _)).c0, World.block_lt_of_cell? _ _ ((HF.out w (World.grownBy.refl _ _)).r 0 (by omega)), World.block_lt_of_cell? _ _ (HF.out w (World.grownBy.refl _ _)).s0⟩
    rw [hw6] at q0 q1 qo qp
    clear hie hi9 HFr hX hbl hpn hC6 hG6 HMr HUr HLr HKr HPr hps hbo
    go_wp2_with fail
    rw [← hw6]
    clear hw6 cM fM q0 q1 qo qp
    obtain ⟨wr0, hwr0⟩ : ∃ wr0, wr0 = wr := ⟨_, rfl⟩
    clear hwr0
    go_loopw [56] (fun jx wr => ∃ (j : Nat) (mc : Int) (s' : Sa.Fo), jx = .int .i64 j ∧ j ≤ ps.length ∧ OwnN wr M (.slice (some ⟨M, 0, none⟩) m m) m (setF mf i mc) ∧ OwnN wr S (.slice (some ⟨U1, 0, none⟩) m uc) m s'.up ∧ OwnN wr S (.slice (some ⟨Lo, 0, none⟩) m m) m s'.low ∧ LsF wr UP LP FP U1 Lo m uc m ∧ w.grownBy wr none ∧ Sa.semiIn wk i ps (i : Int) s = Sa.semiIn wk i (ps.drop j) mc s' ∧ ∀ j : Nat, s'.up j < (j : Int)) (fun jx _ => ps.length - (intOf jx).toNat)
    case atStart => exact ⟨0, _, s, rfl, Nat.zero_le _, HM6.out, HU6.out, HL6.out, HK6.out, HG6.out, rfl, HUp2.out⟩
    case round =>
      obtain ⟨j, mc, s2, rfl, hj, hMo, hUo, hLo', hKo, hgo, hsm, hup⟩ := hrel
      have HMr : Hid (OwnN wr M (.slice (some ⟨M, 0, none⟩) m m) m (setF mf i mc)) := hMo
      have HUr : Hid (OwnN wr S (.slice (some ⟨U1, 0, none⟩) m uc) m s2.up) := hUo
      have HLr : Hid (OwnN wr S (.slice (some ⟨Lo, 0, none⟩) m m) m s2.low) := hLo'
      have HKr : Hid (LsF wr UP LP FP U1 Lo m uc m) := hKo
      have HGr2 : Hid (w.grownBy wr none) := hgo
      have HSm : Hid (Sa.semiIn wk i ps (i : Int) s = Sa.semiIn wk i (ps.drop j) mc s2) := hsm
      have HUp3 : Hid (∀ j : Nat, s2.up j < (j : Int)) := hup
      have HSf : Hid (setF mf i mc i = mc) := by show setF mf i mc i = mc; unfold setF; simp
      obtain ⟨⟨n1, n2⟩, ⟨n3, n4⟩, n5, n6⟩ := hKo.ne hUo hLo'
      have HNe : Hid ((UP ≠ U1 ∧ UP ≠ Lo) ∧ (LP ≠ U1 ∧ LP ≠ Lo) ∧ (FP ≠ U1 ∧ FP ≠ Lo)) := ⟨⟨n1, n2⟩, ⟨n3, n4⟩, n5, n6⟩
      clear hMo hUo hLo' hKo hgo hsm hup HM6 HU6 HL6 HK6 HG6 n1 n2 n3 n4 n5 n6
      by_cases hjl : j < ps.length
      case neg =>
        obtain rfl : j = ps.length := by omega
        have hsi : Sa.semiIn wk i ps (i : Int) s = (mc, s2) := by rw [HSm.out, List.drop_length]; rfl
        have HFn : Hid (FR = Sa.semiAll bs wk i0 (setF mf i mc) ⟨s2.up, setF s2.low i mc⟩) := by show FR = _; rw [HFi.out, HSt.out, hsi]
        have HY : Hid (∀ W, wr.grownBy W none → W.cell? ⟨LP, 0, none⟩ = some (.slice (some ⟨Lo, 0, none⟩) m m) ∧ W.cell? ⟨M, i, none⟩ = some (.int .i64 mc)) := fun W g => by
          have h9 := (HMr.out.grow g).cell hi1
          rw [HSf.out] at h9
          exact ⟨(HKr.out.grow g).l.cell (i := 0) rfl, h9⟩
        have e9 : ¬ (ps.length : Int) < (ps.length : Int) := by omega
        clear HSm hsi HFi HSt HNp
        go_wp2_with fail
        refine region_lg 6 (World.grownBy.refl _ _) (by kernel_rfl) (by kernel_rfl) (by kernel_rfl) (by kernel_rfl) ?_
        simp only [List.take_succ_cons, List.take_zero]
        repeat (first
          | (refine lx_end fun W0 G0 => ?_)
          | (refine lx_val (v := ?_) ?_ ?_ ?_ ?_; rotate_left; (· kernel_rfl); (· exact ⟨by kernel_rfl, rfl⟩); (· intro W g; simp [go_sem, (HY.out W g).1, (HY.out W g).2, hiI]; rfl); simp only [Act.put, List.setIfInBounds_toArray, List.set_cons_succ, List.set_cons_zero]))
        simp only [List.drop_succ_cons, List.drop_zero]
        have cL := (HLr.out.grow G0).cell hi1
        have fL := (HLr.out.grow G0).frozen i
        obtain ⟨W5, hW5⟩ : ∃ W5, W5 = W0.setCell ⟨Lo, i, none⟩ (.int .i64 mc) := ⟨_, rfl⟩
        have hC5 : Ch W0 W5 [Lo] := by rw [hW5]; exact Ch.one (grown_set _ _ _ _) (by simp)
        have HL5 : Hid (OwnN W5 S (.slice (some ⟨Lo, 0, none⟩) m m) m (setF s2.low i mc)) := by rw [hW5]; exact (HLr.out.grow G0).set hi1 mc
        have HU5 : Hid (OwnN W5 S (.slice (some ⟨U1, 0, none⟩) m uc) m s2.up) := (HUr.out.grow G0).ch hC5 (by intro q hq; injection hq with hq; subst hq; simp; exact hUL)
        have HM5 : Hid (OwnN W5 M (.slice (some ⟨M, 0, none⟩) m m) m (setF mf i mc)) := (HMr.out.grow G0).ch hC5 (by intro q hq; injection hq with hq; subst hq; simp; exact HMz.out.2.1)
        have HK5 : Hid (LsF W5 UP LP FP U1 Lo m uc m) := (HKr.out.grow G0).ch hC5 (by simp [HNe.out.1.2]) (by simp [HNe.out.2.1.2]) (by simp [HNe.out.2.2.2])
        have HG5 : Hid (w.grownBy W5 none) := Ch.fresh2 (grown_trans HGr2.out G0) hC5 (by intro q hq; simp at hq; rw [hq]; exact HZs.out.2)
        clear hC5
        go_wp2_with fail
        rw [← hW5]
        clear hW5 cL fL
        go_roundw
        case rel => exact ⟨i0, _, ⟨s2.up, setF s2.low i mc⟩, by have := HIe.out; congr 1; omega, by have := HIe.out; omega, HM5.out, HU5.out, HL5.out, HK5.out, HG5.out, HFn.out, HUp3.out⟩
        case measure => have := HIe.out; simp [intOf]; omega
      have hjlI : (j : Int) < (ps.length : Int) := by omega
      obtain ⟨pb, po, rfl, hz⟩ := HNp.out wr HGr2.out j hjl
      obtain ⟨y0, y1, y2, y3⟩ := HPo.out _ (List.getElem_mem hjl)
      obtain ⟨p9, hp9⟩ : ∃ p9 : Nat, ps[j] = (p9 : Int) := ⟨(ps[j]).toNat, by omega⟩
      have hpn : p9 < bs.length := by omega
      have hpI : (p9 : Int) < (bs.length : Int) := by omega
      rw [hp9, Int.toNat_natCast] at y2 y3
      obtain ⟨r, hr⟩ : ∃ r : Nat, wk.rank p9 = (r : Int) := ⟨(wk.rank p9).toNat, by omega⟩
      have hgr9 : g p9 = (r : Int) := by rw [HGr0.out p9 hpn (by omega), hr]
      have hrm : r < m := by omega
      have HDr : Hid (ps.drop j = (p9 : Int) :: ps.drop (j + 1)) := by show ps.drop j = _; rw [List.drop_eq_getElem_cons hjl, hp9]
      rw [hp9] at hz
      have gd : wr.grownBy wr.drew none := grown_drew (World.grownBy.refl _ _)
      obtain ⟨LR, hLR⟩ : ∃ LR, LR = Sa.least (i + m + 1) (r : Int) (i : Int) s2 := ⟨_, rfl⟩
      have HLs : Hid (Calls Try.prog 43 #[.int .i64 (r : Int), .int .i64 (i : Int), .pointer (some ⟨UP, 0, none⟩), .pointer (some ⟨LP, 0, none⟩), .pointer (some ⟨FP, 0, none⟩)] wr.drew fun e w' => e = .returned (.int .i64 LR.1) ∧ OwnN w' S (.slice (some ⟨U1, 0, none⟩) m uc) m LR.2.up ∧ OwnN w' S (.slice (some ⟨Lo, 0, none⟩) m m) m LR.2.low ∧ Ch wr.drew w' [U1, Lo]) := by rw [hLR]; exact flLeast_any hUL (i + m + 1) (by omega) hrm (by omega) HUp3.out (HUr.out.grow gd) (HLr.out.grow gd) (HKr.out.grow gd)
      have HUp4 : Hid (∀ q : Nat, LR.2.up q < (q : Int)) := by rw [hLR]; exact (Sa.least_keeps (by omega) HUp3.out).2
      obtain ⟨mv, hmv⟩ : ∃ mv, mv = min mc LR.1 := ⟨_, rfl⟩
      have HSm2 : Hid (Sa.semiIn wk i ps (i : Int) s = Sa.semiIn wk i (ps.drop (j + 1)) mv LR.2) := by
        show _ = _
        rw [HSm.out, HDr.out, Sa.semiIn_cons, Int.toNat_natCast, hr, ← HM.out, ← hLR, ← hmv]
      obtain ⟨lv, lf⟩ := LR
      have hmin : ∀ W, (Builtin.min_ #[3, 3] 3 #[.int .i64 mc, .int .i64 lv]).run Try.prog W = .ok (.int .i64 mv) W := fun W => by
        rw [run_min_int2, hmv]
        congr 2
        simp only
        split <;> omega
      have HX : Hid (∀ W, Ch wr.drew W [U1, Lo] → W.cell? ⟨M, i, none⟩ = some (.int .i64 mc) ∧ W.cell? ⟨WB, 0, none⟩ = some (.pointer (some ⟨SB, 0, none⟩)) ∧ W.cell? ⟨SB, 1, none⟩ = some (.slice (some ⟨RB, 0, none⟩) bs.length bs.length) ∧ W.cell? ⟨RB, p9, none⟩ = some (.int .i64 (r : Int)) ∧ W.cell? ⟨FP, 0, none⟩ = some (.func (.func 43) #[] #[.pointer (some ⟨UP, 0, none⟩), .pointer (some ⟨LP, 0, none⟩), .pointer (some ⟨FP, 0, none⟩)])) := fun W g => by
        have hX := HF.out wr.drew (grown_trans HGr2.out gd)
        have g1 := (HMr.out.grow gd).ch g (by intro q hq; injection hq with hq; subst hq; simp; exact ⟨HMz.out.1, HMz.out.2.1⟩)
        have g2 := (HKr.out.grow gd).ch g (by simp [HNe.out.1.1, HNe.out.1.2]) (by simp [HNe.out.2.1.1, HNe.out.2.1.2]) (by simp [HNe.out.2.2.1, HNe.out.2.2.2])
        have g3 := g1.cell hi1
        rw [HSf.out] at g3
        have hR9 := hX.r p9 hpn
        rw [hgr9] at hR9
        have z1 := HZs.out
        have z2 := HWBl.out
        exact ⟨g3, g.cell hX.c0 (by simp; omega), g.cell hX.s1 (by simp; omega), g.cell hR9 (by simp; omega), g2.f.cell (i := 0) rfl⟩
      clear hLR hmv hr hp9 y0 y1 y2 y3 HSm HDr HFi HSt HUp3 hgr9
      go_wp2_with fail
      clear hz
      refine region_lu (fun w w' => Ch w w' [U1, Lo]) (fun w w' => w' = w) (fun W => W = wr.drew) 18 (fun h1 h2 => h1.trans h2) (fun w => rfl) (fun h => by rw [h]; exact Ch.refl _ _) (fun g h => g.trans h) 20 [.val (.slice (some ⟨M, 0, none⟩) m m), .val (.int .i64 (i : Int)), .val (.slice (some ⟨M, 0, none⟩) m m), .val (.int .i64 (i : Int)), .val (.pointer (some ⟨M, i, none⟩)), .val (.int .i64 mc), .val (.func (.func 43) #[] #[.pointer (some ⟨UP, 0, none⟩), .pointer (some ⟨LP, 0, none⟩), .pointer (some ⟨FP, 0, none⟩)]), .val (.pointer (some ⟨WB, 0, none⟩)), .val (.pointer (some ⟨WB, 0, none⟩)), .val (.pointer (some ⟨WB, 0, none⟩)), .val (.pointer (some ⟨SB, 0, none⟩)), .val (.pointer (some ⟨SB, 0, none⟩)), .val (.pointer (some ⟨SB, 1, none⟩)), .val (.slice (some ⟨RB, 0, none⟩) bs.length bs.length), .val (.int .i64 (p9 : Int)), .val (.pointer (some ⟨RB, p9, none⟩)), .val (.int .i64 (r : Int)), .val (.int .i64 (i : Int)), .prop (fun e w9 => e = .int .i64 lv ∧ OwnN w9 S (.slice (some ⟨U1, 0, none⟩) m uc) m lf.up ∧ OwnN w9 S (.slice (some ⟨Lo, 0, none⟩) m m) m lf.low), .val (.int .i64 mv)] rfl (by kernel_rfl) (by kernel_rfl) (by kernel_rfl) (by kernel_rfl) rfl ?_
      simp only [List.take_succ_cons, List.take_zero]
      repeat (refine lu_val (x := _) rfl ?_ ?_ (fun w => rfl) (fun h => by rw [h]; exact Ch.refl _ _) ?_ ?_; (· kernel_rfl); (· exact ⟨by kernel_rfl, rfl⟩); (· intro W g; simp [go_sem, (HX.out W g).1, (HX.out W g).2.1, (HX.out W g).2.2.1, (HX.out W g).2.2.2.1, (HX.out W g).2.2.2.2, hiI, hpI]; done); simp only [Act.put, List.setIfInBounds_toArray, List.set_cons_succ, List.set_cons_zero])
      refine lu_prop (f := 43) (args := #[.int .i64 (r : Int), .int .i64 (i : Int), .pointer (some ⟨UP, 0, none⟩), .pointer (some ⟨LP, 0, none⟩), .pointer (some ⟨FP, 0, none⟩)]) rfl (by kernel_rfl) ⟨by kernel_rfl, rfl⟩ ?_ (fun W g => by simp [go_sem]) ?_ ?_
      · intro e W W9 h9 hg9
        simp [Rof] at hg9
        rw [hg9]; exact h9
      · intro W g hu _
        obtain rfl := hu rfl
        refine HLs.out.mono ?_
        rintro e w4 ⟨he, hu4, hl4, hc4⟩
        exact ⟨_, he, by simp only [Rof, if_true]; exact hc4, rfl, hu4, hl4⟩
      intro v9
      simp only [Act.put, List.setIfInBounds_toArray, List.set_cons_succ, List.set_cons_zero]
      refine lu_valh (x := _) rfl (by kernel_rfl) ⟨by kernel_rfl, rfl⟩ (fun w => rfl) (fun h => by rw [h]; exact Ch.refl _ _) ?_ ?_
      · intro W g hh
        obtain ⟨rfl, -, -⟩ := hh _ (List.mem_singleton.2 rfl) (by kernel_rfl)
        simp [go_sem, hmin]
        done
      simp only [Act.put, List.setIfInBounds_toArray, List.set_cons_succ, List.set_cons_zero]
      refine lu_end fun W4 g4 hh => ?_
      obtain ⟨hv9, hu4, hl4⟩ := hh _ (List.mem_singleton.2 rfl)
      subst hv9
      have hM4 := (HMr.out.grow gd).ch g4 (by intro q hq; injection hq with hq; subst hq; simp; exact ⟨HMz.out.1, HMz.out.2.1⟩)
      have hK4 := (HKr.out.grow gd).ch g4 (by simp [HNe.out.1.1, HNe.out.1.2]) (by simp [HNe.out.2.1.1, HNe.out.2.1.2]) (by simp [HNe.out.2.2.1, HNe.out.2.2.2])
      have hG4 : w.grownBy W4 none := Ch.fresh2 (grown_trans HGr2.out gd) g4 (by intro q hq; simp at hq; rcases hq with rfl | rfl; exact HZs.out.1; exact HZs.out.2)
      obtain ⟨W5, hW5⟩ : ∃ W5, W5 = W4.setCell ⟨M, i, none⟩ (.int .i64 mv) := ⟨_, rfl⟩
      have hC5 : Ch W4 W5 [M] := by rw [hW5]; exact Ch.one (grown_set _ _ _ _) (by simp)
      have HM5 : Hid (OwnN W5 M (.slice (some ⟨M, 0, none⟩) m m) m (setF mf i mv)) := by rw [hW5]; exact (hM4.set hi1 mv).congr (fun q _ => by unfold setF; split <;> rfl)
      have HU5 : Hid (OwnN W5 S (.slice (some ⟨U1, 0, none⟩) m uc) m lf.up) := hu4.ch hC5 (by intro q hq; injection hq with hq; subst hq; simp; exact fun e => HMz.out.1 e.symm)
      have HL5 : Hid (OwnN W5 S (.slice (some ⟨Lo, 0, none⟩) m m) m lf.low) := hl4.ch hC5 (by intro q hq; injection hq with hq; subst hq; simp; exact fun e => HMz.out.2.1 e.symm)
      have HK5 : Hid (LsF W5 UP LP FP U1 Lo m uc m) := hK4.ch hC5 (by simp; exact fun e => HBo.out.1 e.symm) (by simp; exact fun e => HBo.out.2.1 e.symm) (by simp; exact fun e => HBo.out.2.2 e.symm)
      have HG5 : Hid (w.grownBy W5 none) := Ch.fresh2 hG4 hC5 (by intro q hq; simp at hq; rw [hq, ← HMz.out.2.2]; exact Nat.le_refl _)
      have cM := hM4.cell hi1
      have fM := hM4.frozen i
      clear hh hu4 hl4 g4 hM4 hK4 hG4 hC5 gd
      simp only [List.drop_succ_cons, List.drop_zero]
      go_wp2_with fail
      rw [← hW5]
      clear hW5 cM fM hmin
      go_roundw
      case rel => exact ⟨j + 1, mv, lf, by go_num, by omega, HM5.out, HU5.out, HL5.out, HK5.out, HG5.out, HSm2.out, HUp4.out⟩
      case measure => simp [intOf]; omega
end Go.Proofs.Ytbpdggdpgohilaa
