/- Contracts and plain facts that the walks share. -/
import Derived.Test.YtbpdggdpgohilaaG13
import Derived.Test.YtbpdggdpgohilaaG7
import Derived.Test.YtbpdggdpgohilaaG5
namespace Go.Proofs.Ytbpdggdpgohilaa
open Go.RowKit
set_option linter.unusedVariables false
set_option maxRecDepth 100000
set_option maxHeartbeats 8000000
theorem flSuccs_any {kd : Int} (h : 1 ≤ kd ∧ kd ≤ 4) (w : World) : Calls Try.prog 22 #[.int .i64 kd] w fun r w' => (∃ z : Nat, r = .returned (.int .i64 (z : Int))) ∧ w.grownBy w' none := by
  have h4 : kd = 1 ∨ kd = 2 ∨ kd = 3 ∨ kd = 4 := by omega
  clear h
  rcases h4 with rfl | rfl | rfl | rfl
  · go_enter Try.func22, Try.ntmps22
    go_wp2
    refine bodyPost_ret (by simp [results, Try.results22, go_sem]; try rfl) rfl ?_
    exact ⟨⟨1, rfl⟩, World.grownBy.refl _ _⟩
  · go_enter Try.func22, Try.ntmps22
    go_wp2
    refine bodyPost_ret (by simp [results, Try.results22, go_sem]; try rfl) rfl ?_
    exact ⟨⟨2, rfl⟩, World.grownBy.refl _ _⟩
  · go_enter Try.func22, Try.ntmps22
    go_wp2
    refine bodyPost_ret (by simp [results, Try.results22, go_sem]; try rfl) rfl ?_
    exact ⟨⟨0, rfl⟩, World.grownBy.refl _ _⟩
  · go_enter Try.func22, Try.ntmps22
    go_wp2
    refine bodyPost_ret (by simp [results, Try.results22, go_sem]; try rfl) rfl ?_
    exact ⟨⟨0, rfl⟩, World.grownBy.refl _ _⟩
theorem flForm_any {N : Nat} {w : World} {bs : List Sa.Bl} {v1 v2 v3 : Value} {a : Option Addr} {k : Nat} (h : BlL (· < N) w a k bs) (hN : N ≤ w.heap.size) (hw : Sa.waysB bs = true) : Calls Try.prog 21 #[.agg #[v1, v2, v3, .slice a bs.length k]] w fun r w' => r = .returned (.bool true) ∧ w.grownBy w' none := by
  have HB : Hid (∀ W, w.grownBy W none → BlL (· < N) W a k bs) := fun W g => h.grow g
  have HG1 : Hid (w.grownBy (w.alloc (Obj.cells #[v1, v2, v3, .slice a bs.length k] 28)) none) := World.grownBy_alloc _ _ _
  have HK1 : Hid (Bk (w.alloc (Obj.cells #[v1, v2, v3, .slice a bs.length k] 28)) w.heap.size 28 [v1, v2, v3, .slice a bs.length k]) := Bk.new _ _ _
  obtain ⟨h0, h4, hwa⟩ := Sa.waysB_iff hw
  have HWa : Hid (∀ i : Nat, i < bs.length → Sa.wayB bs (bs.getD i Sa.bl0) = true) := hwa
  have n1 : ¬ ((bs.length : Int) = 0) := by omega
  have n1b : ((bs.length : Int) == 0) = false := by simpa using n1
  have n2 : ¬ (4096 : Int) < (bs.length : Int) := by omega
  have n2b : decide ((4096 : Int) < (bs.length : Int)) = false := decide_eq_false n2
  have n3 : ¬ (bs = []) := by intro e; rw [e] at h0; simp at h0
  have HN : Hid (N ≤ w.heap.size) := hN
  have x3 := HK1.out.cell (i := 3) rfl
  clear h hN hw hwa
  go_enter Try.func21, Try.ntmps21
  go_wp2_with fail
  obtain ⟨w1, hw1⟩ : ∃ w1, w1 = w.alloc (Obj.cells #[v1, v2, v3, .slice a bs.length k] 28) := ⟨_, rfl⟩
  obtain ⟨CB, hCB⟩ : ∃ CB, CB = w.heap.size := ⟨_, rfl⟩
  have hCN : N ≤ CB := by rw [hCB]; exact HN.out
  rw [← hw1] at HG1
  rw [← hw1, ← hCB] at HK1
  rw [← hCB]
  clear hCB x3
  go_loopw [3] (fun iv wr => ∃ (i : Nat), iv = .int .i64 i ∧ i ≤ bs.length ∧ w1.grownBy wr none) (fun iv _ => bs.length - (intOf iv).toNat)
  case atStart => exact ⟨0, rfl, Nat.zero_le _, by rw [hw1]; exact World.grownBy.refl _ _⟩
  case round =>
    obtain ⟨i, rfl, hi, hg⟩ := hrel
    have HG : Hid (w1.grownBy wr none) := hg
    have HGw : Hid (w.grownBy wr none) := grown_trans HG1.out hg
    have HKr : Hid (Bk wr CB 28 [v1, v2, v3, .slice a bs.length k]) := HK1.out.grow hg
    have x0 := HKr.out.cell (i := 0) rfl
    have x1 := HKr.out.cell (i := 1) rfl
    have x2 := HKr.out.cell (i := 2) rfl
    have x3 := HKr.out.cell (i := 3) rfl
    have hCl := HKr.out.lt
    clear hg hw1
    by_cases hil : i < bs.length
    case neg =>
      have c1 : ¬ (i : Int) < (bs.length : Int) := by omega
      have c2 : decide ((i : Int) < (bs.length : Int)) = false := decide_eq_false c1
      go_wp2_with fail
      refine bodyPost_ret (by simp [results, Try.results21, go_sem]; try rfl) rfl ?_
      exact ⟨rfl, HGw.out⟩
    have c1 : (i : Int) < (bs.length : Int) := by omega
    obtain ⟨bb, bo, b1, b2, b3, b4, m1, m2, m3, m4, hba, hbN, hbl⟩ := (HB.out wr HGw.out).num hil
    subst hba
    obtain ⟨bl, hbe⟩ : ∃ bl, bl = bs.getD i Sa.bl0 := ⟨_, rfl⟩
    have hway := HWa.out i hil
    rw [← hbe] at hbl hway
    have y0 := hbl.c0
    have y1 := hbl.c1
    have y2 := hbl.c2
    have y3 := hbl.c3
    have y4 := hbl.c4
    have y5 := hbl.c5
    have HPr : Hid (∀ W, wr.grownBy W none → NumL (· < N) W b2 m2 bl.preds) := fun W g => hbl.preds.grow1 g
    have HSu : Hid (∀ W, wr.grownBy W none → NumL (· < N) W b3 m3 bl.succs) := fun W g => hbl.succs.grow1 g
    unfold Sa.wayB at hway
    simp only [Bool.and_eq_true, decide_eq_true_eq, Bool.or_eq_true, bne_iff_ne, beq_iff_eq] at hway
    obtain ⟨⟨⟨k0, k4⟩, kh⟩, kp, ks⟩ := hway
    have HPS : Hid (Sa.areBlks bs bl.preds = true ∧ Sa.areBlks bs bl.succs = true) := ⟨kp, ks⟩
    have hbw : bb < wr.heap.size := by have := HGw.out.size; have := HN.out; omega
    have HD : Hid (wr.grownBy (wr.alloc (Obj.cells #[.int .i64 bl.kind, .int .i64 bl.n, .slice b1 bl.args.length m1, .slice b2 bl.preds.length m2, .slice b3 bl.succs.length m3, .slice b4 bl.list.length m4] 41)) none) := World.grownBy_alloc _ _ _
    have HDk : Hid (Bk (wr.alloc (Obj.cells #[.int .i64 bl.kind, .int .i64 bl.n, .slice b1 bl.args.length m1, .slice b2 bl.preds.length m2, .slice b3 bl.succs.length m3, .slice b4 bl.list.length m4] 41)) wr.heap.size 41 [.int .i64 bl.kind, .int .i64 bl.n, .slice b1 bl.args.length m1, .slice b2 bl.preds.length m2, .slice b3 bl.succs.length m3, .slice b4 bl.list.length m4]) := Bk.new _ _ _
    have HHo : Hid (∀ W, Calls Try.prog 11 #[.agg #[.int .i64 bl.kind, .int .i64 bl.n, .slice b1 bl.args.length m1, .slice b2 bl.preds.length m2, .slice b3 bl.succs.length m3, .slice b4 bl.list.length m4]] W fun r w' => r = .returned (.bool (bl.kind == 0)) ∧ W.grownBy w' none) := fun W => flHole_any _ _ _ _ _ _ W
    clear hbl kp ks hbe
    by_cases hk0 : bl.kind = 0
    · have hps : bl.preds.length = 0 ∧ bl.succs.length = 0 := by
        rcases kh with kh | kh
        · exact absurd hk0 kh
        · omega
      have hk0b : (bl.kind == 0) = true := by simpa using hk0
      rw [hk0b] at HHo
      rw [hps.1, hps.2] at HDk HD HHo
      rw [hps.1] at y3
      rw [hps.2] at y4
      clear kh k0 k4 hk0 hk0b hps
      go_wp2_with (go_at_call 11; refine (HHo.out _).mono ?_; rintro e w5 ⟨rfl, g5⟩; have z3 := (HDk.out.grow g5).cell (i := 3) rfl; have z4 := (HDk.out.grow g5).cell (i := 4) rfl; have HG5 : Hid (wr.grownBy w5 none) := grown_trans HD.out g5; clear g5)
      go_roundw
      case rel => exact ⟨i + 1, by go_num, by omega, grown_trans HG.out HG5.out⟩
      case measure => simp [intOf]; omega
    · have hk0b : (bl.kind == 0) = false := by simpa using hk0
      rw [hk0b] at HHo
      have HFx : Hid (∀ W, (wr.alloc (Obj.cells #[.int .i64 bl.kind, .int .i64 bl.n, .slice b1 bl.args.length m1, .slice b2 bl.preds.length m2, .slice b3 bl.succs.length m3, .slice b4 bl.list.length m4] 41)).grownBy W none → W.cell? ⟨wr.heap.size, 0, none⟩ = some (.int .i64 bl.kind) ∧ W.cell? ⟨wr.heap.size, 3, none⟩ = some (.slice b2 bl.preds.length m2) ∧ W.cell? ⟨wr.heap.size, 4, none⟩ = some (.slice b3 bl.succs.length m3) ∧ W.cell? ⟨CB, 0, none⟩ = some v1 ∧ W.cell? ⟨CB, 1, none⟩ = some v2 ∧ W.cell? ⟨CB, 2, none⟩ = some v3 ∧ W.cell? ⟨CB, 3, none⟩ = some (.slice (some ⟨bb, bo, none⟩) bs.length k)) := fun W g => by
        have h1 := HDk.out.grow g
        have h2 := HKr.out.grow (grown_trans HD.out g)
        exact ⟨h1.cell (i := 0) rfl, h1.cell (i := 3) rfl, h1.cell (i := 4) rfl, h2.cell (i := 0) rfl, h2.cell (i := 1) rfl, h2.cell (i := 2) rfl, h2.cell (i := 3) rfl⟩
      have HSc : Hid (∀ W, Calls Try.prog 22 #[.int .i64 bl.kind] W fun r w' => (∃ z : Nat, r = .returned (.int .i64 (z : Int))) ∧ W.grownBy w' none) := fun W => flSuccs_any ⟨by omega, k4⟩ W
      have HNp : Hid (∀ W, (wr.alloc (Obj.cells #[.int .i64 bl.kind, .int .i64 bl.n, .slice b1 bl.args.length m1, .slice b2 bl.preds.length m2, .slice b3 bl.succs.length m3, .slice b4 bl.list.length m4] 41)).grownBy W none → Calls Try.prog 34 #[.agg #[v1, v2, v3, .slice (some ⟨bb, bo, none⟩) bs.length k], .slice b2 bl.preds.length m2] W fun r w' => r = .returned (.bool true) ∧ W.grownBy w' none) := fun W g => flNumbers_any (HB.out W (grown_trans HGw.out (grown_trans HD.out g))) (HPr.out W (grown_trans HD.out g)) (by have := (grown_trans HGw.out (grown_trans HD.out g)).size; have := HN.out; omega) HPS.out.1
      have HNs : Hid (∀ W, (wr.alloc (Obj.cells #[.int .i64 bl.kind, .int .i64 bl.n, .slice b1 bl.args.length m1, .slice b2 bl.preds.length m2, .slice b3 bl.succs.length m3, .slice b4 bl.list.length m4] 41)).grownBy W none → Calls Try.prog 34 #[.agg #[v1, v2, v3, .slice (some ⟨bb, bo, none⟩) bs.length k], .slice b3 bl.succs.length m3] W fun r w' => r = .returned (.bool true) ∧ W.grownBy w' none) := fun W g => flNumbers_any (HB.out W (grown_trans HGw.out (grown_trans HD.out g))) (HSu.out W (grown_trans HD.out g)) (by have := (grown_trans HGw.out (grown_trans HD.out g)).size; have := HN.out; omega) HPS.out.2
      clear kh k0 k4 hk0 hk0b
      go_wp2_with (go_at_call 11; refine (HHo.out _).mono ?_; rintro e w5 ⟨rfl, g5⟩; obtain ⟨z0, z3, z4, q0, q1, q2, q3⟩ := HFx.out w5 g5; have HG5 : Hid ((wr.alloc (Obj.cells #[.int .i64 bl.kind, .int .i64 bl.n, .slice b1 bl.args.length m1, .slice b2 bl.preds.length m2, .slice b3 bl.succs.length m3, .slice b4 bl.list.length m4] 41)).grownBy w5 none) := g5; clear g5)
      refine (HSc.out _).mono ?_
      rintro e w6 ⟨⟨z, rfl⟩, g6⟩
      have nz : ¬ (z : Int) < 0 := by omega
      have nzb : decide ((z : Int) < 0) = false := decide_eq_false nz
      clear z0 z3 z4 q0 q1 q2 q3
      obtain ⟨z0, z3, z4, q0, q1, q2, q3⟩ := HFx.out w6 (grown_trans HG5.out g6)
      have HG6 : Hid ((wr.alloc (Obj.cells #[.int .i64 bl.kind, .int .i64 bl.n, .slice b1 bl.args.length m1, .slice b2 bl.preds.length m2, .slice b3 bl.succs.length m3, .slice b4 bl.list.length m4] 41)).grownBy w6 none) := grown_trans HG5.out g6
      clear g6
      go_wp2_with fail
      refine (HNp.out w6 HG6.out).mono ?_
      rintro e w7 ⟨rfl, g7⟩
      clear z0 z3 z4 q0 q1 q2 q3
      obtain ⟨z0, z3, z4, q0, q1, q2, q3⟩ := HFx.out w7 (grown_trans HG6.out g7)
      have HG7 : Hid ((wr.alloc (Obj.cells #[.int .i64 bl.kind, .int .i64 bl.n, .slice b1 bl.args.length m1, .slice b2 bl.preds.length m2, .slice b3 bl.succs.length m3, .slice b4 bl.list.length m4] 41)).grownBy w7 none) := grown_trans HG6.out g7
      clear g7
      go_wp2_with fail
      refine (HNs.out w7 HG7.out).mono ?_
      rintro e w8 ⟨rfl, g8⟩
      clear z0 z3 z4 q0 q1 q2 q3
      have HG8 : Hid ((wr.alloc (Obj.cells #[.int .i64 bl.kind, .int .i64 bl.n, .slice b1 bl.args.length m1, .slice b2 bl.preds.length m2, .slice b3 bl.succs.length m3, .slice b4 bl.list.length m4] 41)).grownBy w8 none) := grown_trans HG7.out g8
      clear g8
      go_wp2_with fail
      go_roundw
      case rel => exact ⟨i + 1, by go_num, by omega, grown_trans HG.out (grown_trans HD.out HG8.out)⟩
      case measure => simp [intOf]; omega
end Go.Proofs.Ytbpdggdpgohilaa
namespace Go.Proofs.Ytbpdggdpgohilaa
open Go.RowKit
set_option linter.unusedVariables false
namespace Sa
/-- how many are not seen -/
def unF (L : Nat → Bool) : Nat → Nat
  | 0 => 0
  | n + 1 => unF L n + (if L n = false then 1 else 0)
theorem unF_congr {L L' : Nat → Bool} : ∀ {n : Nat}, (∀ b, b < n → L b = L' b) → unF L n = unF L' n
  | 0, _ => rfl
  | n + 1, h => by unfold unF; rw [unF_congr (n := n) (fun b hb => h b (by omega)), h n (by omega)]
theorem unF_set {L : Nat → Bool} {b : Nat} (hL : L b = false) : ∀ {n : Nat}, b < n → unF (fun k => if k = b then true else L k) n + 1 = unF L n
  | 0, h => by omega
  | n + 1, h => by
    unfold unF
    by_cases e : b = n
    · subst e
      rw [unF_congr (L := fun k => if k = b then true else L k) (L' := L) (fun k hk => by show (if k = b then true else L k) = L k; rw [if_neg (by omega)])]
      rw [if_pos rfl, hL]
      simp
    · have h1 := unF_set (n := n) hL (by omega : b < n)
      simp only [if_neg (show ¬ n = b from fun e2 => e e2.symm)]
      omega
/-- a search: what is seen, in which order it was come to, up to where all its ways have been looked at -/
structure Bf (bs : List Bl) (L : Nat → Bool) (l : List Int) : Prop where
  rg : ∀ x, x ∈ l → 0 ≤ x ∧ x < (bs.length : Int)
  sn : ∀ b : Nat, b < bs.length → (L b = true ↔ (b : Int) ∈ l)
  cn : l.length + unF L bs.length = bs.length
theorem Bf.le {bs : List Bl} {L : Nat → Bool} {l : List Int} (h : Bf bs L l) : l.length ≤ bs.length := by have := h.cn; omega
theorem Bf.add {bs : List Bl} {L : Nat → Bool} {l : List Int} (h : Bf bs L l) {q : Nat} (hq : q < bs.length) (hL : L q = false) : Bf bs (fun k => if k = q then true else L k) (l ++ [(q : Int)]) := by
  refine ⟨fun x hx => ?_, fun b hb => ?_, ?_⟩
  · rcases List.mem_append.1 hx with hx | hx
    · exact h.rg x hx
    · rw [List.mem_singleton.1 hx]; omega
  · show (if b = q then true else L b) = true ↔ _
    by_cases e : b = q
    · subst e; simp
    · rw [if_neg e, h.sn b hb, List.mem_append, List.mem_singleton]
      constructor
      · exact fun hm => .inl hm
      · rintro (hm | hm)
        · exact hm
        · omega
  · have h1 := unF_set (n := bs.length) hL hq
    have := h.cn
    rw [List.length_append, List.length_singleton]
    omega
theorem Bf.one {bs : List Bl} {q : Nat} (hq : q < bs.length) : Bf bs (fun k => if k = q then true else false) [(q : Int)] := by
  have h0 : Bf bs (fun _ => false) [] := ⟨fun x hx => by simp at hx, fun b hb => by simp, by
    have : ∀ n, unF (fun _ => false) n = n := fun n => by
      induction n with
      | zero => rfl
      | succ n ih => unfold unF; rw [ih]; simp
    rw [this]; simp⟩
  exact h0.add hq rfl
/-- all ways of those ahead of i have been looked at -/
def Done (bs : List Bl) (l : List Int) (i : Nat) : Prop := ∀ j, j < i → ∀ s, s ∈ (bs.getD (l.getD j 0).toNat bl0).succs → s ∈ l
theorem Done.zero (bs : List Bl) (l : List Int) : Done bs l 0 := fun j hj => by omega
theorem Done.more {bs : List Bl} {l m : List Int} {i : Nat} (h : Done bs l i) (hi : i ≤ l.length) : Done bs (l ++ m) i := fun j hj s hs => by
  have e : (l ++ m).getD j 0 = l.getD j 0 := by simp only [List.getD_eq_getElem?_getD]; rw [List.getElem?_append_left (by omega)]
  rw [e] at hs
  exact List.mem_append_left _ (h j hj s hs)
theorem Done.step {bs : List Bl} {l : List Int} {i : Nat} (h : Done bs l i) (hs : ∀ s, s ∈ (bs.getD (l.getD i 0).toNat bl0).succs → s ∈ l) : Done bs l (i + 1) := fun j hj s hs2 => by
  by_cases e : j = i
  · subst e; exact hs s hs2
  · exact h j (by omega) s hs2
/-- **all that is reached is seen** -/
theorem Bf.reach {bs : List Bl} {L : Nat → Bool} {l : List Int} (h : Bf bs L l) (hd : Done bs l l.length) {a : Int} (ha : a ∈ l) : ∀ n {c : Int}, reachN bs n a c → c ∈ l
  | 0, c, hc => by
    unfold reachN at hc
    rw [← hc]; exact ha
  | n + 1, c, hc => by
    unfold reachN at hc
    obtain ⟨b, hb, hs⟩ := hc
    have h1 := Bf.reach h hd ha n hb
    obtain ⟨j, hj, e⟩ := List.mem_iff_getElem.1 h1
    have e2 : l.getD j 0 = b := by rw [List.getD_eq_getElem?_getD, List.getElem?_eq_getElem hj, Option.getD_some, e]
    exact hd j hj c (by rw [e2]; exact hs)
theorem Bf.all {bs : List Bl} {L : Nat → Bool} {l : List Int} (h : Bf bs L l) (hd : Done bs l l.length) {a : Int} (ha : a ∈ l) {b : Nat} (hb : b < bs.length) (hr : Reach bs a b) : L b = true := by
  obtain ⟨n, hn⟩ := hr
  exact (h.sn b hb).2 (h.reach hd ha n hn)
end Sa
/-- bools of the call's own -/
def OwnF (w : World) (base : Nat) (v : Value) (n : Nat) (L : Nat → Bool) : Prop := w.ownsRow base 4 1 v n ((List.range n).map fun i => Value.bool (L i))
theorem OwnF.grow {w w' : World} {base n : Nat} {v : Value} {L : Nat → Bool} (h : OwnF w base v n L) (hg : w.grownBy w' none) : OwnF w' base v n L := World.ownsRow.kept h hg (Classical.em _)
theorem OwnF.cell {w : World} {base n c T : Nat} {L : Nat → Bool} (h : OwnF w base (.slice (some ⟨T, 0, none⟩) n c) n L) {i : Nat} (hi : i < n) : w.cell? ⟨T, i, none⟩ = some (.bool (L i)) := by
  rw [World.ownsRow.cellAt h i (by omega), List.getElem?_map, List.getElem?_range hi]
  rfl
theorem OwnF.frozen {w : World} {base n c T : Nat} {L : Nat → Bool} (h : OwnF w base (.slice (some ⟨T, 0, none⟩) n c) n L) (i : Nat) : w.frozen? ⟨T, i, none⟩ = false := World.ownsRow.frozenAt h i
theorem OwnF.congr {w : World} {base n : Nat} {v : Value} {L L' : Nat → Bool} (h : OwnF w base v n L) (e : ∀ i, i < n → L i = L' i) : OwnF w base v n L' := by
  unfold OwnF at h ⊢
  rw [show (List.range n).map (fun i => Value.bool (L' i)) = (List.range n).map (fun i => Value.bool (L i)) from List.map_congr_left fun i hi => by rw [e i (List.mem_range.1 hi)]]
  exact h
theorem OwnF.set {w : World} {base n c T : Nat} {L : Nat → Bool} (h : OwnF w base (.slice (some ⟨T, 0, none⟩) n c) n L) {i : Nat} (hi : i < n) (x : Bool) : OwnF (w.setCell ⟨T, i, none⟩ (.bool x)) base (.slice (some ⟨T, 0, none⟩) n c) n (fun k => if k = i then x else L k) := by
  have := (World.ownsRow.stored h i (.bool x)).1
  unfold OwnF
  rw [show (List.range n).map (fun k => Value.bool (if k = i then x else L k)) = ((List.range n).map fun k => Value.bool (L k)).set i (.bool x) from ?_]
  · exact this
  · refine List.ext_getElem (by simp) fun k h1 h2 => ?_
    simp at h1
    simp [List.getElem_set]
    by_cases e : k = i
    · subst e; simp
    · simp [e, Ne.symm e]
theorem info_bool : (Try.prog.info? 4).map (fun i => (i.zero, i.size, i.bytes)) = some (some (.bool false), 1, 1) := by kernel_rfl
theorem run_make_f (w : World) (n : Nat) (hn : (n : Int) ≤ 8796093022208) : ∃ w1, (Instr.makeSlice 42 (.int .i64 n) (.int .i64 n)).run Try.prog w = .ok (.slice (some ⟨w.heap.size, 0, none⟩) n n) w1 ∧ OwnF w1 w.heap.size (.slice (some ⟨w.heap.size, 0, none⟩) n n) n (fun _ => false) ∧ w.grownBy w1 none := by
  obtain ⟨i, hi, hz0, hz1, hz2⟩ := info_parts info_bool
  have := run_make (P := Try.prog) w 42 4 i (.bool false) Try.underlying42 hi hz0 .i64 .i64 n n (by omega) (by omega) (by rw [hz2]; omega) (by omega)
  rw [hz1] at this
  simp only [Int.toNat_natCast, Nat.mul_one] at this
  refine ⟨_, this, ?_, World.grownBy_alloc _ _ _⟩
  have e : madeCells (Value.bool false).cells n = ((List.range n).map fun _ => Value.bool false).toArray := by
    apply Array.ext
    · simp [madeCells]
    · intro k h1 h2
      simp [madeCells, Value.cells, Nat.mod_one]
  rw [e]
  have := World.ownsRow_lit (base := w.heap.size) (e := 4) (size := 1) w ((List.range n).map fun _ => Value.bool false).toArray n (Nat.le_refl _) (by unfold maxLen; omega) (by simp)
  simpa [OwnF] using this
/-- bools and numbers lie apart -/
theorem apartFZ {w : World} {b1 b2 n : Nat} {v1 v2 : Value} {L : Nat → Bool} {l : List Int} (h1 : OwnF w b1 v1 n L) (h2 : OwnZ w b2 v2 l) : v2.ownBlock = none ∨ v2.ownBlock ≠ v1.ownBlock := by
  rcases h2.2 with ⟨rfl, _⟩ | ⟨g2, c2, cur2, rfl, _, e2, _⟩
  · exact .inl rfl
  · refine .inr ?_
    rcases h1.2 with ⟨rfl, _⟩ | ⟨g1, c1, cur1, rfl, _, e1, _⟩
    · simp [Value.ownBlock]
    · intro e
      simp [Value.ownBlock] at e
      subst e
      rw [e1] at e2
      simp at e2
end Go.Proofs.Ytbpdggdpgohilaa
namespace Go.Proofs.Ytbpdggdpgohilaa
open Go.RowKit
set_option linter.unusedVariables false
set_option maxRecDepth 100000
set_option maxHeartbeats 8000000
theorem ownZ_neC {w : World} {base B : Nat} {v : Value} {l : List Int} {L : List Value} (h : OwnZ w base v l) (hk : Bk w B 28 L) (hq : v.ownBlock = some B) : False := by
  rcases h.2 with ⟨e, _⟩ | ⟨q', c', cur, e, _, e2, _⟩
  · rw [e] at hq; cases hq
  · rw [e] at hq
    injection hq with hq
    subst hq
    unfold Bk at hk
    rw [e2] at hk
    simp at hk
theorem flReaches_any {NN : Nat} {bs : List Sa.Bl} {w : World} {v1 v2 v3 : Value} {a : Option Addr} {k : Nat} (hN : NN ≤ w.heap.size) (h : BlL (· < NN) w a k bs) (hsd : Sa.Leads bs) (hble : bs.length ≤ 4096) {p q : Nat} (hp : p < bs.length) (hq : q < bs.length) : Calls Try.prog 15 #[.agg #[v1, v2, v3, .slice a bs.length k], .int .i64 (p : Int), .int .i64 (q : Int)] w fun r w' => ∃ R, r = .returned (.bool R) ∧ (Sa.Reach bs p q → R = true) ∧ w.grownBy w' none := by
  obtain ⟨N, hNe⟩ : ∃ N, N = w.heap.size := ⟨_, rfl⟩
  have HN : Hid (N = w.heap.size) := hNe
  have HBL : Hid (∀ W, Below N w W → BlL (· < N) W a k bs) := fun W g => BlL.below (by rw [hNe]; exact h.wide hN) g
  obtain ⟨n, hn⟩ : ∃ n, n = bs.length := ⟨_, rfl⟩
  have HNn : Hid (n = bs.length) := hn
  obtain ⟨w1, hw1⟩ : ∃ w1, w1 = w.alloc (Obj.cells #[v1, v2, v3, .slice a n k] 28) := ⟨_, rfl⟩
  have hg1 : w.grownBy w1 none := by rw [hw1]; exact World.grownBy_alloc _ _ _
  have hk1 : Bk w1 N 28 [v1, v2, v3, .slice a n k] := by rw [hw1, hNe]; exact Bk.new _ _ _
  obtain ⟨w2, hmk, ho2, hg2⟩ := run_make_f w1 n (by omega)
  have HK2 : Hid (Bk w2 N 28 [v1, v2, v3, .slice a n k]) := hk1.grow hg2
  have HO2 : Hid (OwnF w2 N (.slice (some ⟨w1.heap.size, 0, none⟩) n n) n (fun _ => false)) := World.ownsRow.mono ho2 (by rw [hNe]; exact hg1.size)
  have HG2 : Hid (w.grownBy w2 none) := grown_trans hg1 hg2
  have x3 := hk1.cell (i := 3) rfl
  obtain ⟨TB, hTB⟩ : ∃ TB, TB = w1.heap.size := ⟨_, rfl⟩
  rw [← hTB] at hmk HO2
  have f2 := HO2.out.frozen p
  have c2 := HO2.out.cell (i := p) (by rw [hn]; exact hp)
  have hpn : (p : Int) < (n : Int) := by omega
  rw [hw1, hNe] at x3
  rw [hw1] at hmk
  rw [← hn]
  have HPQ : Hid (p < n ∧ q < n) := ⟨by rw [hn]; exact hp, by rw [hn]; exact hq⟩
  have hble' : n ≤ 4096 := by rw [hn]; exact hble
  have hqn : (q : Int) < (n : Int) := by omega
  clear h hN hTB hw1 hg1 hk1 ho2 hg2 hn hNe hble hp hq
  go_enter Try.func15, Try.ntmps15
  go_wp2_with fail
  obtain ⟨W3, hW3⟩ : ∃ W3, W3 = w2.setCell ⟨TB, p, none⟩ (.bool true) := ⟨_, rfl⟩
  have hC3 : Ch w2 W3 [TB] := by rw [hW3]; exact Ch.one (grown_set _ _ _ _) (by simp)
  have hTl : N ≤ TB := (World.ownsRow.lt HO2.out TB rfl).1
  have hTN : N ≠ TB := by
    intro e
    have h1 := HK2.out
    rcases HO2.out.2 with ⟨e1, _⟩ | ⟨g, c, cur, e1, _, e2, _⟩
    · cases e1
    · injection e1 with e3
      injection e3 with e3
      injection e3 with e3
      unfold Bk at h1
      rw [e, e3, e2] at h1
      simp at h1
  have hK3 : Bk W3 N 28 [v1, v2, v3, .slice a n k] := HK2.out.ch hC3 (by simp; exact hTN)
  have hO3 : OwnF W3 N (.slice (some ⟨TB, 0, none⟩) n n) n (fun k => if k = p then true else false) := by rw [hW3]; exact HO2.out.set HPQ.out.1 true
  have hz3 : OwnZ (W3.alloc (.cells #[.int .i64 (p : Int)] 3)) N (.slice (some ⟨W3.heap.size, 0, none⟩) 1 1) [(p : Int)] := ⟨rfl, .inr ⟨W3.heap.size, 1, #[.int .i64 (p : Int)], rfl, by have := hC3.size; have := HG2.out.size; have := HN.out; omega, by show (W3.heap.push _)[W3.heap.size]? = _; simp, Nat.le_refl _, by unfold maxLen; omega, rfl, rfl⟩⟩
  have hB3 : Below N w (W3.alloc (.cells #[.int .i64 (p : Int)] 3)) := ((show Below N w w2 from (Ch.of (l := []) HG2.out).below (by rw [HN.out]; exact Nat.le_refl _) (by simp)).trans (hC3.below (by have := HG2.out.size; have := HN.out; omega) (by simp; exact hTl))).trans ((Ch.of (l := []) (World.grownBy_alloc _ _ _)).below (by have := hC3.size; have := HG2.out.size; have := HN.out; omega) (by simp))
  have HSt : Hid (OwnF (W3.alloc (.cells #[.int .i64 (p : Int)] 3)) N (.slice (some ⟨TB, 0, none⟩) n n) n (fun k => if k = p then true else false) ∧ OwnZ (W3.alloc (.cells #[.int .i64 (p : Int)] 3)) N (.slice (some ⟨W3.heap.size, 0, none⟩) 1 1) [(p : Int)] ∧ Bk (W3.alloc (.cells #[.int .i64 (p : Int)] 3)) N 28 [v1, v2, v3, .slice a n k] ∧ Below N w (W3.alloc (.cells #[.int .i64 (p : Int)] 3))) := ⟨hO3.grow (World.grownBy_alloc _ _ _), hz3, hK3.grow (World.grownBy_alloc _ _ _), hB3⟩
  have HBf : Hid (Sa.Bf bs (fun k => if k = p then true else false) [(p : Int)]) := Sa.Bf.one (by rw [← HNn.out]; exact HPQ.out.1)
  have HTl : Hid (N ≤ TB) := hTl
  rw [hW3, show (w2.setCell ⟨TB, p, none⟩ (.bool true)).heap.size = w2.heap.size by simp] at HSt
  clear hW3 hC3 hTN hK3 hO3 hz3 hB3 HK2 HO2 hmk x3 f2 c2 hTl
  go_loopw [8, 9] (fun lv iv wr => ∃ (i : Nat) (L : Nat → Bool) (l : List Int), iv = .int .i64 i ∧ i ≤ l.length ∧ Sa.Bf bs L l ∧ Sa.Done bs l i ∧ (p : Int) ∈ l ∧ OwnF wr N (.slice (some ⟨TB, 0, none⟩) n n) n L ∧ OwnZ wr N lv l ∧ Bk wr N 28 [v1, v2, v3, .slice a n k] ∧ Below N w wr) (fun _ iv _ => n - (intOf iv).toNat)
  case atStart => exact ⟨0, _, _, rfl, Nat.zero_le _, HBf.out, Sa.Done.zero _ _, by simp, HSt.out.1, HSt.out.2.1, HSt.out.2.2.1, HSt.out.2.2.2⟩
  case round =>
    obtain ⟨i, L, l, rfl, hi, hbf, hdn, hpl, hof, hoz, hbk, hbl⟩ := hrel
    have HBf2 : Hid (Sa.Bf bs L l) := hbf
    have HDn : Hid (Sa.Done bs l i) := hdn
    have HPl : Hid ((p : Int) ∈ l) := hpl
    have HOf : Hid (OwnF wr N (.slice (some ⟨TB, 0, none⟩) n n) n L) := hof
    have HOz : Hid (OwnZ wr N u8 l) := hoz
    have HBk : Hid (Bk wr N 28 [v1, v2, v3, .slice a n k]) := hbk
    have HBl : Hid (Below N w wr) := hbl
    obtain ⟨la, lc, hu8, hl1, hl2, hl3⟩ := hoz.slice
    obtain ⟨m, hm⟩ : ∃ m, m = l.length := ⟨_, rfl⟩
    have HM : Hid (m = l.length) := hm
    rw [← hm] at hu8 hi hl1 hl3
    subst hu8
    have hmn : m ≤ n := by rw [hm, HNn.out]; exact hbf.le
    have HTW : Hid (TB ≠ N) := fun e => by
      have h1 := hbk
      rcases hof.2 with ⟨e1, _⟩ | ⟨g, c, cur, e1, _, e2, _⟩
      · cases e1
      · injection e1 with e3
        injection e3 with e3
        injection e3 with e3
        unfold Bk at h1
        rw [← e, e3, e2] at h1
        simp at h1
    clear hm hbf hdn hpl hof hoz hbk hbl HSt HBf
    rw [← HN.out]
    by_cases him : i < m
    case neg =>
      obtain rfl : i = m := by omega
      have hR : Sa.Reach bs p q → L q = true := fun hr => HBf2.out.all (by have := HDn.out; rw [HM.out] at this; exact this) HPl.out (by rw [← HNn.out]; exact HPQ.out.2) hr
      have HR : Hid (Sa.Reach bs p q → L q = true) := hR
      have hcq := HOf.out.cell HPQ.out.2
      obtain ⟨R, hRR⟩ : ∃ R, R = L q := ⟨_, rfl⟩
      rw [← hRR] at hcq HR
      clear hR hRR
      go_wp2_with fail
      refine bodyPost_ret (by simp [results, Try.results15, go_sem]; try rfl) rfl ?_
      exact ⟨R, rfl, HR.out, belowNone (by have := HBl.out; rw [HN.out] at this; exact this)⟩
    have himI : (i : Int) < (m : Int) := by omega
    obtain ⟨LB, rfl, hLB1, hLB2⟩ := hl3 (by omega)
    have hci : wr.cell? ⟨LB, i, none⟩ = some (.int .i64 (l.getD i 0)) := (show OwnN wr N (.slice (some ⟨LB, 0, none⟩) m lc) m (fun i => l.getD i 0) by have h9 := HOz.out.n; rw [← HM.out] at h9; exact h9).cell (i := i) him
    have hil : i < l.length := by rw [← HM.out]; exact him
    obtain ⟨x0, x1⟩ := HBf2.out.rg (l.getD i 0) (by
      rw [List.getD_eq_getElem?_getD, List.getElem?_eq_getElem hil]
      exact List.getElem_mem hil)
    obtain ⟨x, hx⟩ : ∃ x : Nat, l.getD i 0 = (x : Int) := ⟨(l.getD i 0).toNat, by omega⟩
    have hxn : (x : Int) < (n : Int) := by rw [HNn.out]; omega
    have HX : Hid (l.getD i 0 = (x : Int)) := hx
    rw [hx] at hci
    have hxb : x < bs.length := by omega
    obtain ⟨bb, bo, b1, b2, b3, b4, m1, m2, m3, m4, hba, hbb, hbl⟩ := (HBL.out wr HBl.out).num hxb
    obtain ⟨cs, hcs⟩ : ∃ cs, cs = (bs.getD x Sa.bl0).succs := ⟨_, rfl⟩
    have HCs : Hid (cs = (bs.getD x Sa.bl0).succs) := hcs
    have hSu : ∀ y, y ∈ cs → 0 ≤ y ∧ y < (bs.length : Int) := by rw [hcs]; exact hsd x hxb
    have HSu : Hid (∀ y, y ∈ cs → 0 ≤ y ∧ y < (bs.length : Int)) := hSu
    have cS := hbl.c4
    have hSl := hbl.succs
    rw [← hcs] at cS hSl
    have hsle := hSl.le
    have hsmx := hSl.max
    unfold maxLen at hsmx hl2
    have HSn : Hid (∀ W, Below N wr W → NumL (· < N) W b3 m3 cs) := fun W g => NumL.ch hSl (Ch.ofBelow g) (fun q hq hm => by have := (List.mem_range'_1.1 hm).1; omega) (fun _ h => h)
    have z3 := HBk.out.cell (i := 3) rfl
    rw [hba] at z3
    clear hbl hcs hSl hSu x0 x1 hx hil
    go_wp2_with fail
    go_quiet (fail)
    have hgd : wr.grownBy (wr.drewN nq) none := grown_drewN (World.grownBy.refl _ none) nq
    obtain ⟨w4, hw4⟩ : ∃ w4, w4 = wr.drewN nq := ⟨_, rfl⟩
    rw [← hw4] at hgd ⊢
    have hNr : N ≤ wr.heap.size := by have := HTl.out; have := (World.ownsRow.lt HOf.out TB rfl).2; omega
    have HB4 : Hid (Below N wr w4) := (Ch.of (l := []) hgd).below hNr (by simp)
    have HSt4 : Hid (OwnF w4 N (.slice (some ⟨TB, 0, none⟩) n n) n L ∧ OwnZ w4 N (.slice (some ⟨LB, 0, none⟩) m lc) l ∧ Bk w4 N 28 [v1, v2, v3, .slice a n k]) := ⟨HOf.out.grow hgd, HOz.out.grow hgd, HBk.out.grow hgd⟩
    clear hgd hw4 z3 hci cS hba HOf HOz HBk
    go_wp2_with fail
    obtain ⟨wo, hwo⟩ : ∃ wo, wo = wr := ⟨_, rfl⟩
    rw [← hwo] at HB4 HSn HBl hNr
    clear hwo
    go_loopw [8, 11] (fun lv kv wq => ∃ (j : Nat) (L2 : Nat → Bool) (l2 : List Int), kv = .int .i64 j ∧ j ≤ cs.length ∧ i < l2.length ∧ l2.getD i 0 = (x : Int) ∧ (∀ e, e < j → cs.getD e 0 ∈ l2) ∧ Sa.Bf bs L2 l2 ∧ Sa.Done bs l2 i ∧ (p : Int) ∈ l2 ∧ OwnF wq N (.slice (some ⟨TB, 0, none⟩) n n) n L2 ∧ OwnZ wq N lv l2 ∧ Bk wq N 28 [v1, v2, v3, .slice a n k] ∧ Below N wo wq) (fun _ kv _ => cs.length - (intOf kv).toNat)
    case atStart => exact ⟨0, L, l, rfl, Nat.zero_le _, by rw [← HM.out]; exact him, HX.out, fun e he => by omega, HBf2.out, HDn.out, HPl.out, HSt4.out.1, HSt4.out.2.1, HSt4.out.2.2, HB4.out⟩
    case round =>
      obtain ⟨j, L2, l2, rfl, hj, hil, hxl, hsn, hbf, hdn, hpl, hof, hoz, hbk, hbl⟩ := hrel
      clear HBf2 HDn HPl HSt4 HB4
      have HIl : Hid (i < l2.length ∧ l2.getD i 0 = (x : Int)) := ⟨hil, hxl⟩
      have HSn2 : Hid (∀ e, e < j → cs.getD e 0 ∈ l2) := hsn
      have HBf3 : Hid (Sa.Bf bs L2 l2) := hbf
      have HDn3 : Hid (Sa.Done bs l2 i) := hdn
      have HPl3 : Hid ((p : Int) ∈ l2) := hpl
      have HOf3 : Hid (OwnF wr N (.slice (some ⟨TB, 0, none⟩) n n) n L2) := hof
      have HOz3 : Hid (OwnZ wr N u8 l2) := hoz
      have HBk3 : Hid (Bk wr N 28 [v1, v2, v3, .slice a n k]) := hbk
      have HB3 : Hid (Below N wo wr) := hbl
      obtain ⟨la2, lc2, hu8, hk1, hk2, hk3⟩ := hoz.slice
      obtain ⟨m2, hm2⟩ : ∃ m2, m2 = l2.length := ⟨_, rfl⟩
      have HM2 : Hid (m2 = l2.length) := hm2
      rw [← hm2] at hu8
      subst hu8
      have hm2n : l2.length ≤ n := by rw [HNn.out]; exact hbf.le
      have hNq : N ≤ wr.heap.size := by have := HTl.out; have := (World.ownsRow.lt hof TB rfl).2; omega
      clear hm2 hbf hdn hpl hof hoz hbk hbl hil hxl hsn hk1 hk2 hk3
      by_cases hjc : j < cs.length
      case neg =>
        obtain rfl : j = cs.length := by omega
        have c9 : ¬ (cs.length : Int) < (cs.length : Int) := by omega
        have hall : ∀ y, y ∈ (bs.getD (l2.getD i 0).toNat Sa.bl0).succs → y ∈ l2 := fun y hy => by
          rw [HIl.out.2, Int.toNat_natCast, ← HCs.out] at hy
          obtain ⟨e, he, e2⟩ := List.mem_iff_getElem.1 hy
          have := HSn2.out e he
          rw [List.getD_eq_getElem?_getD, List.getElem?_eq_getElem he, Option.getD_some, e2] at this
          exact this
        have HDn4 : Hid (Sa.Done bs l2 (i + 1)) := HDn3.out.step hall
        clear hall
        go_wp2_with fail
        go_roundw
        case rel => exact ⟨i + 1, L2, l2, by go_num, by have := HIl.out.1; omega, HBf3.out, HDn4.out, HPl3.out, HOf3.out, HOz3.out, HBk3.out, HBl.out.trans HB3.out⟩
        case measure => simp [intOf]; omega
      have hjcI : (j : Int) < (cs.length : Int) := by omega
      obtain ⟨za, zo, rfl, hzN, hz⟩ := (HSn.out wr HB3.out).at hjc
      unfold NumQ at hz
      rw [Nat.mul_one] at hz
      obtain ⟨y0, y1⟩ := HSu.out _ (List.getElem_mem hjc)
      obtain ⟨y, hy⟩ : ∃ y : Nat, cs[j] = (y : Int) := ⟨(cs[j]).toNat, by omega⟩
      have hyb : y < bs.length := by omega
      have hyn : (y : Int) < (n : Int) := by rw [HNn.out]; omega
      have hyN : y < n := by rw [HNn.out]; exact hyb
      have HY : Hid (cs.getD j 0 = (y : Int)) := by show cs.getD j 0 = _; rw [List.getD_eq_getElem?_getD, List.getElem?_eq_getElem hjc, Option.getD_some, hy]
      rw [hy] at hz
      have cL := HOf3.out.cell hyN
      have fL := HOf3.out.frozen y
      clear hy y0 y1
      cases e1 : L2 y with
      | true =>
        rw [e1] at cL
        have hyl : (y : Int) ∈ l2 := (HBf3.out.sn y hyb).1 e1
        have HSn4 : Hid (∀ e, e < j + 1 → cs.getD e 0 ∈ l2) := fun e he => by
          by_cases h9 : e = j
          · subst h9; rw [HY.out]; exact hyl
          · exact HSn2.out e (by omega)
        clear e1 hyl
        go_wp2_with fail
        go_roundw
        case rel => exact ⟨j + 1, L2, l2, by go_num, by omega, HIl.out.1, HIl.out.2, HSn4.out, HBf3.out, HDn3.out, HPl3.out, HOf3.out, HOz3.out, HBk3.out, HB3.out⟩
        case measure => simp [intOf]; omega
      | false =>
        rw [e1] at cL
        have HBf4 : Hid (Sa.Bf bs (fun k => if k = y then true else L2 k) (l2 ++ [(y : Int)])) := HBf3.out.add hyb e1
        have HSn4 : Hid (∀ e, e < j + 1 → cs.getD e 0 ∈ l2 ++ [(y : Int)]) := fun e he => by
          by_cases h9 : e = j
          · subst h9; rw [HY.out]; simp
          · exact List.mem_append_left _ (HSn2.out e (by omega))
        have HDn4 : Hid (Sa.Done bs (l2 ++ [(y : Int)]) i) := HDn3.out.more (Nat.le_of_lt HIl.out.1)
        have HIl4 : Hid (i < (l2 ++ [(y : Int)]).length ∧ (l2 ++ [(y : Int)]).getD i 0 = (x : Int)) := ⟨by rw [List.length_append]; have := HIl.out.1; omega, by
          have := HIl.out
          rw [← this.2]
          simp only [List.getD_eq_getElem?_getD]
          rw [List.getElem?_append_left this.1]⟩
        have HPl4 : Hid ((p : Int) ∈ l2 ++ [(y : Int)]) := List.mem_append_left _ HPl3.out
        obtain ⟨W7, hW7⟩ : ∃ W7, W7 = wr.setCell ⟨TB, y, none⟩ (.bool true) := ⟨_, rfl⟩
        have hC7 : Ch wr W7 [TB] := by rw [hW7]; exact Ch.one (grown_set _ _ _ _) (by simp)
        have HOf7 : Hid (OwnF W7 N (.slice (some ⟨TB, 0, none⟩) n n) n (fun k => if k = y then true else L2 k)) := by rw [hW7]; exact HOf3.out.set hyN true
        have hap := apartFZ HOf3.out HOz3.out
        have HAp : Hid (∀ q, (Value.slice la2 m2 lc2).ownBlock = some q → q ≠ TB) := fun q hq e => by
          rcases hap with h9 | h9
          · rw [h9] at hq; cases hq
          · exact h9 (by rw [hq, e]; rfl)
        have HOz7 : Hid (OwnZ W7 N (.slice la2 m2 lc2) l2) := HOz3.out.ch hC7 (fun q hq => by have := HAp.out q hq; simpa using this)
        have HBk7 : Hid (Bk W7 N 28 [v1, v2, v3, .slice a n k]) := HBk3.out.ch hC7 (by simp; exact fun e => HTW e.symm)
        have HB7 : Hid (Below N wr W7) := hC7.below hNq (by simp; exact HTl.out)
        have HSz7 : Hid (N ≤ W7.heap.size ∧ W7.heap.size = wr.heap.size) := ⟨Nat.le_trans hNq hC7.size, by rw [hW7]; simp⟩
        have hml : l2.length ≤ 2000000 := by omega
        have z7 := hC7.cell hz (by simp; have := HTl.out; omega)
        rw [hW7] at z7
        clear e1 hap hC7
        go_wp2_with (at_builtin; rw [← hW7]; refine wp_appZ1 rfl (.tmp 56) (.tmp 61) rfl N (.slice la2 m2 lc2) l2 y rfl HOz7.out rfl HSz7.out.2.symm hml HSz7.out.1 ?_; intro v9 w9 ho9 hg9 hb9; have hC9 : Ch W7 w9 (Value.slice la2 m2 lc2).ownBlock.toList := grown_ch hg9 (by intro q hq; simp [hq]); have HOz9 : Hid (OwnZ w9 N v9 (l2 ++ [(y : Int)])) := ho9; have HOf9 : Hid (OwnF w9 N (.slice (some ⟨TB, 0, none⟩) n n) n (fun k => if k = y then true else L2 k)) := ownsRow_ch HOf7.out hC9 (by intro q hq hm; rw [Option.mem_toList] at hm; injection hq with hq; subst hq; exact HAp.out _ hm rfl); have HBk9 : Hid (Bk w9 N 28 [v1, v2, v3, .slice a n k]) := HBk7.out.ch hC9 (by intro hm; rw [Option.mem_toList] at hm; exact ownZ_neC HOz7.out HBk7.out hm); have HB9 : Hid (Below N W7 w9) := hC9.below HSz7.out.1 (by intro q hq; rw [Option.mem_toList] at hq; exact HOz7.out.base q hq); clear ho9 hg9 hb9 hC9)
        go_roundw
        case rel => exact ⟨j + 1, _, l2 ++ [(y : Int)], by go_num, by omega, HIl4.out.1, HIl4.out.2, HSn4.out, HBf4.out, HDn4.out, HPl4.out, HOf9.out, HOz9.out, HBk9.out, (HB3.out.trans HB7.out).trans HB9.out⟩
        case measure => simp [intOf]; omega
end Go.Proofs.Ytbpdggdpgohilaa
