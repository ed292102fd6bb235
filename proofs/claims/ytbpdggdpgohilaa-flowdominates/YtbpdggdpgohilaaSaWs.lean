/- ssa: what is asked of the flow. -/
import Derived.Test.YtbpdggdpgohilaaG10
import Derived.Test.YtbpdggdpgohilaaG12
import Derived.Test.YtbpdggdpgohilaaG9
namespace Go.Proofs.Ytbpdggdpgohilaa
open Go.RowKit
set_option linter.unusedVariables false
set_option maxRecDepth 100000
set_option maxHeartbeats 8000000

theorem OwnZ.numL {w : World} {base : Nat} {v : Value} {l : List Int} (h : OwnZ w base v l) (hl : l.length ≤ 2000000) : ∃ a c, v = .slice a l.length c ∧ NumL (· < w.heap.size) w a c l := by
  rcases h.2 with ⟨rfl, h0⟩ | ⟨g, cap, cur, rfl, hb, hg, hn, hm, hs, ht⟩
  · have : l = [] := List.eq_nil_of_length_eq_zero h0
    subst this
    exact ⟨none, 0, rfl, ⟨fun _ => ⟨rfl, rfl⟩, Nat.le_refl _, by unfold maxLen; omega, by simp, .inl rfl⟩⟩
  · refine ⟨_, _, rfl, ⟨fun h => (by cases h), hn, hm, by unfold reachBytes; omega, .inr ⟨g, 0, rfl, (Array.getElem?_eq_some_iff.1 hg).1, fun i x hx => ?_⟩⟩⟩
    have := World.ownsRow.cells h (g := g) rfl i (.int .i64 x) (by rw [List.getElem?_map, hx]; rfl)
    have ea : ∀ b o j : Nat, (⟨b, o, none⟩ : Addr).add j = ⟨b, o + j, none⟩ := fun b o j => by simp [Addr.add]
    rw [ea] at this
    unfold NumQ
    rw [Nat.mul_one]
    exact this
theorem WkAt.low {N M : Nat} {W : World} {WB RB n : Nat} {blk : Value} {s : Sa.Wk} (h : WkAt N W WB RB n blk s) (hN : M ≤ N) : WkAt M W WB RB n blk s := by
  obtain ⟨ov, pv, h⟩ := h
  exact ⟨ov, pv, h.k, Nat.le_trans hN h.lo, h.o.low hN, h.p.low hN, h.r.low hN, h.a1, h.a2, h.a3⟩
namespace Sa
theorem wayB_iff {bs : List Bl} {b : Bl} (h : wayB bs b = true) : 0 ≤ b.kind ∧ b.kind ≤ 4 ∧ (∀ x, x ∈ b.preds → 0 ≤ x ∧ x < (bs.length : Int) ∧ (bs.getD x.toNat bl0).kind ≠ 0) ∧ ∀ x, x ∈ b.succs → 0 ≤ x ∧ x < (bs.length : Int) := by
  unfold wayB at h
  simp only [Bool.and_eq_true, decide_eq_true_eq, areBlks, List.all_eq_true, isBlk, isNum_iff, bne_iff_ne] at h
  exact ⟨h.1.1.1, h.1.1.2, fun x hx => by have := h.2.1 x hx; exact ⟨this.1.1, this.1.2, this.2⟩, fun x hx => by have := h.2.2 x hx; exact ⟨this.1.1, this.1.2⟩⟩
theorem waysB_iff {bs : List Bl} (h : waysB bs = true) : 0 < bs.length ∧ bs.length ≤ 4096 ∧ ∀ i, i < bs.length → wayB bs (bs.getD i bl0) = true := by
  unfold waysB at h
  simp only [Bool.and_eq_true, decide_eq_true_eq, List.all_eq_true] at h
  refine ⟨h.1.1, h.1.2, fun i hi => ?_⟩
  rw [List.getD_eq_getElem?_getD, List.getElem?_eq_getElem hi, Option.getD_some]
  exact h.2 _ (List.getElem_mem hi)
theorem leads {bs : List Bl} (h : waysB bs = true) : Leads bs := fun b hb => (wayB_iff ((waysB_iff h).2.2 b hb)).2.2.2
theorem exits_le (k : Int) : exits k ≤ 2 := by unfold exits; split <;> (try split) <;> omega
/-- the parts of the flow -/
def fl1 (bs : List Bl) : Bool := (List.range bs.length).all fun i => (bs.getD i bl0).succs.length == exits (bs.getD i bl0).kind
def fl2 (bs : List Bl) : Bool := (List.range bs.length).all fun n => isSame (comes bs n) (bs.getD n bl0).preds
def fl4 (bs : List Bl) : Bool := (List.range bs.length).all fun n => (bs.getD n bl0).kind == 0 || (walk bs).rank n != -1
theorem all_getD {bs : List Bl} {p : Bl → Bool} : bs.all p = (List.range bs.length).all fun i => p (bs.getD i bl0) := by
  cases h : (List.range bs.length).all fun i => p (bs.getD i bl0) with
  | true =>
    rw [List.all_eq_true]
    intro x hx
    obtain ⟨i, hi, rfl⟩ := List.mem_iff_getElem.1 hx
    have := List.all_eq_true.1 h i (List.mem_range.2 hi)
    rwa [List.getD_eq_getElem?_getD, List.getElem?_eq_getElem hi, Option.getD_some] at this
  | false =>
    rw [List.all_eq_false] at h ⊢
    obtain ⟨i, hi, h⟩ := h
    rw [List.mem_range] at hi
    rw [List.getD_eq_getElem?_getD, List.getElem?_eq_getElem hi, Option.getD_some] at h
    exact ⟨_, List.getElem_mem hi, h⟩
theorem flowB_eq (bs : List Bl) : flowB bs = ((bs.getD 0 bl0).kind != 0 && fl1 bs && fl2 bs && (bs.getD 0 bl0).preds.length == 0 && fl4 bs) := by
  unfold flowB fl1 fl2 fl4
  rw [all_getD]
theorem fl1_len {bs : List Bl} (h : fl1 bs = true) (b : Nat) : (bs.getD b bl0).succs.length ≤ 2 := by
  by_cases hb : b < bs.length
  · have := List.all_eq_true.1 h b (List.mem_range.2 hb)
    rw [beq_iff_eq] at this
    rw [this]; exact exits_le _
  · rw [List.getD_eq_getElem?_getD, List.getElem?_eq_none (by omega)]
    simp [bl0]
end Sa
theorem saWaysF_any {NN : Nat} {bs : List Sa.Bl} {w : World} {a : Option Addr} {k : Nat} (hN : NN ≤ w.heap.size) (h : BlL (· < NN) w a k bs) (hw : Sa.waysB bs = true) : Calls Try.prog 38 #[.slice a bs.length k] w fun r w' => (Sa.flowB bs = false ∧ r = saF 131 ∧ w.grownBy w' none) ∨ (Sa.flowB bs = true ∧ ∃ WB RB, r = .returned (.pointer (some ⟨WB, 0, none⟩)) ∧ WkAt w.heap.size w' WB RB bs.length (.slice a bs.length k) (Sa.walk bs) ∧ w.grownBy w' none) := by
  have HM : Hid (∀ (b : Bool) (e : Int) W, Calls Try.prog 46 #[.bool b, .int .i64 e] W fun r w' => r = (bif b then .returned (.tuple #[]) else saF e) ∧ w' = W) := saMust_any
  obtain ⟨hn0, hn4, hwa⟩ := Sa.waysB_iff hw
  have hsd := Sa.leads hw
  obtain ⟨fl, hfl⟩ : ∃ fl, fl = Sa.flowB bs := ⟨_, rfl⟩
  have HFl : Hid (fl = ((bs.getD 0 Sa.bl0).kind != 0 && Sa.fl1 bs && Sa.fl2 bs && (bs.getD 0 Sa.bl0).preds.length == 0 && Sa.fl4 bs)) := by show fl = _; rw [hfl, Sa.flowB_eq]
  obtain ⟨wk, hwk⟩ : ∃ wk, wk = Sa.walk bs := ⟨_, rfl⟩
  have HF4 : Hid (Sa.fl4 bs = (List.range bs.length).all fun n => (bs.getD n Sa.bl0).kind == 0 || wk.rank n != -1) := by show Sa.fl4 bs = _; rw [hwk]; rfl
  rw [← hfl, ← hwk]
  have hnI : (0 : Int) < (bs.length : Int) := by omega
  have hn4I : (bs.length : Int) ≤ 4096 := by omega
  have HBL : Hid (∀ W, w.grownBy W none → BlL (· < NN) W a k bs) := fun W g => h.grow g
  obtain ⟨bb, bo, _, _, _, _, _, _, _, _, rfl, -, -⟩ := h.num hn0
  have HAt : Hid (∀ W, w.grownBy W none → ∀ i, i < bs.length → ∃ a1 a2 a3 a4 k1 k2 k3 k4, BlC (· < NN) W bb (bo + i * 6) (bs.getD i Sa.bl0) a1 a2 a3 a4 k1 k2 k3 k4) := fun W g i hi => by
    obtain ⟨b2, o2, a1, a2, a3, a4, k1, k2, k3, k4, he, -, hb⟩ := (h.grow g).num hi
    injection he with he
    injection he with e1 e2
    subst e1 e2
    exact ⟨a1, a2, a3, a4, k1, k2, k3, k4, hb⟩
  have HWd : Hid (∀ W, w.grownBy W none → Calls Try.prog 51 #[.slice (some ⟨bb, bo, none⟩) bs.length k] W fun r w' => ∃ WB RB, r = .returned (.pointer (some ⟨WB, 0, none⟩)) ∧ WkAt W.heap.size w' WB RB bs.length (.slice (some ⟨bb, bo, none⟩) bs.length k) (Sa.walk bs) ∧ W.grownBy w' none) := fun W g => saNewWalk_any (Nat.le_trans hN g.size) (HBL.out W g) hsd hn0 hn4
  rw [← hwk] at HWd
  clear hwk hfl hw hwa
  have HCm : Hid (Sa.fl1 bs = true → ∀ W, w.grownBy W none → Calls Try.prog 49 #[.slice (some ⟨bb, bo, none⟩) bs.length k] W fun r w' => ∃ FB vs, r = .returned (.slice (some ⟨FB, 0, none⟩) bs.length bs.length) ∧ FrAt W.heap.size w' FB bs.length (Sa.comes bs) vs ∧ W.grownBy w' none) := fun h1 W g => saComings_any (Nat.le_trans hN g.size) (HBL.out W g) hsd (Sa.fl1_len h1) hn4
  have HCl : Hid (Sa.fl1 bs = true → ∀ s, (Sa.comes bs s).length ≤ 2000000) := fun h1 s => by have := Sa.comesTo_len (Sa.fl1_len h1) s bs.length; rw [Sa.comes_eq]; omega
  obtain ⟨_, p2, _, _, _, q2, _, _, hb0⟩ := HAt.out w (World.grownBy.refl _ _) 0 hn0
  have c0 := hb0.c0
  obtain ⟨k0, hk0⟩ : ∃ k0, k0 = (bs.getD 0 Sa.bl0).kind := ⟨_, rfl⟩
  rw [← hk0] at c0 HFl
  simp only [Nat.zero_mul, Nat.add_zero] at c0
  have HN : Hid (NN ≤ w.heap.size) := hN
  clear h hN hb0 hk0
  cases ea : (k0 != 0) with
  | false =>
    rw [ea] at HFl
    have HR : Hid (fl = false) := by show fl = false; rw [HFl.out]; rfl
    clear HFl HCm HWd
    go_enter Try.func38, Try.ntmps38
    go_wp2_with (go_at_call 46; refine (HM.out _ _ _).mono ?_; rintro e w3 ⟨rfl, hw3⟩; rw [hw3]; clear hw3 w3; (try simp only [ea]); simp only [cond_false])
    exact ⟨rfl, .inl ⟨HR.out, rfl, World.grownBy.refl _ _⟩⟩
  | true =>
  rw [ea, Bool.true_and] at HFl
  go_enter Try.func38, Try.ntmps38
  go_wp2_with (go_at_call 46; refine (HM.out _ _ _).mono ?_; rintro e w3 ⟨rfl, hw3⟩; rw [hw3]; clear hw3 w3; (try simp only [ea]); simp only [cond_true])
  clear ea c0
  go_loopw [18] (fun ix wr => ∃ i : Nat, ix = .int .i64 i ∧ i ≤ bs.length ∧ (List.range i).all (fun i => (bs.getD i Sa.bl0).succs.length == Sa.exits (bs.getD i Sa.bl0).kind) = true ∧ w.grownBy wr none) (fun ix _ => bs.length - (intOf ix).toNat)
  case atStart => exact ⟨0, rfl, Nat.zero_le _, rfl, World.grownBy.refl _ _⟩
  case round =>
    obtain ⟨i, rfl, hi, hall, hg⟩ := hrel
    have HG : Hid (w.grownBy wr none) := hg
    have HAl : Hid ((List.range i).all (fun i => (bs.getD i Sa.bl0).succs.length == Sa.exits (bs.getD i Sa.bl0).kind) = true) := hall
    clear hg hall
    by_cases hil : i < bs.length
    case pos =>
      have hilI : (i : Int) < bs.length := by omega
      obtain ⟨a1, a2, a3, a4, k1, k2, k3, k4, hbl⟩ := HAt.out wr HG.out i hil
      have HUn : Hid (((bs.getD i Sa.bl0).succs.length == Sa.exits (bs.getD i Sa.bl0).kind) = true → (List.range (i + 1)).all (fun i => (bs.getD i Sa.bl0).succs.length == Sa.exits (bs.getD i Sa.bl0).kind) = true) := fun h9 => by rw [range_all, HAl.out, h9]; rfl
      have HUx : Hid (((bs.getD i Sa.bl0).succs.length == Sa.exits (bs.getD i Sa.bl0).kind) = false → fl = false) := fun h9 => by rw [HFl.out, show Sa.fl1 bs = false from range_all_no hil h9]; rfl
      obtain ⟨x, hx⟩ : ∃ x, x = bs.getD i Sa.bl0 := ⟨_, rfl⟩
      rw [← hx] at hbl HUn HUx
      have c0 := hbl.c0
      have c1 := hbl.c1
      have c2 := hbl.c2
      have c3 := hbl.c3
      have c4 := hbl.c4
      have c5 := hbl.c5
      have hle := hbl.succs.le
      have hmx := hbl.succs.max
      unfold maxLen at hmx
      clear hbl hx
      obtain ⟨B1, hB1⟩ : ∃ B1, B1 = wr.heap.size := ⟨_, rfl⟩
      obtain ⟨W1, hW1⟩ : ∃ W1, W1 = wr.alloc (Obj.cells #[.int .i64 x.kind, .int .i64 x.n, .slice a1 x.args.length k1, .slice a2 x.preds.length k2, .slice a3 x.succs.length k3, .slice a4 x.list.length k4] 41) := ⟨_, rfl⟩
      have HK : Hid (Bk W1 B1 41 [.int .i64 x.kind, .int .i64 x.n, .slice a1 x.args.length k1, .slice a2 x.preds.length k2, .slice a3 x.succs.length k3, .slice a4 x.list.length k4]) := by rw [hW1, hB1]; exact Bk.new _ _ _
      have HG1 : Hid (w.grownBy W1 none) := by rw [hW1]; exact grown_trans HG.out (World.grownBy_alloc _ _ _)
      have HY : Hid (∀ W, W1.grownBy W none → W.cell? ⟨B1, 4, none⟩ = some (.slice a3 x.succs.length k3) ∧ W.cell? ⟨B1, 0, none⟩ = some (.int .i64 x.kind)) := fun W g => ⟨(HK.out.grow g).cell (i := 4) rfl, (HK.out.grow g).cell (i := 0) rfl⟩
      obtain ⟨ez, hez⟩ : ∃ ez, ez = Sa.exits x.kind := ⟨_, rfl⟩
      rw [← hez] at HUn HUx
      have HEx : Hid (∀ W, W1.grownBy W none → Calls Try.prog 48 #[.int .i64 x.kind] W fun e w' => e = .returned (.int .i64 (ez : Int)) ∧ W.grownBy w' none) := fun W g => by rw [hez]; exact (saExits_any x.kind W).mono fun e w' h9 => ⟨h9.1, by rw [h9.2]; exact World.grownBy.refl _ _⟩
      have hnb : ((x.succs.length : Int) == (ez : Int)) = (x.succs.length == ez) := natB _ _
      clear hez
      cases eb : (x.succs.length == ez) with
      | false =>
        have HR : Hid (fl = false) := HUx.out eb
        have ea : ((x.succs.length : Int) == (ez : Int)) = false := by rw [hnb, eb]
        clear HUn HUx HCm HWd eb hnb
        go_wp2_with fail
        rw [← hW1, ← hB1]
        clear hW1 hB1 c0 c1 c2 c3 c4 c5
        refine region_lg 7 (World.grownBy.refl _ _) (by kernel_rfl) (by kernel_rfl) (by kernel_rfl) (by kernel_rfl) ?_
        simp only [List.take_succ_cons, List.take_zero]
        repeat (first
          | (refine lx_end fun W0 G0 => ?_)
          | (refine lx_no ?_ ?_ ?_; (· simp [Region.wanted]; done); (· kernel_rfl); simp only [Act.put, List.setIfInBounds_toArray, List.set_cons_succ, List.set_cons_zero])
          | (refine lx_val (v := ?_) ?_ ?_ ?_ ?_; rotate_left; (· kernel_rfl); (· exact ⟨by kernel_rfl, rfl⟩); (· intro W g; simp [go_sem, (HY.out W g).1, (HY.out W g).2, ea]; rfl); simp only [Act.put, List.setIfInBounds_toArray, List.set_cons_succ, List.set_cons_zero])
          | (refine lx_callg HEx.out ?_ ?_ ?_ ?_; (· kernel_rfl); (· exact ⟨by kernel_rfl, rfl⟩); (· intro W g; simp [go_sem]; done); simp only [Act.put, List.setIfInBounds_toArray, List.set_cons_succ, List.set_cons_zero]))
        simp only [List.drop_succ_cons, List.drop_zero]
        go_wp2_with (go_at_call 46; refine (HM.out _ _ _).mono ?_; rintro e w3 ⟨rfl, hw3⟩; rw [hw3]; clear hw3 w3; (try simp only [ea]); simp only [cond_false])
        exact ⟨rfl, .inl ⟨HR.out, rfl, grown_trans HG1.out G0⟩⟩
      | true =>
        have HN2 : Hid ((List.range (i + 1)).all (fun i => (bs.getD i Sa.bl0).succs.length == Sa.exits (bs.getD i Sa.bl0).kind) = true) := HUn.out eb
        have ea : ((x.succs.length : Int) == (ez : Int)) = true := by rw [hnb, eb]
        clear HUn HUx eb hnb
        go_wp2_with fail
        rw [← hW1, ← hB1]
        clear hW1 hB1 c0 c1 c2 c3 c4 c5
        refine region_lg 7 (World.grownBy.refl _ _) (by kernel_rfl) (by kernel_rfl) (by kernel_rfl) (by kernel_rfl) ?_
        simp only [List.take_succ_cons, List.take_zero]
        repeat (first
          | (refine lx_end fun W0 G0 => ?_)
          | (refine lx_no ?_ ?_ ?_; (· simp [Region.wanted]; done); (· kernel_rfl); simp only [Act.put, List.setIfInBounds_toArray, List.set_cons_succ, List.set_cons_zero])
          | (refine lx_val (v := ?_) ?_ ?_ ?_ ?_; rotate_left; (· kernel_rfl); (· exact ⟨by kernel_rfl, rfl⟩); (· intro W g; simp [go_sem, (HY.out W g).1, (HY.out W g).2, ea]; rfl); simp only [Act.put, List.setIfInBounds_toArray, List.set_cons_succ, List.set_cons_zero])
          | (refine lx_callg HEx.out ?_ ?_ ?_ ?_; (· kernel_rfl); (· exact ⟨by kernel_rfl, rfl⟩); (· intro W g; simp [go_sem]; done); simp only [Act.put, List.setIfInBounds_toArray, List.set_cons_succ, List.set_cons_zero]))
        simp only [List.drop_succ_cons, List.drop_zero]
        go_wp2_with (go_at_call 46; refine (HM.out _ _ _).mono ?_; rintro e w3 ⟨rfl, hw3⟩; rw [hw3]; clear hw3 w3; (try simp only [ea]); simp only [cond_true])
        go_roundw
        case rel => exact ⟨i + 1, by go_num, by omega, HN2.out, grown_trans HG1.out G0⟩
        case measure => simp [intOf]; omega
    obtain rfl : i = bs.length := by omega
    have h1 : Sa.fl1 bs = true := HAl.out
    have HC2 := HCm.out h1
    have HC3 : Hid (∀ W, w.grownBy W none → Calls Try.prog 49 #[.slice (some ⟨bb, bo, none⟩) bs.length k] W fun r w' => ∃ FB vs, r = .returned (.slice (some ⟨FB, 0, none⟩) bs.length bs.length) ∧ FrAt W.heap.size w' FB bs.length (Sa.comes bs) vs ∧ W.grownBy w' none) := HC2
    have HL3 : Hid (∀ s, (Sa.comes bs s).length ≤ 2000000) := HCl.out h1
    rw [h1, Bool.true_and] at HFl
    clear h1 HC2 HCm HCl HAl
    go_wp2_with (go_at_call 49; refine (HC3.out _ HG.out).mono ?_; rintro e w4 ⟨FB, vs, rfl, hf4, hg4⟩; have HF4 : Hid (FrAt wr.heap.size w4 FB bs.length (Sa.comes bs) vs) := hf4; have HG4 : Hid (w.grownBy w4 none) := grown_trans HG.out hg4; clear hf4 hg4)
    obtain ⟨wA, rfl⟩ : ∃ wA, wA = wr := ⟨_, rfl⟩
    clear HC3
    go_loopw [34] (fun ix wr => ∃ i : Nat, ix = .int .i64 i ∧ i ≤ bs.length ∧ (List.range i).all (fun n => Sa.isSame (Sa.comes bs n) (bs.getD n Sa.bl0).preds) = true ∧ w4.grownBy wr none) (fun ix _ => bs.length - (intOf ix).toNat)
    case atStart => exact ⟨0, rfl, Nat.zero_le _, rfl, World.grownBy.refl _ _⟩
    case round =>
      obtain ⟨i, rfl, hi, hall, hg⟩ := hrel
      have HG5 : Hid (w.grownBy wr none) := grown_trans HG4.out hg
      have HF5 : Hid (FrAt wA.heap.size wr FB bs.length (Sa.comes bs) vs) := HF4.out.grow hg
      have HGw : Hid (w4.grownBy wr none) := hg
      have HAl : Hid ((List.range i).all (fun n => Sa.isSame (Sa.comes bs n) (bs.getD n Sa.bl0).preds) = true) := hall
      clear hg hall
      by_cases hil : i < bs.length
      case pos =>
        have hilI : (i : Int) < bs.length := by omega
        obtain ⟨a1, a2, a3, a4, k1, k2, k3, k4, hbl⟩ := HAt.out wr HG5.out i hil
        have HUn : Hid (Sa.isSame (Sa.comes bs i) (bs.getD i Sa.bl0).preds = true → (List.range (i + 1)).all (fun n => Sa.isSame (Sa.comes bs n) (bs.getD n Sa.bl0).preds) = true) := fun h9 => by rw [range_all, HAl.out, h9]; rfl
        have HUx : Hid (Sa.isSame (Sa.comes bs i) (bs.getD i Sa.bl0).preds = false → fl = false) := fun h9 => by rw [HFl.out, show Sa.fl2 bs = false from range_all_no hil h9]; rfl
        have cF := HF5.out.cell hil
        obtain ⟨va, vc, hv, hvl⟩ := (HF5.out.o i hil).numL (HL3.out i)
        rw [hv] at cF
        have c3 := hbl.c3
        have HSm : Hid (Calls Try.prog 50 #[.slice va (Sa.comes bs i).length vc, .slice a2 (bs.getD i Sa.bl0).preds.length k2] wr fun e w' => e = .returned (.bool (Sa.isSame (Sa.comes bs i) (bs.getD i Sa.bl0).preds)) ∧ wr.grownBy w' none) := saIsSame_any (fun q hq => hq) hvl (RowL.mono hbl.preds (fun q hq => by have := HN.out; have := HG5.out.size; omega) (fun _ _ _ _ _ h => h)) (HL3.out i)
        obtain ⟨pl, hpl⟩ : ∃ pl, pl = (bs.getD i Sa.bl0).preds.length := ⟨_, rfl⟩
        obtain ⟨cl, hcl⟩ : ∃ cl, cl = (Sa.comes bs i).length := ⟨_, rfl⟩
        rw [← hcl] at cF HSm
        rw [← hpl] at c3 HSm
        clear hv hvl hbl hpl hcl
        cases ea : Sa.isSame (Sa.comes bs i) (bs.getD i Sa.bl0).preds with
        | false =>
          rw [ea] at HSm
          have HR : Hid (fl = false) := HUx.out ea
          clear HUn HUx ea HWd
          go_wp2_with (first
            | (go_at_call 50; refine HSm.out.mono ?_; rintro e w6 ⟨rfl, hg6⟩; have HG6 : Hid (wr.grownBy w6 none) := hg6; clear hg6)
            | (go_at_call 46; refine (HM.out _ _ _).mono ?_; rintro e w3 ⟨rfl, hw3⟩; rw [hw3]; clear hw3 w3; (try simp only [ea]); simp only [cond_false]))
          exact ⟨rfl, .inl ⟨HR.out, rfl, grown_trans HG5.out HG6.out⟩⟩
        | true =>
          rw [ea] at HSm
          have HN2 : Hid ((List.range (i + 1)).all (fun n => Sa.isSame (Sa.comes bs n) (bs.getD n Sa.bl0).preds) = true) := HUn.out ea
          clear HUn HUx ea
          go_wp2_with (first
            | (go_at_call 50; refine HSm.out.mono ?_; rintro e w6 ⟨rfl, hg6⟩; have HG6 : Hid (wr.grownBy w6 none) := hg6; clear hg6)
            | (go_at_call 46; refine (HM.out _ _ _).mono ?_; rintro e w3 ⟨rfl, hw3⟩; rw [hw3]; clear hw3 w3; (try simp only [ea]); simp only [cond_true]))
          go_roundw
          case rel => exact ⟨i + 1, by go_num, by omega, HN2.out, grown_trans HGw.out HG6.out⟩
          case measure => simp [intOf]; omega
      obtain rfl : i = bs.length := by omega
      have h2 : Sa.fl2 bs = true := HAl.out
      rw [h2, Bool.true_and] at HFl
      clear h2 HAl HF5 HF4 HGw HG4 HL3
      obtain ⟨_, p2, _, _, _, q2, _, _, hb0⟩ := HAt.out wr HG5.out 0 hn0
      have c3 := hb0.c3
      have h3le := hb0.preds.le
      have h3mx := hb0.preds.max
      unfold maxLen at h3mx
      obtain ⟨pl, hpl⟩ : ∃ pl, pl = (bs.getD 0 Sa.bl0).preds.length := ⟨_, rfl⟩
      rw [← hpl] at c3 HFl h3le
      simp only [Nat.zero_mul, Nat.add_zero] at c3
      have hnb : ((pl : Int) == 0) = (pl == 0) := natB pl 0
      clear hb0 hpl
      cases eb : (pl == 0) with
      | false =>
        rw [eb] at HFl
        have HR : Hid (fl = false) := by show fl = false; rw [HFl.out]; rfl
        have ea : ((pl : Int) == 0) = false := by rw [hnb, eb]
        clear HFl HWd eb hnb
        go_wp2_with (go_at_call 46; refine (HM.out _ _ _).mono ?_; rintro e w3 ⟨rfl, hw3⟩; rw [hw3]; clear hw3 w3; (try simp only [ea]); simp only [cond_false])
        exact ⟨rfl, .inl ⟨HR.out, rfl, HG5.out⟩⟩
      | true =>
      rw [eb, Bool.true_and] at HFl
      have ea : ((pl : Int) == 0) = true := by rw [hnb, eb]
      clear eb hnb
      go_wp2_with (first
        | (go_at_call 46; refine (HM.out _ _ _).mono ?_; rintro e w3 ⟨rfl, hw3⟩; rw [hw3]; clear hw3 w3; (try simp only [ea]); simp only [cond_true])
        | (go_at_call 51; refine (HWd.out _ HG5.out).mono ?_; rintro e w7 ⟨WB, RB, rfl, ha7, hg7⟩; have HA7 : Hid (WkAt w.heap.size w7 WB RB bs.length (.slice (some ⟨bb, bo, none⟩) bs.length k) wk) := ha7.low HG5.out.size; have HG7 : Hid (w.grownBy w7 none) := grown_trans HG5.out hg7; clear ha7 hg7))
      clear ea HWd c3
      obtain ⟨wB, rfl⟩ : ∃ wB, wB = wr := ⟨_, rfl⟩
      go_loopw [59] (fun ix wr => ∃ i : Nat, ix = .int .i64 i ∧ i ≤ bs.length ∧ (List.range i).all (fun n => (bs.getD n Sa.bl0).kind == 0 || wk.rank n != -1) = true ∧ w7.grownBy wr none) (fun ix _ => bs.length - (intOf ix).toNat)
      case atStart => exact ⟨0, rfl, Nat.zero_le _, rfl, World.grownBy.refl _ _⟩
      case round =>
        obtain ⟨i, rfl, hi, hall, hg⟩ := hrel
        have HG8 : Hid (w.grownBy wr none) := grown_trans HG7.out hg
        have HA8 : Hid (WkAt w.heap.size wr WB RB bs.length (.slice (some ⟨bb, bo, none⟩) bs.length k) wk) := HA7.out.grow hg
        have HGw : Hid (w7.grownBy wr none) := hg
        have HAl : Hid ((List.range i).all (fun n => (bs.getD n Sa.bl0).kind == 0 || wk.rank n != -1) = true) := hall
        clear hg hall
        by_cases hil : i < bs.length
        case neg =>
          obtain rfl : i = bs.length := by omega
          have HR : Hid (fl = true) := by show fl = true; rw [HFl.out, HF4.out]; exact HAl.out
          clear HFl HF4 HAl
          go_wp2
          go_ret
          exact .inr ⟨HR.out, WB, RB, rfl, HA8.out, HG8.out⟩
        have hilI : (i : Int) < bs.length := by omega
        obtain ⟨a1, a2, a3, a4, k1, k2, k3, k4, hbl⟩ := HAt.out wr HG8.out i hil
        have HUn : Hid (((bs.getD i Sa.bl0).kind == 0 || wk.rank i != -1) = true → (List.range (i + 1)).all (fun n => (bs.getD n Sa.bl0).kind == 0 || wk.rank n != -1) = true) := fun h9 => by rw [range_all, HAl.out, h9]; rfl
        have HUx : Hid (((bs.getD i Sa.bl0).kind == 0 || wk.rank i != -1) = false → fl = false) := fun h9 => by rw [HFl.out, HF4.out]; exact range_all_no hil h9
        obtain ⟨x, hx⟩ : ∃ x, x = bs.getD i Sa.bl0 := ⟨_, rfl⟩
        rw [← hx] at hbl HUn HUx
        have c0 := hbl.c0
        have c1 := hbl.c1
        have c2 := hbl.c2
        have c3 := hbl.c3
        have c4 := hbl.c4
        have c5 := hbl.c5
        clear hbl hx HFl HF4 HAl
        obtain ⟨B1, hB1⟩ : ∃ B1, B1 = wr.heap.size := ⟨_, rfl⟩
        obtain ⟨W1, hW1⟩ : ∃ W1, W1 = wr.alloc (Obj.cells #[.int .i64 x.kind, .int .i64 x.n, .slice a1 x.args.length k1, .slice a2 x.preds.length k2, .slice a3 x.succs.length k3, .slice a4 x.list.length k4] 41) := ⟨_, rfl⟩
        have ga : wr.grownBy W1 none := by rw [hW1]; exact World.grownBy_alloc _ _ _
        have HG1 : Hid (w.grownBy W1 none) := grown_trans HG8.out ga
        have HG2 : Hid (w7.grownBy W1 none) := grown_trans HGw.out ga
        obtain ⟨ov, pv, hL⟩ := HA8.out.grow ga
        have d2 := hL.k.cell (i := 2) rfl
        have dR := hL.r.cell hil
        rw [hW1] at d2 dR
        generalize wk.rank i = rz at *
        clear hL ga
        cases e0 : (x.kind == 0) with
        | true =>
          have HN2 := HUn.out (by rw [e0]; rfl)
          have HN3 : Hid ((List.range (i + 1)).all (fun n => (bs.getD n Sa.bl0).kind == 0 || wk.rank n != -1) = true) := HN2
          clear HUn HUx HN2
          go_wp2_with (go_at_call 46; refine (HM.out _ _ _).mono ?_; rintro e w3 ⟨rfl, hw3⟩; rw [hw3]; clear hw3 w3; (try simp only [ea]); simp only [cond_true])
          rw [← hW1]
          clear hW1
          go_roundw
          case rel => exact ⟨i + 1, by go_num, by omega, HN3.out, HG2.out⟩
          case measure => simp [intOf]; omega
        | false =>
          cases ea : (rz != -1) with
          | true =>
            have HN2 := HUn.out (by rw [e0, ea]; rfl)
            have HN3 : Hid ((List.range (i + 1)).all (fun n => (bs.getD n Sa.bl0).kind == 0 || wk.rank n != -1) = true) := HN2
            clear HUn HUx HN2
            go_wp2_with (go_at_call 46; refine (HM.out _ _ _).mono ?_; rintro e w3 ⟨rfl, hw3⟩; rw [hw3]; clear hw3 w3; (try simp only [ea]); simp only [cond_true])
            rw [← hW1]
            clear hW1
            go_roundw
            case rel => exact ⟨i + 1, by go_num, by omega, HN3.out, HG2.out⟩
            case measure => simp [intOf]; omega
          | false =>
            have HR : Hid (fl = false) := HUx.out (by rw [e0, ea]; rfl)
            clear HUn HUx
            go_wp2_with (go_at_call 46; refine (HM.out _ _ _).mono ?_; rintro e w3 ⟨rfl, hw3⟩; rw [hw3]; clear hw3 w3; (try simp only [ea]); simp only [cond_false])
            rw [← hW1]
            exact ⟨rfl, .inl ⟨HR.out, rfl, HG1.out⟩⟩
end Go.Proofs.Ytbpdggdpgohilaa
