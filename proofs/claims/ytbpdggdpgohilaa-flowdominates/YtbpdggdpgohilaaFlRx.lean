/- gantryref13's search from block 0, without a block, exactly. -/
import Derived.Test.YtbpdggdpgohilaaG14
import Derived.Test.YtbpdggdpgohilaaG13
import Derived.Test.YtbpdggdpgohilaaG21
namespace Go.Proofs.Ytbpdggdpgohilaa
open Go.RowKit
set_option linter.unusedVariables false
set_option maxRecDepth 100000
set_option maxHeartbeats 8000000

namespace Sa
/-- ways between blocks -/
def EB (bs : List Bl) (u v : Nat) : Prop := u < bs.length ∧ v < bs.length ∧ (v : Int) ∈ (bs.getD u bl0).succs
def DoneW (bs : List Bl) (ob : Nat) (l : List Int) (i : Nat) : Prop := ∀ j, j < i → ∀ s, s ∈ (bs.getD (l.getD j 0).toNat bl0).succs → s ≠ (ob : Int) → s ∈ l
theorem DoneW.zero (bs : List Bl) (ob : Nat) (l : List Int) : DoneW bs ob l 0 := fun j hj => by omega
theorem DoneW.more {bs : List Bl} {ob : Nat} {l m : List Int} {i : Nat} (h : DoneW bs ob l i) (hi : i ≤ l.length) : DoneW bs ob (l ++ m) i := fun j hj s hs ho => by
  have e : (l ++ m).getD j 0 = l.getD j 0 := by
    simp only [List.getD_eq_getElem?_getD]
    rw [List.getElem?_append_left (by omega)]
  rw [e] at hs
  exact List.mem_append_left _ (h j hj s hs ho)
theorem DoneW.step {bs : List Bl} {ob : Nat} {l : List Int} {i : Nat} (h : DoneW bs ob l i) (hs : ∀ s, s ∈ (bs.getD (l.getD i 0).toNat bl0).succs → s ≠ (ob : Int) → s ∈ l) : DoneW bs ob l (i + 1) := fun j hj s hs2 ho => by
  by_cases e : j = i
  · subst e; exact hs s hs2 ho
  · exact h j (by omega) s hs2 ho
def SndW (bs : List Bl) (ob : Nat) (l : List Int) : Prop := ∀ x, x ∈ l → ∃ b : Nat, x = b ∧ Dm.Wy (EB bs) (fun y => y ≠ ob) 0 b
theorem SndW.one {bs : List Bl} {ob : Nat} (ho : 0 < ob) : SndW bs ob [0] := fun x hx => by
  rw [List.mem_singleton.1 hx]
  exact ⟨0, rfl, .refl (by omega)⟩
theorem SndW.add {bs : List Bl} {ob : Nat} {l : List Int} (h : SndW bs ob l) {x y : Nat} (hx : (x : Int) ∈ l) (he : EB bs x y) (hy : y ≠ ob) : SndW bs ob (l ++ [(y : Int)]) := fun z hz => by
  rcases List.mem_append.1 hz with hz | hz
  · exact h z hz
  · rw [List.mem_singleton.1 hz]
    obtain ⟨b, e, hw⟩ := h _ hx
    have : b = x := by omega
    subst this
    exact ⟨y, rfl, .step hw he hy⟩
theorem DoneW.all {bs : List Bl} {L : Nat → Bool} {ob : Nat} {l : List Int} (h : Bf bs L l) (hd : DoneW bs ob l l.length) (h0 : (0 : Int) ∈ l) (hs : SndW bs ob l) {b : Nat} (hb : b < bs.length) : L b = true ↔ Dm.Wy (EB bs) (fun y => y ≠ ob) 0 b := by
  rw [h.sn b hb]
  constructor
  · intro hm
    obtain ⟨c, e, hw⟩ := hs _ hm
    have : c = b := by omega
    subst this
    exact hw
  · intro hw
    have h9 : ∀ u v, Dm.Wy (EB bs) (fun y => y ≠ ob) u v → u = 0 → (v : Int) ∈ l := by
      intro u v hw
      induction hw with
      | refl _ => rintro rfl; exact h0
      | step hw he hx ih =>
        intro e
        obtain ⟨j, hj, e2⟩ := List.mem_iff_getElem.1 (ih e)
        refine hd j hj _ ?_ (by omega)
        rw [List.getD_eq_getElem?_getD (l := l), List.getElem?_eq_getElem hj, Option.getD_some, e2, Int.toNat_natCast]
        exact he.2.2
    exact h9 0 b hw rfl
end Sa
theorem flReachedX {NN : Nat} {bs : List Sa.Bl} {w : World} {v1 v2 v3 : Value} {a : Option Addr} {k : Nat} (hN : NN ≤ w.heap.size) (h : BlL (· < NN) w a k bs) (hsd : Sa.Leads bs) (hble : bs.length ≤ 4096) (hp : 0 < bs.length) {ob : Nat} (hob : 0 < ob) : Calls Try.prog 12 #[.agg #[v1, v2, v3, .slice a bs.length k], .int .i64 (ob : Int)] w fun r w' => ∃ T L, r = .returned (.slice (some ⟨T, 0, none⟩) bs.length bs.length) ∧ OwnF w' w.heap.size (.slice (some ⟨T, 0, none⟩) bs.length bs.length) bs.length L ∧ (∀ b, b < bs.length → (L b = true ↔ Dm.Wy (Sa.EB bs) (fun y => y ≠ ob) 0 b)) ∧ w.grownBy w' none := by
  obtain ⟨N, hNe⟩ : ∃ N, N = w.heap.size := ⟨_, rfl⟩
  have HN : Hid (N = w.heap.size) := hNe
  have HBL : Hid (∀ W, Below N w W → BlL (· < N) W a k bs) := fun W g => BlL.below (by rw [hNe]; exact h.wide hN) g
  obtain ⟨n, hn⟩ : ∃ n, n = bs.length := ⟨_, rfl⟩
  have HNn : Hid (n = bs.length) := hn
  obtain ⟨w1, hw1⟩ : ∃ w1, w1 = w.alloc (Obj.cells #[v1, v2, v3, .slice a n k] 28) := ⟨_, rfl⟩
  have hg1 : w.grownBy w1 none := by rw [hw1]; exact World.grownBy_alloc _ _ _
  have hk1 : Bk w1 N 28 [v1, v2, v3, .slice a n k] := by rw [hw1, hNe]; exact Bk.new _ _ _
  obtain ⟨w2, hmk, ho2, hg2⟩ := run_make_f w1 n (by omega)
  have HK2 : Hid (Bk w2 N 28 [v1, v2, v3, .slice a n k]) := hk1.grow hg2
  have HO2 : Hid (OwnF w2 N (.slice (some ⟨w1.heap.size, 0, none⟩) n n) n (fun _ => false)) := World.ownsRow.mono ho2 (by rw [hNe]; exact hg1.size)
  have HG2 : Hid (w.grownBy w2 none) := grown_trans hg1 hg2
  have x3 := hk1.cell (i := 3) rfl
  obtain ⟨TB, hTB⟩ : ∃ TB, TB = w1.heap.size := ⟨_, rfl⟩
  rw [← hTB] at hmk HO2
  have f2 := HO2.out.frozen 0
  have c2 := HO2.out.cell (i := 0) (by rw [hn]; exact hp)
  have hpn : (0 : Int) < (n : Int) := by omega
  rw [hw1, hNe] at x3
  rw [hw1] at hmk
  rw [← hn]
  have HPQ : Hid (0 < n) := by show 0 < n; rw [hn]; exact hp
  have hble' : n ≤ 4096 := by rw [hn]; exact hble
  have hob0 : ¬ (ob : Int) = 0 := by omega
  have hob1 : ((ob : Int) == 0) = false := by simpa using hob0
  have HObb : Hid (0 < ob) := hob
  clear h hN hTB hw1 hg1 hk1 ho2 hg2 hn hNe hble hp
  go_enter Try.func12, Try.ntmps12
  go_wp2_with fail
  obtain ⟨W3, hW3⟩ : ∃ W3, W3 = w2.setCell ⟨TB, 0, none⟩ (.bool true) := ⟨_, rfl⟩
  have hC3 : Ch w2 W3 [TB] := by rw [hW3]; exact Ch.one (grown_set _ _ _ _) (by simp)
  have hTl : N ≤ TB := (World.ownsRow.lt HO2.out TB rfl).1
  have hTN : N ≠ TB := by
    intro e
    have h1 := HK2.out
    rcases HO2.out.2 with ⟨e1, _⟩ | ⟨g, c, cur, e1, _, e2, _⟩
    · cases e1
    · injection e1 with e3
      injection e3 with e3
      injection e3 with e3
      unfold Bk at h1
      rw [e, e3, e2] at h1
      simp at h1
  have hK3 : Bk W3 N 28 [v1, v2, v3, .slice a n k] := HK2.out.ch hC3 (by simp; exact hTN)
  have hO3 : OwnF W3 N (.slice (some ⟨TB, 0, none⟩) n n) n (fun k => if k = 0 then true else false) := by rw [hW3]; exact HO2.out.set HPQ.out true
  have hz3 : OwnZ (W3.alloc (.cells #[.int .i64 (0 : Int)] 3)) N (.slice (some ⟨W3.heap.size, 0, none⟩) 1 1) [(0 : Int)] := ⟨rfl, .inr ⟨W3.heap.size, 1, #[.int .i64 (0 : Int)], rfl, by have := hC3.size; have := HG2.out.size; have := HN.out; omega, by show (W3.heap.push _)[W3.heap.size]? = _; simp, Nat.le_refl _, by unfold maxLen; omega, rfl, rfl⟩⟩
  have hB3 : Below N w (W3.alloc (.cells #[.int .i64 (0 : Int)] 3)) := ((show Below N w w2 from (Ch.of (l := []) HG2.out).below (by rw [HN.out]; exact Nat.le_refl _) (by simp)).trans (hC3.below (by have := HG2.out.size; have := HN.out; omega) (by simp; exact hTl))).trans ((Ch.of (l := []) (World.grownBy_alloc _ _ _)).below (by have := hC3.size; have := HG2.out.size; have := HN.out; omega) (by simp))
  have HSt : Hid (OwnF (W3.alloc (.cells #[.int .i64 (0 : Int)] 3)) N (.slice (some ⟨TB, 0, none⟩) n n) n (fun k => if k = 0 then true else false) ∧ OwnZ (W3.alloc (.cells #[.int .i64 (0 : Int)] 3)) N (.slice (some ⟨W3.heap.size, 0, none⟩) 1 1) [(0 : Int)] ∧ Bk (W3.alloc (.cells #[.int .i64 (0 : Int)] 3)) N 28 [v1, v2, v3, .slice a n k] ∧ Below N w (W3.alloc (.cells #[.int .i64 (0 : Int)] 3))) := ⟨hO3.grow (World.grownBy_alloc _ _ _), hz3, hK3.grow (World.grownBy_alloc _ _ _), hB3⟩
  have HBf : Hid (Sa.Bf bs (fun k => if k = 0 then true else false) [(0 : Int)]) := Sa.Bf.one (q := 0) (by rw [← HNn.out]; exact HPQ.out)
  have HTl : Hid (N ≤ TB) := hTl
  rw [hW3, show (w2.setCell ⟨TB, 0, none⟩ (.bool true)).heap.size = w2.heap.size by simp] at HSt
  clear hW3 hC3 hTN hK3 hO3 hz3 hB3 HK2 HO2 hmk x3 f2 c2 hTl
  go_loopw [6, 7] (fun lv iv wr => ∃ (i : Nat) (L : Nat → Bool) (l : List Int), iv = .int .i64 i ∧ i ≤ l.length ∧ Sa.Bf bs L l ∧ Sa.DoneW bs ob l i ∧ (0 : Int) ∈ l ∧ Sa.SndW bs ob l ∧ OwnF wr N (.slice (some ⟨TB, 0, none⟩) n n) n L ∧ OwnZ wr N lv l ∧ Bk wr N 28 [v1, v2, v3, .slice a n k] ∧ Below N w wr) (fun _ iv _ => n - (intOf iv).toNat)
  case atStart => exact ⟨0, _, _, rfl, Nat.zero_le _, HBf.out, Sa.DoneW.zero _ _ _, by simp, Sa.SndW.one HObb.out, HSt.out.1, HSt.out.2.1, HSt.out.2.2.1, HSt.out.2.2.2⟩
  case round =>
    obtain ⟨i, L, l, rfl, hi, hbf, hdn, hpl, hsd2, hof, hoz, hbk, hbl⟩ := hrel
    have HBf2 : Hid (Sa.Bf bs L l) := hbf
    have HDn : Hid (Sa.DoneW bs ob l i) := hdn
    have HPl : Hid ((0 : Int) ∈ l) := hpl
    have HSd : Hid (Sa.SndW bs ob l) := hsd2
    have HOf : Hid (OwnF wr N (.slice (some ⟨TB, 0, none⟩) n n) n L) := hof
    have HOz : Hid (OwnZ wr N u6 l) := hoz
    have HBk : Hid (Bk wr N 28 [v1, v2, v3, .slice a n k]) := hbk
    have HBl : Hid (Below N w wr) := hbl
    obtain ⟨la, lc, hu6, hl1, hl2, hl3⟩ := hoz.slice
    obtain ⟨m, hm⟩ : ∃ m, m = l.length := ⟨_, rfl⟩
    have HM : Hid (m = l.length) := hm
    rw [← hm] at hu6 hi hl1 hl3
    subst hu6
    have hmn : m ≤ n := by rw [hm, HNn.out]; exact hbf.le
    have HTW : Hid (TB ≠ N) := fun e => by
      have h1 := hbk
      rcases hof.2 with ⟨e1, _⟩ | ⟨g, c, cur, e1, _, e2, _⟩
      · cases e1
      · injection e1 with e3
        injection e3 with e3
        injection e3 with e3
        unfold Bk at h1
        rw [← e, e3, e2] at h1
        simp at h1
    clear hm hbf hdn hpl hsd2 hof hoz hbk hbl HSt HBf
    rw [← HN.out]
    by_cases him : i < m
    case neg =>
      obtain rfl : i = m := by omega
      have c9 : ¬ (i : Int) < (i : Int) := by omega
      have HAl : Hid (∀ b, b < bs.length → (L b = true ↔ Dm.Wy (Sa.EB bs) (fun y => y ≠ ob) 0 b)) := fun b hb => Sa.DoneW.all HBf2.out (by have := HDn.out; rw [HM.out] at this; exact this) HPl.out HSd.out hb
      have HBn : Hid (w.grownBy wr none) := belowNone (by have := HBl.out; rw [HN.out] at this; exact this)
      have HO9 : Hid (OwnF wr w.heap.size (.slice (some ⟨TB, 0, none⟩) n n) n L) := by have := HOf.out; rw [HN.out] at this; exact this
      go_wp2_with fail
      refine bodyPost_ret (by simp [results, Try.results12, go_sem]; try rfl) rfl ?_
      exact ⟨TB, rfl, L, HO9.out, fun b hb => HAl.out b (by rw [← HNn.out]; exact hb), HBn.out⟩
    have himI : (i : Int) < (m : Int) := by omega
    obtain ⟨LB, rfl, hLB1, hLB2⟩ := hl3 (by omega)
    have hci : wr.cell? ⟨LB, i, none⟩ = some (.int .i64 (l.getD i 0)) := (show OwnN wr N (.slice (some ⟨LB, 0, none⟩) m lc) m (fun i => l.getD i 0) by have h9 := HOz.out.n; rw [← HM.out] at h9; exact h9).cell (i := i) him
    have hil : i < l.length := by rw [← HM.out]; exact him
    obtain ⟨x0, x1⟩ := HBf2.out.rg (l.getD i 0) (by
      rw [List.getD_eq_getElem?_getD, List.getElem?_eq_getElem hil]
      exact List.getElem_mem hil)
    obtain ⟨x, hx⟩ : ∃ x : Nat, l.getD i 0 = (x : Int) := ⟨(l.getD i 0).toNat, by omega⟩
    have hxn : (x : Int) < (n : Int) := by rw [HNn.out]; omega
    have HX : Hid (l.getD i 0 = (x : Int)) := hx
    rw [hx] at hci
    have hxb : x < bs.length := by omega
    obtain ⟨bb, bo, b1, b2, b3, b4, m1, m2, m3, m4, hba, hbb, hbl⟩ := (HBL.out wr HBl.out).num hxb
    obtain ⟨cs, hcs⟩ : ∃ cs, cs = (bs.getD x Sa.bl0).succs := ⟨_, rfl⟩
    have HCs : Hid (cs = (bs.getD x Sa.bl0).succs) := hcs
    have hSu : ∀ y, y ∈ cs → 0 ≤ y ∧ y < (bs.length : Int) := by rw [hcs]; exact hsd x hxb
    have HSu : Hid (∀ y, y ∈ cs → 0 ≤ y ∧ y < (bs.length : Int)) := hSu
    have cS := hbl.c4
    have hSl := hbl.succs
    rw [← hcs] at cS hSl
    have hsle := hSl.le
    have hsmx := hSl.max
    unfold maxLen at hsmx hl2
    have HSn : Hid (∀ W, Below N wr W → NumL (· < N) W b3 m3 cs) := fun W g => NumL.ch hSl (Ch.ofBelow g) (fun q hq hm => by have := (List.mem_range'_1.1 hm).1; omega) (fun _ h => h)
    have z3 := HBk.out.cell (i := 3) rfl
    rw [hba] at z3
    clear hbl hcs hSl hSu x0 x1 hx hil
    go_wp2_with fail
    go_quiet (fail)
    have hgd : wr.grownBy (wr.drewN nq) none := grown_drewN (World.grownBy.refl _ none) nq
    obtain ⟨w4, hw4⟩ : ∃ w4, w4 = wr.drewN nq := ⟨_, rfl⟩
    rw [← hw4] at hgd ⊢
    have hNr : N ≤ wr.heap.size := by have := HTl.out; have := (World.ownsRow.lt HOf.out TB rfl).2; omega
    have HB4 : Hid (Below N wr w4) := (Ch.of (l := []) hgd).below hNr (by simp)
    have HSt4 : Hid (OwnF w4 N (.slice (some ⟨TB, 0, none⟩) n n) n L ∧ OwnZ w4 N (.slice (some ⟨LB, 0, none⟩) m lc) l ∧ Bk w4 N 28 [v1, v2, v3, .slice a n k]) := ⟨HOf.out.grow hgd, HOz.out.grow hgd, HBk.out.grow hgd⟩
    clear hgd hw4 z3 hci cS hba HOf HOz HBk
    go_wp2_with fail
    obtain ⟨wo, hwo⟩ : ∃ wo, wo = wr := ⟨_, rfl⟩
    rw [← hwo] at HB4 HSn HBl hNr
    clear hwo
    go_loopw [6, 9] (fun lv kv wq => ∃ (j : Nat) (L2 : Nat → Bool) (l2 : List Int), kv = .int .i64 j ∧ j ≤ cs.length ∧ i < l2.length ∧ l2.getD i 0 = (x : Int) ∧ (∀ e, e < j → cs.getD e 0 ≠ (ob : Int) → cs.getD e 0 ∈ l2) ∧ Sa.Bf bs L2 l2 ∧ Sa.DoneW bs ob l2 i ∧ (0 : Int) ∈ l2 ∧ Sa.SndW bs ob l2 ∧ OwnF wq N (.slice (some ⟨TB, 0, none⟩) n n) n L2 ∧ OwnZ wq N lv l2 ∧ Bk wq N 28 [v1, v2, v3, .slice a n k] ∧ Below N wo wq) (fun _ kv _ => cs.length - (intOf kv).toNat)
    case atStart => exact ⟨0, L, l, rfl, Nat.zero_le _, by rw [← HM.out]; exact him, HX.out, fun e he _ => by omega, HBf2.out, HDn.out, HPl.out, HSd.out, HSt4.out.1, HSt4.out.2.1, HSt4.out.2.2, HB4.out⟩
    case round =>
      obtain ⟨j, L2, l2, rfl, hj, hil, hxl, hsn, hbf, hdn, hpl, hsd2, hof, hoz, hbk, hbl⟩ := hrel
      clear HBf2 HDn HPl HSd HSt4 HB4
      have HIl : Hid (i < l2.length ∧ l2.getD i 0 = (x : Int)) := ⟨hil, hxl⟩
      have HSn2 : Hid (∀ e, e < j → cs.getD e 0 ≠ (ob : Int) → cs.getD e 0 ∈ l2) := hsn
      have HBf3 : Hid (Sa.Bf bs L2 l2) := hbf
      have HDn3 : Hid (Sa.DoneW bs ob l2 i) := hdn
      have HPl3 : Hid ((0 : Int) ∈ l2) := hpl
      have HSd3 : Hid (Sa.SndW bs ob l2) := hsd2
      have HOf3 : Hid (OwnF wr N (.slice (some ⟨TB, 0, none⟩) n n) n L2) := hof
      have HOz3 : Hid (OwnZ wr N u6 l2) := hoz
      have HBk3 : Hid (Bk wr N 28 [v1, v2, v3, .slice a n k]) := hbk
      have HB3 : Hid (Below N wo wr) := hbl
      obtain ⟨la2, lc2, hu6, hk1, hk2, hk3⟩ := hoz.slice
      obtain ⟨m2, hm2⟩ : ∃ m2, m2 = l2.length := ⟨_, rfl⟩
      have HM2 : Hid (m2 = l2.length) := hm2
      rw [← hm2] at hu6
      subst hu6
      have hm2n : l2.length ≤ n := by rw [HNn.out]; exact hbf.le
      have hNq : N ≤ wr.heap.size := by have := HTl.out; have := (World.ownsRow.lt hof TB rfl).2; omega
      clear hm2 hbf hdn hpl hsd2 hof hoz hbk hbl hil hxl hsn hk1 hk2 hk3
      by_cases hjc : j < cs.length
      case neg =>
        obtain rfl : j = cs.length := by omega
        have c9 : ¬ (cs.length : Int) < (cs.length : Int) := by omega
        have hall : ∀ y, y ∈ (bs.getD (l2.getD i 0).toNat Sa.bl0).succs → y ≠ (ob : Int) → y ∈ l2 := fun y hy hyo => by
          rw [HIl.out.2, Int.toNat_natCast, ← HCs.out] at hy
          obtain ⟨e, he, e2⟩ := List.mem_iff_getElem.1 hy
          have := HSn2.out e he
          rw [List.getD_eq_getElem?_getD, List.getElem?_eq_getElem he, Option.getD_some, e2] at this
          exact this hyo
        have HDn4 : Hid (Sa.DoneW bs ob l2 (i + 1)) := HDn3.out.step hall
        clear hall
        go_wp2_with fail
        go_roundw
        case rel => exact ⟨i + 1, L2, l2, by go_num, by have := HIl.out.1; omega, HBf3.out, HDn4.out, HPl3.out, HSd3.out, HOf3.out, HOz3.out, HBk3.out, HBl.out.trans HB3.out⟩
        case measure => simp [intOf]; omega
      have hjcI : (j : Int) < (cs.length : Int) := by omega
      obtain ⟨za, zo, rfl, hzN, hz⟩ := (HSn.out wr HB3.out).at hjc
      unfold NumQ at hz
      rw [Nat.mul_one] at hz
      obtain ⟨y0, y1⟩ := HSu.out _ (List.getElem_mem hjc)
      obtain ⟨y, hy⟩ : ∃ y : Nat, cs[j] = (y : Int) := ⟨(cs[j]).toNat, by omega⟩
      have hyb : y < bs.length := by omega
      have hyn : (y : Int) < (n : Int) := by rw [HNn.out]; omega
      have hyN : y < n := by rw [HNn.out]; exact hyb
      have HY : Hid (cs.getD j 0 = (y : Int)) := by show cs.getD j 0 = _; rw [List.getD_eq_getElem?_getD, List.getElem?_eq_getElem hjc, Option.getD_some, hy]
      rw [hy] at hz
      by_cases hyo : y = ob
      · have yb : ((y : Int) != (ob : Int)) = false := by simp [hyo]
        have HSn4 : Hid (∀ e, e < j + 1 → cs.getD e 0 ≠ (ob : Int) → cs.getD e 0 ∈ l2) := fun e he heo => by
          by_cases h9 : e = j
          · subst h9; exact absurd (by rw [HY.out, hyo]) heo
          · exact HSn2.out e (by omega) heo
        have HYo : Hid (y = ob) := hyo
        clear hyo hy y0 y1
        go_wp2_with fail
        go_roundw
        case rel => exact ⟨j + 1, L2, l2, by go_num, by omega, HIl.out.1, HIl.out.2, HSn4.out, HBf3.out, HDn3.out, HPl3.out, HSd3.out, HOf3.out, HOz3.out, HBk3.out, HB3.out⟩
        case measure => simp [intOf]; omega
      have ym : ¬ (y : Int) = (ob : Int) := by omega
      have ymb : ((y : Int) != (ob : Int)) = true := by simpa using ym
      have HYo : Hid (y ≠ ob) := hyo
      have hyo2 : ¬ y = ob := hyo
      have cL := HOf3.out.cell hyN
      have fL := HOf3.out.frozen y
      clear hy y0 y1
      cases e1 : L2 y with
      | true =>
        rw [e1] at cL
        have hyl : (y : Int) ∈ l2 := (HBf3.out.sn y hyb).1 e1
        have HSn4 : Hid (∀ e, e < j + 1 → cs.getD e 0 ≠ (ob : Int) → cs.getD e 0 ∈ l2) := fun e he heo => by
          by_cases h9 : e = j
          · subst h9; rw [HY.out]; exact hyl
          · exact HSn2.out e (by omega) heo
        clear e1 hyl
        go_wp2_with fail
        go_roundw
        case rel => exact ⟨j + 1, L2, l2, by go_num, by omega, HIl.out.1, HIl.out.2, HSn4.out, HBf3.out, HDn3.out, HPl3.out, HSd3.out, HOf3.out, HOz3.out, HBk3.out, HB3.out⟩
        case measure => simp [intOf]; omega
      | false =>
        rw [e1] at cL
        have HBf4 : Hid (Sa.Bf bs (fun k => if k = y then true else L2 k) (l2 ++ [(y : Int)])) := HBf3.out.add hyb e1
        have HSn4 : Hid (∀ e, e < j + 1 → cs.getD e 0 ≠ (ob : Int) → cs.getD e 0 ∈ l2 ++ [(y : Int)]) := fun e he heo => by
          by_cases h9 : e = j
          · subst h9; rw [HY.out]; simp
          · exact List.mem_append_left _ (HSn2.out e (by omega) heo)
        have HDn4 : Hid (Sa.DoneW bs ob (l2 ++ [(y : Int)]) i) := HDn3.out.more (Nat.le_of_lt HIl.out.1)
        have HIl4 : Hid (i < (l2 ++ [(y : Int)]).length ∧ (l2 ++ [(y : Int)]).getD i 0 = (x : Int)) := ⟨by rw [List.length_append]; have := HIl.out.1; omega, by
          have := HIl.out
          rw [← this.2]
          simp only [List.getD_eq_getElem?_getD]
          rw [List.getElem?_append_left this.1]⟩
        have HPl4 : Hid ((0 : Int) ∈ l2 ++ [(y : Int)]) := List.mem_append_left _ HPl3.out
        have HSd4 : Hid (Sa.SndW bs ob (l2 ++ [(y : Int)])) := HSd3.out.add (x := x) (by
          rw [← HIl.out.2, List.getD_eq_getElem?_getD, List.getElem?_eq_getElem HIl.out.1, Option.getD_some]
          exact List.getElem_mem _) ⟨hxb, hyb, by
          rw [← HCs.out, ← HY.out, List.getD_eq_getElem?_getD, List.getElem?_eq_getElem hjc, Option.getD_some]
          exact List.getElem_mem _⟩ HYo.out
        obtain ⟨W7, hW7⟩ : ∃ W7, W7 = wr.setCell ⟨TB, y, none⟩ (.bool true) := ⟨_, rfl⟩
        have hC7 : Ch wr W7 [TB] := by rw [hW7]; exact Ch.one (grown_set _ _ _ _) (by simp)
        have HOf7 : Hid (OwnF W7 N (.slice (some ⟨TB, 0, none⟩) n n) n (fun k => if k = y then true else L2 k)) := by rw [hW7]; exact HOf3.out.set hyN true
        have hap := apartFZ HOf3.out HOz3.out
        have HAp : Hid (∀ q, (Value.slice la2 m2 lc2).ownBlock = some q → q ≠ TB) := fun q hq e => by
          rcases hap with h9 | h9
          · rw [h9] at hq; cases hq
          · exact h9 (by rw [hq, e]; rfl)
        have HOz7 : Hid (OwnZ W7 N (.slice la2 m2 lc2) l2) := HOz3.out.ch hC7 (fun q hq => by have := HAp.out q hq; simpa using this)
        have HBk7 : Hid (Bk W7 N 28 [v1, v2, v3, .slice a n k]) := HBk3.out.ch hC7 (by simp; exact fun e => HTW e.symm)
        have HB7 : Hid (Below N wr W7) := hC7.below hNq (by simp; exact HTl.out)
        have HSz7 : Hid (N ≤ W7.heap.size ∧ W7.heap.size = wr.heap.size) := ⟨Nat.le_trans hNq hC7.size, by rw [hW7]; simp⟩
        have hml : l2.length ≤ 2000000 := by omega
        have z7 := hC7.cell hz (by simp; have := HTl.out; omega)
        rw [hW7] at z7
        clear e1 hap hC7
        go_wp2_with (at_builtin; rw [← hW7]; refine wp_appZ1 rfl (.tmp 63) (.tmp 68) rfl N (.slice la2 m2 lc2) l2 y rfl HOz7.out rfl HSz7.out.2.symm hml HSz7.out.1 ?_; intro v9 w9 ho9 hg9 hb9; have hC9 : Ch W7 w9 (Value.slice la2 m2 lc2).ownBlock.toList := grown_ch hg9 (by intro q hq; simp [hq]); have HOz9 : Hid (OwnZ w9 N v9 (l2 ++ [(y : Int)])) := ho9; have HOf9 : Hid (OwnF w9 N (.slice (some ⟨TB, 0, none⟩) n n) n (fun k => if k = y then true else L2 k)) := ownsRow_ch HOf7.out hC9 (by intro q hq hm; rw [Option.mem_toList] at hm; injection hq with hq; subst hq; exact HAp.out _ hm rfl); have HBk9 : Hid (Bk w9 N 28 [v1, v2, v3, .slice a n k]) := HBk7.out.ch hC9 (by intro hm; rw [Option.mem_toList] at hm; exact ownZ_neC HOz7.out HBk7.out hm); have HB9 : Hid (Below N W7 w9) := hC9.below HSz7.out.1 (by intro q hq; rw [Option.mem_toList] at hq; exact HOz7.out.base q hq); clear ho9 hg9 hb9 hC9)
        go_roundw
        case rel => exact ⟨j + 1, _, l2 ++ [(y : Int)], by go_num, by omega, HIl4.out.1, HIl4.out.2, HSn4.out, HBf4.out, HDn4.out, HPl4.out, HSd4.out, HOf9.out, HOz9.out, HBk9.out, (HB3.out.trans HB7.out).trans HB9.out⟩
        case measure => simp [intOf]; omega
theorem flReached0 {n : Nat} {w : World} {v1 v2 v3 : Value} {a : Option Addr} {k : Nat} (hn : n ≤ 4096) : Calls Try.prog 12 #[.agg #[v1, v2, v3, .slice a n k], .int .i64 0] w fun r w' => ∃ T, r = .returned (.slice (some ⟨T, 0, none⟩) n n) ∧ OwnF w' w.heap.size (.slice (some ⟨T, 0, none⟩) n n) n (fun _ => false) ∧ w.grownBy w' none := by
  obtain ⟨w1, hw1⟩ : ∃ w1, w1 = w.alloc (Obj.cells #[v1, v2, v3, .slice a n k] 28) := ⟨_, rfl⟩
  have hg1 : w.grownBy w1 none := by rw [hw1]; exact World.grownBy_alloc _ _ _
  have hk1 : Bk w1 w.heap.size 28 [v1, v2, v3, .slice a n k] := by rw [hw1]; exact Bk.new _ _ _
  obtain ⟨w2, hmk, ho2, hg2⟩ := run_make_f w1 n (by omega)
  have HO2 : Hid (OwnF w2 w.heap.size (.slice (some ⟨w1.heap.size, 0, none⟩) n n) n (fun _ => false)) := World.ownsRow.mono ho2 hg1.size
  have HG2 : Hid (w.grownBy w2 none) := grown_trans hg1 hg2
  have x3 := hk1.cell (i := 3) rfl
  obtain ⟨TB, hTB⟩ : ∃ TB, TB = w1.heap.size := ⟨_, rfl⟩
  rw [← hTB] at hmk HO2
  rw [hw1] at hmk x3
  clear hTB hw1 hg1 hk1 ho2 hg2
  go_enter Try.func12, Try.ntmps12
  go_wp2_with fail
  refine bodyPost_ret (by simp [results, Try.results12, go_sem]; try rfl) rfl ?_
  exact ⟨TB, rfl, HO2.out, HG2.out⟩
end Go.Proofs.Ytbpdggdpgohilaa
