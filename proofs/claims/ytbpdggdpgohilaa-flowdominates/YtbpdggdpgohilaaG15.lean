/- Contracts and plain facts that the walks share. -/
import Derived.Test.YtbpdggdpgohilaaG14
import Derived.Test.YtbpdggdpgohilaaG13
namespace Go.Proofs.Ytbpdggdpgohilaa
open Go.RowKit
set_option linter.unusedVariables false
set_option maxRecDepth 100000
set_option maxHeartbeats 8000000
theorem flReached_any {NN : Nat} {bs : List Sa.Bl} {w : World} {v1 v2 v3 : Value} {a : Option Addr} {k : Nat} (hN : NN ≤ w.heap.size) (h : BlL (· < NN) w a k bs) (hsd : Sa.Leads bs) (hble : bs.length ≤ 4096) (hp : 0 < bs.length) : Calls Try.prog 12 #[.agg #[v1, v2, v3, .slice a bs.length k], .int .i64 (-1)] w fun r w' => ∃ T L, r = .returned (.slice (some ⟨T, 0, none⟩) bs.length bs.length) ∧ OwnF w' w.heap.size (.slice (some ⟨T, 0, none⟩) bs.length bs.length) bs.length L ∧ w.grownBy w' none := by
  obtain ⟨N, hNe⟩ : ∃ N, N = w.heap.size := ⟨_, rfl⟩
  have HN : Hid (N = w.heap.size) := hNe
  have HBL : Hid (∀ W, Below N w W → BlL (· < N) W a k bs) := fun W g => BlL.below (by rw [hNe]; exact h.wide hN) g
  obtain ⟨n, hn⟩ : ∃ n, n = bs.length := ⟨_, rfl⟩
  have HNn : Hid (n = bs.length) := hn
  obtain ⟨w1, hw1⟩ : ∃ w1, w1 = w.alloc (Obj.cells #[v1, v2, v3, .slice a n k] 28) := ⟨_, rfl⟩
  have hg1 : w.grownBy w1 none := by rw [hw1]; exact World.grownBy_alloc _ _ _
  have hk1 : Bk w1 N 28 [v1, v2, v3, .slice a n k] := by rw [hw1, hNe]; exact Bk.new _ _ _
  obtain ⟨w2, hmk, ho2, hg2⟩ := run_make_f w1 n (by omega)
  have HK2 : Hid (Bk w2 N 28 [v1, v2, v3, .slice a n k]) := hk1.grow hg2
  have HO2 : Hid (OwnF w2 N (.slice (some ⟨w1.heap.size, 0, none⟩) n n) n (fun _ => false)) := World.ownsRow.mono ho2 (by rw [hNe]; exact hg1.size)
  have HG2 : Hid (w.grownBy w2 none) := grown_trans hg1 hg2
  have x3 := hk1.cell (i := 3) rfl
  obtain ⟨TB, hTB⟩ : ∃ TB, TB = w1.heap.size := ⟨_, rfl⟩
  rw [← hTB] at hmk HO2
  have f2 := HO2.out.frozen 0
  have c2 := HO2.out.cell (i := 0) (by rw [hn]; exact hp)
  have hpn : (0 : Int) < (n : Int) := by omega
  rw [hw1, hNe] at x3
  rw [hw1] at hmk
  rw [← hn]
  have HPQ : Hid (0 < n) := by show 0 < n; rw [hn]; exact hp
  have hble' : n ≤ 4096 := by rw [hn]; exact hble
  clear h hN hTB hw1 hg1 hk1 ho2 hg2 hn hNe hble hp
  go_enter Try.func12, Try.ntmps12
  go_wp2_with fail
  obtain ⟨W3, hW3⟩ : ∃ W3, W3 = w2.setCell ⟨TB, 0, none⟩ (.bool true) := ⟨_, rfl⟩
  have hC3 : Ch w2 W3 [TB] := by rw [hW3]; exact Ch.one (grown_set _ _ _ _) (by simp)
  have hTl : N ≤ TB := (World.ownsRow.lt HO2.out TB rfl).1
  have hTN : N ≠ TB := by
    intro e
    have h1 := HK2.out
    rcases HO2.out.2 with ⟨e1, _⟩ | ⟨g, c, cur, e1, _, e2, _⟩
    · cases e1
    · injection e1 with e3
      injection e3 with e3
      injection e3 with e3
      unfold Bk at h1
      rw [e, e3, e2] at h1
      simp at h1
  have hK3 : Bk W3 N 28 [v1, v2, v3, .slice a n k] := HK2.out.ch hC3 (by simp; exact hTN)
  have hO3 : OwnF W3 N (.slice (some ⟨TB, 0, none⟩) n n) n (fun k => if k = 0 then true else false) := by rw [hW3]; exact HO2.out.set HPQ.out true
  have hz3 : OwnZ (W3.alloc (.cells #[.int .i64 (0 : Int)] 3)) N (.slice (some ⟨W3.heap.size, 0, none⟩) 1 1) [(0 : Int)] := ⟨rfl, .inr ⟨W3.heap.size, 1, #[.int .i64 (0 : Int)], rfl, by have := hC3.size; have := HG2.out.size; have := HN.out; omega, by show (W3.heap.push _)[W3.heap.size]? = _; simp, Nat.le_refl _, by unfold maxLen; omega, rfl, rfl⟩⟩
  have hB3 : Below N w (W3.alloc (.cells #[.int .i64 (0 : Int)] 3)) := ((show Below N w w2 from (Ch.of (l := []) HG2.out).below (by rw [HN.out]; exact Nat.le_refl _) (by simp)).trans (hC3.below (by have := HG2.out.size; have := HN.out; omega) (by simp; exact hTl))).trans ((Ch.of (l := []) (World.grownBy_alloc _ _ _)).below (by have := hC3.size; have := HG2.out.size; have := HN.out; omega) (by simp))
  have HSt : Hid (OwnF (W3.alloc (.cells #[.int .i64 (0 : Int)] 3)) N (.slice (some ⟨TB, 0, none⟩) n n) n (fun k => if k = 0 then true else false) ∧ OwnZ (W3.alloc (.cells #[.int .i64 (0 : Int)] 3)) N (.slice (some ⟨W3.heap.size, 0, none⟩) 1 1) [(0 : Int)] ∧ Bk (W3.alloc (.cells #[.int .i64 (0 : Int)] 3)) N 28 [v1, v2, v3, .slice a n k] ∧ Below N w (W3.alloc (.cells #[.int .i64 (0 : Int)] 3))) := ⟨hO3.grow (World.grownBy_alloc _ _ _), hz3, hK3.grow (World.grownBy_alloc _ _ _), hB3⟩
  have HBf : Hid (Sa.Bf bs (fun k => if k = 0 then true else false) [(0 : Int)]) := Sa.Bf.one (q := 0) (by rw [← HNn.out]; exact HPQ.out)
  have HTl : Hid (N ≤ TB) := hTl
  rw [hW3, show (w2.setCell ⟨TB, 0, none⟩ (.bool true)).heap.size = w2.heap.size by simp] at HSt
  clear hW3 hC3 hTN hK3 hO3 hz3 hB3 HK2 HO2 hmk x3 f2 c2 hTl
  go_loopw [6, 7] (fun lv iv wr => ∃ (i : Nat) (L : Nat → Bool) (l : List Int), iv = .int .i64 i ∧ i ≤ l.length ∧ Sa.Bf bs L l ∧ Sa.Done bs l i ∧ (0 : Int) ∈ l ∧ OwnF wr N (.slice (some ⟨TB, 0, none⟩) n n) n L ∧ OwnZ wr N lv l ∧ Bk wr N 28 [v1, v2, v3, .slice a n k] ∧ Below N w wr) (fun _ iv _ => n - (intOf iv).toNat)
  case atStart => exact ⟨0, _, _, rfl, Nat.zero_le _, HBf.out, Sa.Done.zero _ _, by simp, HSt.out.1, HSt.out.2.1, HSt.out.2.2.1, HSt.out.2.2.2⟩
  case round =>
    obtain ⟨i, L, l, rfl, hi, hbf, hdn, hpl, hof, hoz, hbk, hbl⟩ := hrel
    have HBf2 : Hid (Sa.Bf bs L l) := hbf
    have HDn : Hid (Sa.Done bs l i) := hdn
    have HPl : Hid ((0 : Int) ∈ l) := hpl
    have HOf : Hid (OwnF wr N (.slice (some ⟨TB, 0, none⟩) n n) n L) := hof
    have HOz : Hid (OwnZ wr N u6 l) := hoz
    have HBk : Hid (Bk wr N 28 [v1, v2, v3, .slice a n k]) := hbk
    have HBl : Hid (Below N w wr) := hbl
    obtain ⟨la, lc, hu6, hl1, hl2, hl3⟩ := hoz.slice
    obtain ⟨m, hm⟩ : ∃ m, m = l.length := ⟨_, rfl⟩
    have HM : Hid (m = l.length) := hm
    rw [← hm] at hu6 hi hl1 hl3
    subst hu6
    have hmn : m ≤ n := by rw [hm, HNn.out]; exact hbf.le
    have HTW : Hid (TB ≠ N) := fun e => by
      have h1 := hbk
      rcases hof.2 with ⟨e1, _⟩ | ⟨g, c, cur, e1, _, e2, _⟩
      · cases e1
      · injection e1 with e3
        injection e3 with e3
        injection e3 with e3
        unfold Bk at h1
        rw [← e, e3, e2] at h1
        simp at h1
    clear hm hbf hdn hpl hof hoz hbk hbl HSt HBf
    rw [← HN.out]
    by_cases him : i < m
    case neg =>
      obtain rfl : i = m := by omega
      have c9 : ¬ (i : Int) < (i : Int) := by omega
      have HBn : Hid (w.grownBy wr none) := belowNone (by have := HBl.out; rw [HN.out] at this; exact this)
      have HO9 : Hid (OwnF wr w.heap.size (.slice (some ⟨TB, 0, none⟩) n n) n L) := by have := HOf.out; rw [HN.out] at this; exact this
      go_wp2_with fail
      refine bodyPost_ret (by simp [results, Try.results12, go_sem]; try rfl) rfl ?_
      exact ⟨TB, rfl, ⟨L, HO9.out⟩, HBn.out⟩
    have himI : (i : Int) < (m : Int) := by omega
    obtain ⟨LB, rfl, hLB1, hLB2⟩ := hl3 (by omega)
    have hci : wr.cell? ⟨LB, i, none⟩ = some (.int .i64 (l.getD i 0)) := (show OwnN wr N (.slice (some ⟨LB, 0, none⟩) m lc) m (fun i => l.getD i 0) by have h9 := HOz.out.n; rw [← HM.out] at h9; exact h9).cell (i := i) him
    have hil : i < l.length := by rw [← HM.out]; exact him
    obtain ⟨x0, x1⟩ := HBf2.out.rg (l.getD i 0) (by
      rw [List.getD_eq_getElem?_getD, List.getElem?_eq_getElem hil]
      exact List.getElem_mem hil)
    obtain ⟨x, hx⟩ : ∃ x : Nat, l.getD i 0 = (x : Int) := ⟨(l.getD i 0).toNat, by omega⟩
    have hxn : (x : Int) < (n : Int) := by rw [HNn.out]; omega
    have HX : Hid (l.getD i 0 = (x : Int)) := hx
    rw [hx] at hci
    have hxb : x < bs.length := by omega
    obtain ⟨bb, bo, b1, b2, b3, b4, m1, m2, m3, m4, hba, hbb, hbl⟩ := (HBL.out wr HBl.out).num hxb
    obtain ⟨cs, hcs⟩ : ∃ cs, cs = (bs.getD x Sa.bl0).succs := ⟨_, rfl⟩
    have HCs : Hid (cs = (bs.getD x Sa.bl0).succs) := hcs
    have hSu : ∀ y, y ∈ cs → 0 ≤ y ∧ y < (bs.length : Int) := by rw [hcs]; exact hsd x hxb
    have HSu : Hid (∀ y, y ∈ cs → 0 ≤ y ∧ y < (bs.length : Int)) := hSu
    have cS := hbl.c4
    have hSl := hbl.succs
    rw [← hcs] at cS hSl
    have hsle := hSl.le
    have hsmx := hSl.max
    unfold maxLen at hsmx hl2
    have HSn : Hid (∀ W, Below N wr W → NumL (· < N) W b3 m3 cs) := fun W g => NumL.ch hSl (Ch.ofBelow g) (fun q hq hm => by have := (List.mem_range'_1.1 hm).1; omega) (fun _ h => h)
    have z3 := HBk.out.cell (i := 3) rfl
    rw [hba] at z3
    clear hbl hcs hSl hSu x0 x1 hx hil
    go_wp2_with fail
    go_quiet (fail)
    have hgd : wr.grownBy (wr.drewN nq) none := grown_drewN (World.grownBy.refl _ none) nq
    obtain ⟨w4, hw4⟩ : ∃ w4, w4 = wr.drewN nq := ⟨_, rfl⟩
    rw [← hw4] at hgd ⊢
    have hNr : N ≤ wr.heap.size := by have := HTl.out; have := (World.ownsRow.lt HOf.out TB rfl).2; omega
    have HB4 : Hid (Below N wr w4) := (Ch.of (l := []) hgd).below hNr (by simp)
    have HSt4 : Hid (OwnF w4 N (.slice (some ⟨TB, 0, none⟩) n n) n L ∧ OwnZ w4 N (.slice (some ⟨LB, 0, none⟩) m lc) l ∧ Bk w4 N 28 [v1, v2, v3, .slice a n k]) := ⟨HOf.out.grow hgd, HOz.out.grow hgd, HBk.out.grow hgd⟩
    clear hgd hw4 z3 hci cS hba HOf HOz HBk
    go_wp2_with fail
    obtain ⟨wo, hwo⟩ : ∃ wo, wo = wr := ⟨_, rfl⟩
    rw [← hwo] at HB4 HSn HBl hNr
    clear hwo
    go_loopw [6, 9] (fun lv kv wq => ∃ (j : Nat) (L2 : Nat → Bool) (l2 : List Int), kv = .int .i64 j ∧ j ≤ cs.length ∧ i < l2.length ∧ l2.getD i 0 = (x : Int) ∧ (∀ e, e < j → cs.getD e 0 ∈ l2) ∧ Sa.Bf bs L2 l2 ∧ Sa.Done bs l2 i ∧ (0 : Int) ∈ l2 ∧ OwnF wq N (.slice (some ⟨TB, 0, none⟩) n n) n L2 ∧ OwnZ wq N lv l2 ∧ Bk wq N 28 [v1, v2, v3, .slice a n k] ∧ Below N wo wq) (fun _ kv _ => cs.length - (intOf kv).toNat)
    case atStart => exact ⟨0, L, l, rfl, Nat.zero_le _, by rw [← HM.out]; exact him, HX.out, fun e he => by omega, HBf2.out, HDn.out, HPl.out, HSt4.out.1, HSt4.out.2.1, HSt4.out.2.2, HB4.out⟩
    case round =>
      obtain ⟨j, L2, l2, rfl, hj, hil, hxl, hsn, hbf, hdn, hpl, hof, hoz, hbk, hbl⟩ := hrel
      clear HBf2 HDn HPl HSt4 HB4
      have HIl : Hid (i < l2.length ∧ l2.getD i 0 = (x : Int)) := ⟨hil, hxl⟩
      have HSn2 : Hid (∀ e, e < j → cs.getD e 0 ∈ l2) := hsn
      have HBf3 : Hid (Sa.Bf bs L2 l2) := hbf
      have HDn3 : Hid (Sa.Done bs l2 i) := hdn
      have HPl3 : Hid ((0 : Int) ∈ l2) := hpl
      have HOf3 : Hid (OwnF wr N (.slice (some ⟨TB, 0, none⟩) n n) n L2) := hof
      have HOz3 : Hid (OwnZ wr N u6 l2) := hoz
      have HBk3 : Hid (Bk wr N 28 [v1, v2, v3, .slice a n k]) := hbk
      have HB3 : Hid (Below N wo wr) := hbl
      obtain ⟨la2, lc2, hu6, hk1, hk2, hk3⟩ := hoz.slice
      obtain ⟨m2, hm2⟩ : ∃ m2, m2 = l2.length := ⟨_, rfl⟩
      have HM2 : Hid (m2 = l2.length) := hm2
      rw [← hm2] at hu6
      subst hu6
      have hm2n : l2.length ≤ n := by rw [HNn.out]; exact hbf.le
      have hNq : N ≤ wr.heap.size := by have := HTl.out; have := (World.ownsRow.lt hof TB rfl).2; omega
      clear hm2 hbf hdn hpl hof hoz hbk hbl hil hxl hsn hk1 hk2 hk3
      by_cases hjc : j < cs.length
      case neg =>
        obtain rfl : j = cs.length := by omega
        have c9 : ¬ (cs.length : Int) < (cs.length : Int) := by omega
        have hall : ∀ y, y ∈ (bs.getD (l2.getD i 0).toNat Sa.bl0).succs → y ∈ l2 := fun y hy => by
          rw [HIl.out.2, Int.toNat_natCast, ← HCs.out] at hy
          obtain ⟨e, he, e2⟩ := List.mem_iff_getElem.1 hy
          have := HSn2.out e he
          rw [List.getD_eq_getElem?_getD, List.getElem?_eq_getElem he, Option.getD_some, e2] at this
          exact this
        have HDn4 : Hid (Sa.Done bs l2 (i + 1)) := HDn3.out.step hall
        clear hall
        go_wp2_with fail
        go_roundw
        case rel => exact ⟨i + 1, L2, l2, by go_num, by have := HIl.out.1; omega, HBf3.out, HDn4.out, HPl3.out, HOf3.out, HOz3.out, HBk3.out, HBl.out.trans HB3.out⟩
        case measure => simp [intOf]; omega
      have hjcI : (j : Int) < (cs.length : Int) := by omega
      obtain ⟨za, zo, rfl, hzN, hz⟩ := (HSn.out wr HB3.out).at hjc
      unfold NumQ at hz
      rw [Nat.mul_one] at hz
      obtain ⟨y0, y1⟩ := HSu.out _ (List.getElem_mem hjc)
      obtain ⟨y, hy⟩ : ∃ y : Nat, cs[j] = (y : Int) := ⟨(cs[j]).toNat, by omega⟩
      have hyb : y < bs.length := by omega
      have hyn : (y : Int) < (n : Int) := by rw [HNn.out]; omega
      have hyN : y < n := by rw [HNn.out]; exact hyb
      have HY : Hid (cs.getD j 0 = (y : Int)) := by show cs.getD j 0 = _; rw [List.getD_eq_getElem?_getD, List.getElem?_eq_getElem hjc, Option.getD_some, hy]
      rw [hy] at hz
      have ym : ¬ (y : Int) = -1 := by omega
      have ymb : ((y : Int) != -1) = true := by simp
      have cL := HOf3.out.cell hyN
      have fL := HOf3.out.frozen y
      clear hy y0 y1
      cases e1 : L2 y with
      | true =>
        rw [e1] at cL
        have hyl : (y : Int) ∈ l2 := (HBf3.out.sn y hyb).1 e1
        have HSn4 : Hid (∀ e, e < j + 1 → cs.getD e 0 ∈ l2) := fun e he => by
          by_cases h9 : e = j
          · subst h9; rw [HY.out]; exact hyl
          · exact HSn2.out e (by omega)
        clear e1 hyl
        go_wp2_with fail
        go_roundw
        case rel => exact ⟨j + 1, L2, l2, by go_num, by omega, HIl.out.1, HIl.out.2, HSn4.out, HBf3.out, HDn3.out, HPl3.out, HOf3.out, HOz3.out, HBk3.out, HB3.out⟩
        case measure => simp [intOf]; omega
      | false =>
        rw [e1] at cL
        have HBf4 : Hid (Sa.Bf bs (fun k => if k = y then true else L2 k) (l2 ++ [(y : Int)])) := HBf3.out.add hyb e1
        have HSn4 : Hid (∀ e, e < j + 1 → cs.getD e 0 ∈ l2 ++ [(y : Int)]) := fun e he => by
          by_cases h9 : e = j
          · subst h9; rw [HY.out]; simp
          · exact List.mem_append_left _ (HSn2.out e (by omega))
        have HDn4 : Hid (Sa.Done bs (l2 ++ [(y : Int)]) i) := HDn3.out.more (Nat.le_of_lt HIl.out.1)
        have HIl4 : Hid (i < (l2 ++ [(y : Int)]).length ∧ (l2 ++ [(y : Int)]).getD i 0 = (x : Int)) := ⟨by rw [List.length_append]; have := HIl.out.1; omega, by
          have := HIl.out
          rw [← this.2]
          simp only [List.getD_eq_getElem?_getD]
          rw [List.getElem?_append_left this.1]⟩
        have HPl4 : Hid ((0 : Int) ∈ l2 ++ [(y : Int)]) := List.mem_append_left _ HPl3.out
        obtain ⟨W7, hW7⟩ : ∃ W7, W7 = wr.setCell ⟨TB, y, none⟩ (.bool true) := ⟨_, rfl⟩
        have hC7 : Ch wr W7 [TB] := by rw [hW7]; exact Ch.one (grown_set _ _ _ _) (by simp)
        have HOf7 : Hid (OwnF W7 N (.slice (some ⟨TB, 0, none⟩) n n) n (fun k => if k = y then true else L2 k)) := by rw [hW7]; exact HOf3.out.set hyN true
        have hap := apartFZ HOf3.out HOz3.out
        have HAp : Hid (∀ q, (Value.slice la2 m2 lc2).ownBlock = some q → q ≠ TB) := fun q hq e => by
          rcases hap with h9 | h9
          · rw [h9] at hq; cases hq
          · exact h9 (by rw [hq, e]; rfl)
        have HOz7 : Hid (OwnZ W7 N (.slice la2 m2 lc2) l2) := HOz3.out.ch hC7 (fun q hq => by have := HAp.out q hq; simpa using this)
        have HBk7 : Hid (Bk W7 N 28 [v1, v2, v3, .slice a n k]) := HBk3.out.ch hC7 (by simp; exact fun e => HTW e.symm)
        have HB7 : Hid (Below N wr W7) := hC7.below hNq (by simp; exact HTl.out)
        have HSz7 : Hid (N ≤ W7.heap.size ∧ W7.heap.size = wr.heap.size) := ⟨Nat.le_trans hNq hC7.size, by rw [hW7]; simp⟩
        have hml : l2.length ≤ 2000000 := by omega
        have z7 := hC7.cell hz (by simp; have := HTl.out; omega)
        rw [hW7] at z7
        clear e1 hap hC7
        go_wp2_with (at_builtin; rw [← hW7]; refine wp_appZ1 rfl (.tmp 63) (.tmp 68) rfl N (.slice la2 m2 lc2) l2 y rfl HOz7.out rfl HSz7.out.2.symm hml HSz7.out.1 ?_; intro v9 w9 ho9 hg9 hb9; have hC9 : Ch W7 w9 (Value.slice la2 m2 lc2).ownBlock.toList := grown_ch hg9 (by intro q hq; simp [hq]); have HOz9 : Hid (OwnZ w9 N v9 (l2 ++ [(y : Int)])) := ho9; have HOf9 : Hid (OwnF w9 N (.slice (some ⟨TB, 0, none⟩) n n) n (fun k => if k = y then true else L2 k)) := ownsRow_ch HOf7.out hC9 (by intro q hq hm; rw [Option.mem_toList] at hm; injection hq with hq; subst hq; exact HAp.out _ hm rfl); have HBk9 : Hid (Bk w9 N 28 [v1, v2, v3, .slice a n k]) := HBk7.out.ch hC9 (by intro hm; rw [Option.mem_toList] at hm; exact ownZ_neC HOz7.out HBk7.out hm); have HB9 : Hid (Below N W7 w9) := hC9.below HSz7.out.1 (by intro q hq; rw [Option.mem_toList] at hq; exact HOz7.out.base q hq); clear ho9 hg9 hb9 hC9)
        go_roundw
        case rel => exact ⟨j + 1, _, l2 ++ [(y : Int)], by go_num, by omega, HIl4.out.1, HIl4.out.2, HSn4.out, HBf4.out, HDn4.out, HPl4.out, HOf9.out, HOz9.out, HBk9.out, (HB3.out.trans HB7.out).trans HB9.out⟩
        case measure => simp [intOf]; omega
def cntZ (l : List Int) (x : Int) : Nat → Nat
  | 0 => 0
  | n + 1 => cntZ l x n + (if l.getD n 0 = x then 1 else 0)
theorem cntZ_le (l : List Int) (x : Int) : ∀ n, cntZ l x n ≤ n
  | 0 => Nat.le_refl _
  | n + 1 => by
    unfold cntZ
    have := cntZ_le l x n
    split <;> omega
theorem flCountX {B : Nat → Prop} {w : World} {a : Option Addr} {k : Nat} {l : List Int} (h : NumL B w a k l) (x : Int) : Calls Try.prog 23 #[.slice a l.length k, .int .i64 x] w fun r w' => r = .returned (.int .i64 (cntZ l x l.length)) ∧ w.grownBy w' none := by
  have HL : Hid (∀ W, w.grownBy W none → NumL B W a k l) := fun W g => h.grow1 g
  have hle := h.le
  have hmx := h.max
  unfold maxLen at hmx
  clear h
  go_enter Try.func23, Try.ntmps23
  go_wp2_with fail
  go_loopw [5, 6] (fun nv iv wr => ∃ (i : Nat), nv = .int .i64 (cntZ l x i) ∧ iv = .int .i64 i ∧ i ≤ l.length ∧ w.grownBy wr none) (fun _ iv _ => l.length - (intOf iv).toNat)
  case atStart => exact ⟨0, rfl, rfl, Nat.zero_le _, World.grownBy.refl _ _⟩
  case round =>
    obtain ⟨i, rfl, rfl, hi, hg⟩ := hrel
    have HG : Hid (w.grownBy wr none) := hg
    clear hg
    by_cases hil : i < l.length
    case neg =>
      obtain rfl : i = l.length := by omega
      have c1 : ¬ (l.length : Int) < (l.length : Int) := by omega
      have c2 : decide ((l.length : Int) < (l.length : Int)) = false := decide_eq_false c1
      go_wp2_with fail
      refine bodyPost_ret (by simp [results, Try.results23, go_sem]; try rfl) rfl ?_
      exact ⟨rfl, HG.out⟩
    have c1 : (i : Int) < (l.length : Int) := by omega
    have hcl := cntZ_le l x i
    obtain ⟨b, o, rfl, _, hz⟩ := (HL.out wr HG.out).at hil
    unfold NumQ at hz
    rw [Nat.mul_one] at hz
    have hs : cntZ l x (i + 1) = cntZ l x i + (if l[i] = x then 1 else 0) := by
      conv => lhs; unfold cntZ
      rw [List.getD_eq_getElem?_getD, List.getElem?_eq_getElem hil, Option.getD_some]
    have HS : Hid (cntZ l x (i + 1) = cntZ l x i + (if l[i] = x then 1 else 0)) := hs
    clear hs
    generalize l[i] = y at *
    by_cases e : y = x
    · subst e
      have h2 := HS.out
      rw [if_pos rfl] at h2
      have H2 : Hid (cntZ l y (i + 1) = cntZ l y i + 1) := h2
      clear h2
      go_wp2_with fail
      go_roundw
      case rel => exact ⟨i + 1, by rw [H2.out]; go_num, by go_num, by omega, HG.out⟩
      case measure => simp [intOf]; omega
    · have c3 : (y == x) = false := by simpa using e
      have h2 := HS.out
      rw [if_neg e] at h2
      have H2 : Hid (cntZ l x (i + 1) = cntZ l x i) := h2
      clear h2
      go_wp2_with fail
      go_roundw
      case rel => exact ⟨i + 1, by rw [H2.out], by go_num, by omega, HG.out⟩
      case measure => simp [intOf]; omega
end Go.Proofs.Ytbpdggdpgohilaa
