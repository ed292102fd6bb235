/- gantryref4.read: its contract. -/
import Derived.Test.YtbghjlamedlchaaDoorCfNum
import Derived.Test.YtbghjlamedlchaaDoorCfUse
import Derived.Test.YtbghjlamedlchaaDoorCdInst
import Derived.Test.YtbghjlamedlchaaDoorCfEnc
namespace Go.Proofs.YtbghjlamedlchaaDoor
open Go.RowKit
set_option linter.unusedVariables false

/-- the memory at each round of read's loop -/
structure Su (w wr : World) (I : Nat) (v : InV) : Prop where
  ia : InstAt wr I v
  gr : w.grownBy wr none
  rs : InstAt wr w.heap.size Cc.zero
  hI : w.heap.size < I
theorem Su.put {w wr : World} {I i : Nat} {v v' : InV} {x : Value} (h : Su w wr I v) (hi : InstAt (wr.setCell ⟨I, i, none⟩ x) I v') : Su w (wr.setCell ⟨I, i, none⟩ x) I v' :=
  ⟨hi, grown_newR h.gr (grown_setCell _ _ _ _) (Nat.le_of_lt h.hI), h.rs.kept (grown_setCell _ _ _ _) (by have := h.hI; simp; omega), h.hI⟩
theorem Su.grow {w wr w' : World} {I : Nat} {v : InV} (h : Su w wr I v) (hg : wr.grownBy w' none) : Su w w' I v := ⟨h.ia.kept hg (by simp), grown_trans h.gr hg, h.rs.kept hg (by simp), h.hI⟩
/-- the instruction handed back: read out of the result's own block -/
theorem Su.back {w wr : World} {I : Nat} {v : InV} (h : Su w wr I v) : InstAt (put9 wr w.heap.size v) w.heap.size v ∧ w.grownBy (put9 wr w.heap.size v) none := ⟨h.rs.put9 v, grown_newR h.gr (grown_put9 _ _ _) (Nat.le_refl _)⟩
namespace Cc
theorem rowS_dash {o : Int} (h : o ≠ 24) : ((rowS o).toList == [45]) = false := by
  rw [ByteArray.toList_eq]
  rcases ops o with e | e | e | e | e | e | e | e | e | e | e | e | e | e | e | e | e | e | e | e | e | e | e | e | e | e
  case inr.inr.inr.inr.inr.inr.inr.inr.inr.inr.inr.inr.inr.inr.inr.inr.inr.inr.inr.inr.inr.inr.inr.inr.inr =>
    rw [rowS_none e]; decide
  all_goals first | (exfalso; exact h e) | (rw [e]; decide)
theorem lts_len (s : ByteArray) : (lts s).length = s.size := by simp [lts]
theorem letterCases (q : Int) : q = 97 ∨ q = 110 ∨ q = 106 ∨ q = 74 ∨ q = 99 ∨ q = 75 ∨ q = 83 ∨ q = 105 ∨ q = 52 ∨ ((q == 97) = false ∧ (q == 110) = false ∧ (q == 106) = false ∧ (q == 74) = false ∧ (q == 99) = false ∧ (q == 75) = false ∧ (q == 83) = false ∧ (q == 105) = false ∧ (q == 52) = false) := by
  simp only [beq_eq_false_iff_ne, ne_eq]; omega
theorem lcnt_other {l z : Int} (h : (l == 105) = false) (h' : (l == 52) = false) : lcnt l z = 1 := by
  simp only [beq_eq_false_iff_ne, ne_eq] at h h'
  unfold lcnt
  rw [if_neg h, if_neg h']
theorem lset_other {l : Int} {v : InV} (h1 : (l == 97) = false) (h2 : (l == 110) = false) (h3 : (l == 106) = false) (h4 : (l == 74) = false) (h5 : (l == 99) = false) (h6 : (l == 75) = false) (h7 : (l == 83) = false) (x y : Int) : lset l v x y = { v with imm := y } := by
  simp only [beq_eq_false_iff_ne, ne_eq] at *
  unfold lset
  rw [if_neg h1, if_neg h2, if_neg h3, if_neg h4, if_neg h5, if_neg h6, if_neg h7]
theorem lsz_other {l z : Int} (h2 : (l == 110) = false) (h3 : (l == 106) = false) (h4 : (l == 74) = false) (x : Int) : lsz l z x = z := by
  simp only [beq_eq_false_iff_ne, ne_eq] at *
  unfold lsz
  rw [if_neg (by omega), if_neg h3]
theorem lts_drop {s : ByteArray} {k : Nat} (hk : k < s.size) : (lts s).drop k = (s[k].toNat : Int) :: (lts s).drop (k + 1) := by
  obtain ⟨h, e⟩ := lts_at hk
  rw [List.drop_eq_getElem_cons h, e]
end Cc

/-- what holds at each round of read's loop -/
structure Rq (w wr : World) (I n : Nat) (g : Nat → Int) (F : InV × Int) (s : List Int) (v : InV) (z : Int) (p : Nat) : Prop where
  st : Su w wr I v
  hz : ¬ (2 < z ∨ (z = 2 ∧ v.op ≠ 1))
  fF : F = Cc.rdL n g s v z p
  hp : 0 < p
  pn : p ≤ n
theorem Rq.next {w wr w' : World} {I n p : Nat} {g : Nat → Int} {F : InV × Int} {l : Int} {s : List Int} {v : InV} {z : Int} (R : Rq w wr I n g F (l :: s) v z p) (hN : p + Cc.lcnt l z ≤ n)
    (hz : ¬ (2 < Cc.lsz l z (g p) ∨ (Cc.lsz l z (g p) = 2 ∧ v.op ≠ 1))) (S : Su w w' I (Cc.lset l v (g p) (Cc.num g p (Cc.lcnt l z)))) :
    Rq w w' I n g F s (Cc.lset l v (g p) (Cc.num g p (Cc.lcnt l z))) (Cc.lsz l z (g p)) (p + Cc.lcnt l z) := by
  refine ⟨S, ?_, ?_, by have := R.hp; omega, hN⟩
  · rw [Cc.lset_op]; exact hz
  · rw [R.fF, Cc.rdL, if_neg (by omega), if_neg hz]
theorem Rq.short {w wr : World} {I n p : Nat} {g : Nat → Int} {F : InV × Int} {l : Int} {s : List Int} {v : InV} {z : Int} (R : Rq w wr I n g F (l :: s) v z p) (hN : n < p + Cc.lcnt l z) : F = (v, 0) := by
  rw [R.fF, Cc.rdL, if_pos hN]
theorem Rq.bad {w wr : World} {I n p : Nat} {g : Nat → Int} {F : InV × Int} {l : Int} {s : List Int} {v : InV} {z : Int} (R : Rq w wr I n g F (l :: s) v z p) (hN : p + Cc.lcnt l z ≤ n)
    (hz : 2 < Cc.lsz l z (g p) ∨ (Cc.lsz l z (g p) = 2 ∧ v.op ≠ 1)) : F = (Cc.lset l v (g p) (Cc.num g p (Cc.lcnt l z)), -1) := by
  rw [R.fF, Cc.rdL, if_neg (by omega), if_pos hz]

theorem Rq.nextI {w wr w' : World} {I n p c : Nat} {g : Nat → Int} {F : InV × Int} {l : Int} {s : List Int} {v : InV} {z : Int} (R : Rq w wr I n g F (l :: s) v z p) (hc : Cc.lcnt l z = c) (h1 : ∀ x y, Cc.lset l v x y = { v with imm := y }) (h2 : ∀ x, Cc.lsz l z x = z) (hN : p + c ≤ n) (S : Su w w' I { v with imm := Cc.num g p c }) :
    Rq w w' I n g F s { v with imm := Cc.num g p c } z (p + c) := by
  subst hc
  have := R.next (w' := w') hN (by rw [h2]; exact R.hz) (by rw [h1]; exact S)
  rwa [h1, h2] at this

set_option maxRecDepth 100000 in
set_option maxHeartbeats 8000000 in
theorem rread_any {w : World} {b off n cap : Nat} {g : Nat → Int} (hn : 0 < n) (hm : (n : Int) ≤ 4000) (hg : Mm.Fit g) (hb : b < w.heap.size) (hc : ∀ i, i < n → w.cell? ⟨b, off + i, none⟩ = some (.int .u8 (g i))) (ho : g 0 ≠ 24) :
    Calls Tryd.prog 38 #[.slice (some ⟨b, off, none⟩) n cap] w fun e w' => e = .returned (.tuple #[.agg #[.int .i64 (Cc.read n g).1.op, .int .i64 (Cc.read n g).1.a, .int .i64 (Cc.read n g).1.b, .int .i64 (Cc.read n g).1.c, .int .i64 (Cc.read n g).1.k, .int .i64 (Cc.read n g).1.sub, .int .i64 (Cc.read n g).1.scale, .int .i64 (Cc.read n g).1.imm, .int .i64 (Cc.read n g).1.label], .int .i64 (Cc.read n g).2]) ∧ w.grownBy w' none := by
  have hR : Cc.read n g = Cc.rdL n g (Cc.lts (Cc.rowS (g 0))) ⟨g 0, 0, 0, 0, 0, 0, 0, 0, 0⟩ 0 1 := by
    unfold Cc.read Cc.rrow
    rw [if_neg ho, Cc.lts_row]
  have HF : Hid (Cc.read n g = Cc.rdL n g (Cc.lts (Cc.rowS (g 0))) ⟨g 0, 0, 0, 0, 0, 0, 0, 0, 0⟩ 0 1) := hR
  have HR : Hid (∀ W, Calls Tryd.prog 18 #[.int .i64 (g 0)] W fun e w' => e = .returned (.string (Cc.rowS (g 0))) ∧ w' = W) := rrow_any (g 0)
  have hsz := Cc.rowS_size (g 0)
  have HC : Hid (∀ i, i < n → w.cell? ⟨b, off + i, none⟩ = some (.int .u8 (g i))) := hc
  have HG : Hid (Mm.Fit g) := hg
  have c0 : w.cell? ⟨b, off, none⟩ = some (.int .u8 (g 0)) := hc 0 hn
  have f0 := hg 0
  have hn0 : (0 : Int) < n := by omega
  generalize Cc.read n g = F at *
  have hs : ((Cc.rowS (g 0)).toList == [45]) = false := Cc.rowS_dash ho
  generalize Cc.rowS (g 0) = s at *
  clear hR hc hg
  go_enter Tryd.func38, Tryd.ntmps38
  go_wp2_with (go_at_call 18; refine (HR.out _).mono ?_; rintro e w1 ⟨rfl, rfl⟩)
  have S0 : Su w ((w.alloc (Obj.cells #[.int .i64 0, .int .i64 0, .int .i64 0, .int .i64 0, .int .i64 0, .int .i64 0, .int .i64 0, .int .i64 0, .int .i64 0] 28)).alloc (Obj.cells #[.int .i64 (g 0), .int .i64 0, .int .i64 0, .int .i64 0, .int .i64 0, .int .i64 0, .int .i64 0, .int .i64 0, .int .i64 0] 28)) (w.heap.size + 1) ⟨g 0, 0, 0, 0, 0, 0, 0, 0, 0⟩ := by
    have h1 := InstAt.new (w.alloc (Obj.cells #[.int .i64 0, .int .i64 0, .int .i64 0, .int .i64 0, .int .i64 0, .int .i64 0, .int .i64 0, .int .i64 0, .int .i64 0] 28)) ⟨g 0, 0, 0, 0, 0, 0, 0, 0, 0⟩
    rw [size_alloc] at h1
    exact ⟨h1, grown_alloc2 _ _ _, (InstAt.new w Cc.zero).kept (World.grownBy_alloc _ _ none) (by simp), by omega⟩
  generalize (w.alloc (Obj.cells #[.int .i64 0, .int .i64 0, .int .i64 0, .int .i64 0, .int .i64 0, .int .i64 0, .int .i64 0, .int .i64 0, .int .i64 0] 28)).alloc (Obj.cells #[.int .i64 (g 0), .int .i64 0, .int .i64 0, .int .i64 0, .int .i64 0, .int .i64 0, .int .i64 0, .int .i64 0, .int .i64 0] 28) = W3 at *
  go_loopw [6, 7, 8] (fun sp sz sk wr => ∃ (k p : Nat) (z : Int) (v : InV), k ≤ s.size ∧ sk = .int .i64 k ∧ sp = .int .i64 p ∧ sz = .int .i64 z ∧ Rq w wr (w.heap.size + 1) n g F ((Cc.lts s).drop k) v z p) (fun _ _ sk _ => s.size - (intOf sk).toNat)
  case atStart => exact ⟨0, 1, 0, _, Nat.zero_le _, rfl, rfl, rfl, S0, by omega, HF.out, by decide, hn⟩
  case round =>
    clear S0
    obtain ⟨k, p, z, v, hk, rfl, rfl, rfl, hR⟩ := hrel
    have hpn := hR.pn
    have hp0 := hR.hp
    have hz := hR.hz
    obtain ⟨d0, d1, d2, d3, d4, d5, d6, d7, d8, dz⟩ := hR.st.ia
    obtain ⟨e0, e1, e2, e3, e4, e5, e6, e7, e8, ez⟩ := hR.st.rs
    have y0 := ez 0
    have y1 := ez 1
    have y2 := ez 2
    have y3 := ez 3
    have y4 := ez 4
    have y5 := ez 5
    have y6 := ez 6
    have y7 := ez 7
    have y8 := ez 8
    have q1 := dz 1
    have q2 := dz 2
    have q3 := dz 3
    have q4 := dz 4
    have q5 := dz 5
    have q6 := dz 6
    have q7 := dz 7
    clear dz ez
    by_cases hlt : k < s.size
    · rw [Cc.lts_drop hlt] at hR
      have HS : Hid (Rq w wr (w.heap.size + 1) n g F ((s[k].toNat : Int) :: (Cc.lts s).drop (k + 1)) v z p) := hR
      generalize hl : (s[k].toNat : Int) = l at *
      clear hR
      rcases Cc.letterCases l with rfl | rfl | rfl | rfl | rfl | rfl | rfl | rfl | rfl | hc
      · by_cases hp : p < n
        · have hp' : (p : Int) + 1 ≤ n := by omega
          have f := HG.out p
          have cp := (HS.out.st.gr.cell (HC.out p hp) (by simp))
          have S4 := HS.out.st
          go_wp2_with fail
          all_goals exact ⟨⟨k + 1, p + 1, z, _, by omega, by go_num, by go_num, congrArg (Value.int .i64) (by omega), HS.out.next hp HS.out.hz ((S4.put (S4.ia.set1 _)).put ((S4.put (S4.ia.set1 _)).ia.set2 _))⟩, by simp [intOf]; omega⟩
        · have hp' : (n : Int) < (p : Int) + 1 := by omega
          have hF := HS.out.short (by show n < p + 1; omega)
          go_wp2_with fail
          obtain ⟨P9, G9⟩ := (HS.out.st).back
          change bodyPost _ _ _ _ _ (put9 (wr) w.heap.size v)
          generalize put9 (wr) w.heap.size v = W9 at *
          obtain ⟨x0, x1, x2, x3, x4, x5, x6, x7, x8, xz⟩ := P9
          refine bodyPost_ret (by simp [results, Tryd.results38, go_sem, x0, x1, x2, x3, x4, x5, x6, x7, x8]; try rfl) rfl ?_
          rw [hF]
          exact ⟨rfl, G9⟩
      · by_cases hp : p < n
        · have hp' : (p : Int) + 1 ≤ n := by omega
          have f := HG.out p
          have cp := (HS.out.st.gr.cell (HC.out p hp) (by simp))
          have S4 := HS.out.st
          go_wp2_with fail
          all_goals first
            | exact ⟨⟨k + 1, p + 1, g p % 16, _, by omega, by go_num, by go_num, congrArg (Value.int .i64) (by omega), HS.out.next hp (fun hb => by rcases hb with hb | ⟨hb, hc⟩ <;> first | (change 2 < g p % 16 at hb; omega) | (change g p % 16 = 2 at hb; simp_all; done) | (change g p % 16 = 2 at hb; exfalso; simp_all; omega)) (S4.put (S4.ia.set1 _))⟩, by simp [intOf]; omega⟩
            | (have hF : F = ({ v with a := g p / 16 }, -1) := HS.out.bad hp (by first | (left; change 2 < g p % 16; omega) | (right; exact ⟨by change g p % 16 = 2; omega, by simp_all⟩))
               obtain ⟨P9, G9⟩ := (S4.put (S4.ia.set1 (g p / 16))).back
               change bodyPost _ _ _ _ _ (put9 (wr.setCell ⟨w.heap.size + 1, 1, none⟩ (.int .i64 (g p / 16))) w.heap.size { v with a := g p / 16 })
               generalize put9 (wr.setCell ⟨w.heap.size + 1, 1, none⟩ (.int .i64 (g p / 16))) w.heap.size { v with a := g p / 16 } = W9 at *
               obtain ⟨x0, x1, x2, x3, x4, x5, x6, x7, x8, xz⟩ := P9
               refine bodyPost_ret (by simp [results, Tryd.results38, go_sem, x0, x1, x2, x3, x4, x5, x6, x7, x8]; try rfl) rfl ?_
               rw [hF]
               exact ⟨rfl, G9⟩)
        · have hp' : (n : Int) < (p : Int) + 1 := by omega
          have hF := HS.out.short (by show n < p + 1; omega)
          go_wp2_with fail
          obtain ⟨P9, G9⟩ := (HS.out.st).back
          change bodyPost _ _ _ _ _ (put9 (wr) w.heap.size v)
          generalize put9 (wr) w.heap.size v = W9 at *
          obtain ⟨x0, x1, x2, x3, x4, x5, x6, x7, x8, xz⟩ := P9
          refine bodyPost_ret (by simp [results, Tryd.results38, go_sem, x0, x1, x2, x3, x4, x5, x6, x7, x8]; try rfl) rfl ?_
          rw [hF]
          exact ⟨rfl, G9⟩
      · by_cases hp : p < n
        · have hp' : (p : Int) + 1 ≤ n := by omega
          have f := HG.out p
          have cp := (HS.out.st.gr.cell (HC.out p hp) (by simp))
          have S4 := HS.out.st
          go_wp2_with fail
          all_goals first
            | exact ⟨⟨k + 1, p + 1, g p, _, by omega, by go_num, by go_num, congrArg (Value.int .i64) (by omega), HS.out.next hp (fun hb => by rcases hb with hb | ⟨hb, hc⟩ <;> first | (change 2 < g p at hb; omega) | (change g p = 2 at hb; simp_all; done) | (change g p = 2 at hb; exfalso; simp_all; omega)) S4⟩, by simp [intOf]; omega⟩
            | (have hF : F = (v, -1) := HS.out.bad hp (by first | (left; change 2 < g p; omega) | (right; exact ⟨by change g p = 2; omega, by simp_all⟩))
               obtain ⟨P9, G9⟩ := (S4).back
               change bodyPost _ _ _ _ _ (put9 (wr) w.heap.size v)
               generalize put9 (wr) w.heap.size v = W9 at *
               obtain ⟨x0, x1, x2, x3, x4, x5, x6, x7, x8, xz⟩ := P9
               refine bodyPost_ret (by simp [results, Tryd.results38, go_sem, x0, x1, x2, x3, x4, x5, x6, x7, x8]; try rfl) rfl ?_
               rw [hF]
               exact ⟨rfl, G9⟩)
        · have hp' : (n : Int) < (p : Int) + 1 := by omega
          have hF := HS.out.short (by show n < p + 1; omega)
          go_wp2_with fail
          obtain ⟨P9, G9⟩ := (HS.out.st).back
          change bodyPost _ _ _ _ _ (put9 (wr) w.heap.size v)
          generalize put9 (wr) w.heap.size v = W9 at *
          obtain ⟨x0, x1, x2, x3, x4, x5, x6, x7, x8, xz⟩ := P9
          refine bodyPost_ret (by simp [results, Tryd.results38, go_sem, x0, x1, x2, x3, x4, x5, x6, x7, x8]; try rfl) rfl ?_
          rw [hF]
          exact ⟨rfl, G9⟩
      · by_cases hp : p < n
        · have hp' : (p : Int) + 1 ≤ n := by omega
          have f := HG.out p
          have cp := (HS.out.st.gr.cell (HC.out p hp) (by simp))
          have S4 := HS.out.st
          go_wp2_with fail
          all_goals first
            | exact ⟨⟨k + 1, p + 1, g p % 16, _, by omega, by go_num, by go_num, congrArg (Value.int .i64) (by omega), HS.out.next hp (fun hb => by rcases hb with hb | ⟨hb, hc⟩ <;> first | (change 2 < g p % 16 at hb; omega) | (change g p % 16 = 2 at hb; simp_all; done) | (change g p % 16 = 2 at hb; exfalso; simp_all; omega)) (S4.put (S4.ia.set5 _))⟩, by simp [intOf]; omega⟩
            | (have hF : F = ({ v with sub := g p / 16 + 11 }, -1) := HS.out.bad hp (by first | (left; change 2 < g p % 16; omega) | (right; exact ⟨by change g p % 16 = 2; omega, by simp_all⟩))
               obtain ⟨P9, G9⟩ := (S4.put (S4.ia.set5 (g p / 16 + 11))).back
               change bodyPost _ _ _ _ _ (put9 (wr.setCell ⟨w.heap.size + 1, 5, none⟩ (.int .i64 (g p / 16 + 11))) w.heap.size { v with sub := g p / 16 + 11 })
               generalize put9 (wr.setCell ⟨w.heap.size + 1, 5, none⟩ (.int .i64 (g p / 16 + 11))) w.heap.size { v with sub := g p / 16 + 11 } = W9 at *
               obtain ⟨x0, x1, x2, x3, x4, x5, x6, x7, x8, xz⟩ := P9
               refine bodyPost_ret (by simp [results, Tryd.results38, go_sem, x0, x1, x2, x3, x4, x5, x6, x7, x8]; try rfl) rfl ?_
               rw [hF]
               exact ⟨rfl, G9⟩)
        · have hp' : (n : Int) < (p : Int) + 1 := by omega
          have hF := HS.out.short (by show n < p + 1; omega)
          go_wp2_with fail
          obtain ⟨P9, G9⟩ := (HS.out.st).back
          change bodyPost _ _ _ _ _ (put9 (wr) w.heap.size v)
          generalize put9 (wr) w.heap.size v = W9 at *
          obtain ⟨x0, x1, x2, x3, x4, x5, x6, x7, x8, xz⟩ := P9
          refine bodyPost_ret (by simp [results, Tryd.results38, go_sem, x0, x1, x2, x3, x4, x5, x6, x7, x8]; try rfl) rfl ?_
          rw [hF]
          exact ⟨rfl, G9⟩
      · by_cases hp : p < n
        · have hp' : (p : Int) + 1 ≤ n := by omega
          have f := HG.out p
          have cp := (HS.out.st.gr.cell (HC.out p hp) (by simp))
          have S4 := HS.out.st
          go_wp2_with (go_at_call 58; refine (rscale_any _ _ (by omega) (by omega)).mono ?_; rintro e w5 ⟨rfl, rfl⟩)
          all_goals exact ⟨⟨k + 1, p + 1, z, _, by omega, by go_num, by go_num, congrArg (Value.int .i64) (by omega), HS.out.next hp HS.out.hz ((S4.put (S4.ia.set3 _)).put ((S4.put (S4.ia.set3 _)).ia.set6 _))⟩, by simp [intOf]; omega⟩
        · have hp' : (n : Int) < (p : Int) + 1 := by omega
          have hF := HS.out.short (by show n < p + 1; omega)
          go_wp2_with fail
          obtain ⟨P9, G9⟩ := (HS.out.st).back
          change bodyPost _ _ _ _ _ (put9 (wr) w.heap.size v)
          generalize put9 (wr) w.heap.size v = W9 at *
          obtain ⟨x0, x1, x2, x3, x4, x5, x6, x7, x8, xz⟩ := P9
          refine bodyPost_ret (by simp [results, Tryd.results38, go_sem, x0, x1, x2, x3, x4, x5, x6, x7, x8]; try rfl) rfl ?_
          rw [hF]
          exact ⟨rfl, G9⟩
      · by_cases hp : p < n
        · have hp' : (p : Int) + 1 ≤ n := by omega
          have f := HG.out p
          have cp := (HS.out.st.gr.cell (HC.out p hp) (by simp))
          have S4 := HS.out.st
          go_wp2_with fail
          all_goals exact ⟨⟨k + 1, p + 1, z, _, by omega, by go_num, by go_num, congrArg (Value.int .i64) (by omega), HS.out.next hp HS.out.hz (S4.put (S4.ia.set4 _))⟩, by simp [intOf]; omega⟩
        · have hp' : (n : Int) < (p : Int) + 1 := by omega
          have hF := HS.out.short (by show n < p + 1; omega)
          go_wp2_with fail
          obtain ⟨P9, G9⟩ := (HS.out.st).back
          change bodyPost _ _ _ _ _ (put9 (wr) w.heap.size v)
          generalize put9 (wr) w.heap.size v = W9 at *
          obtain ⟨x0, x1, x2, x3, x4, x5, x6, x7, x8, xz⟩ := P9
          refine bodyPost_ret (by simp [results, Tryd.results38, go_sem, x0, x1, x2, x3, x4, x5, x6, x7, x8]; try rfl) rfl ?_
          rw [hF]
          exact ⟨rfl, G9⟩
      · by_cases hp : p < n
        · have hp' : (p : Int) + 1 ≤ n := by omega
          have f := HG.out p
          have cp := (HS.out.st.gr.cell (HC.out p hp) (by simp))
          have S4 := HS.out.st
          go_wp2_with fail
          all_goals exact ⟨⟨k + 1, p + 1, z, _, by omega, by go_num, by go_num, congrArg (Value.int .i64) (by omega), HS.out.next hp HS.out.hz (S4.put (S4.ia.set5 _))⟩, by simp [intOf]; omega⟩
        · have hp' : (n : Int) < (p : Int) + 1 := by omega
          have hF := HS.out.short (by show n < p + 1; omega)
          go_wp2_with fail
          obtain ⟨P9, G9⟩ := (HS.out.st).back
          change bodyPost _ _ _ _ _ (put9 (wr) w.heap.size v)
          generalize put9 (wr) w.heap.size v = W9 at *
          obtain ⟨x0, x1, x2, x3, x4, x5, x6, x7, x8, xz⟩ := P9
          refine bodyPost_ret (by simp [results, Tryd.results38, go_sem, x0, x1, x2, x3, x4, x5, x6, x7, x8]; try rfl) rfl ?_
          rw [hF]
          exact ⟨rfl, G9⟩
      · rcases cnt_c (z := z) with hcz | hcz | hcz
        · have HB : Hid (∀ W, Calls Tryd.prog 35 #[.int .i64 z] W fun e w' => e = .returned (.int .i64 1) ∧ w' = W) := by
            have := rbytes4_any z
            rw [hcz] at this
            exact this
          have HZ : Hid (Cc.cnt z = 1) := hcz
          clear hcz
          by_cases hp : p + 1 ≤ n
          · have hp' : (p : Int) + 1 ≤ n := by omega
            have f := HG.out p
            have cp := (HS.out.st.gr.cell (HC.out p (by omega)) (by simp))
            go_wp2_with (go_at_call 35; refine (HB.out _).mono ?_; rintro e w4 ⟨rfl, rfl⟩)
            refine (rnumber_any (c := 1) (by decide) HG.out (by omega) hp (fun i hi => HS.out.st.gr.cell (HC.out i hi) (by simp))).mono ?_
            rintro e w5 ⟨rfl, d, rfl⟩
            have S5 := HS.out.st.grow (grown_drewN (World.grownBy.refl _ _) d)
            obtain ⟨t0, t1, t2, t3, t4, t5, t6, t7, t8, tz⟩ := S5.ia
            have tz7 := tz 7
            clear tz
            go_wp2_with fail
            all_goals exact ⟨⟨k + 1, p + 1, z, _, by omega, by go_num, by go_num, congrArg (Value.int .i64) (by omega), HS.out.nextI HZ.out (fun _ _ => rfl) (fun _ => rfl) hp (S5.put (S5.ia.set7 _))⟩, by simp [intOf]; omega⟩
          · have hp' : (n : Int) < (p : Int) + 1 := by omega
            have hF := HS.out.short (by show n < p + Cc.cnt z; rw [HZ.out]; omega)
            go_wp2_with (go_at_call 35; refine (HB.out _).mono ?_; rintro e w4 ⟨rfl, rfl⟩)
            obtain ⟨P9, G9⟩ := (HS.out.st).back
            change bodyPost _ _ _ _ _ (put9 w4 w.heap.size v)
            generalize put9 w4 w.heap.size v = W9 at *
            obtain ⟨x0, x1, x2, x3, x4, x5, x6, x7, x8, xz⟩ := P9
            refine bodyPost_ret (by simp [results, Tryd.results38, go_sem, x0, x1, x2, x3, x4, x5, x6, x7, x8]; try rfl) rfl ?_
            rw [hF]
            exact ⟨rfl, G9⟩
        · have HB : Hid (∀ W, Calls Tryd.prog 35 #[.int .i64 z] W fun e w' => e = .returned (.int .i64 4) ∧ w' = W) := by
            have := rbytes4_any z
            rw [hcz] at this
            exact this
          have HZ : Hid (Cc.cnt z = 4) := hcz
          clear hcz
          by_cases hp : p + 4 ≤ n
          · have hp' : (p : Int) + 4 ≤ n := by omega
            have f := HG.out p
            have cp := (HS.out.st.gr.cell (HC.out p (by omega)) (by simp))
            go_wp2_with (go_at_call 35; refine (HB.out _).mono ?_; rintro e w4 ⟨rfl, rfl⟩)
            refine (rnumber_any (c := 4) (by decide) HG.out (by omega) hp (fun i hi => HS.out.st.gr.cell (HC.out i hi) (by simp))).mono ?_
            rintro e w5 ⟨rfl, d, rfl⟩
            have S5 := HS.out.st.grow (grown_drewN (World.grownBy.refl _ _) d)
            obtain ⟨t0, t1, t2, t3, t4, t5, t6, t7, t8, tz⟩ := S5.ia
            have tz7 := tz 7
            clear tz
            go_wp2_with fail
            all_goals exact ⟨⟨k + 1, p + 4, z, _, by omega, by go_num, by go_num, congrArg (Value.int .i64) (by omega), HS.out.nextI HZ.out (fun _ _ => rfl) (fun _ => rfl) hp (S5.put (S5.ia.set7 _))⟩, by simp [intOf]; omega⟩
          · have hp' : (n : Int) < (p : Int) + 4 := by omega
            have hF := HS.out.short (by show n < p + Cc.cnt z; rw [HZ.out]; omega)
            go_wp2_with (go_at_call 35; refine (HB.out _).mono ?_; rintro e w4 ⟨rfl, rfl⟩)
            obtain ⟨P9, G9⟩ := (HS.out.st).back
            change bodyPost _ _ _ _ _ (put9 w4 w.heap.size v)
            generalize put9 w4 w.heap.size v = W9 at *
            obtain ⟨x0, x1, x2, x3, x4, x5, x6, x7, x8, xz⟩ := P9
            refine bodyPost_ret (by simp [results, Tryd.results38, go_sem, x0, x1, x2, x3, x4, x5, x6, x7, x8]; try rfl) rfl ?_
            rw [hF]
            exact ⟨rfl, G9⟩
        · have HB : Hid (∀ W, Calls Tryd.prog 35 #[.int .i64 z] W fun e w' => e = .returned (.int .i64 8) ∧ w' = W) := by
            have := rbytes4_any z
            rw [hcz] at this
            exact this
          have HZ : Hid (Cc.cnt z = 8) := hcz
          clear hcz
          by_cases hp : p + 8 ≤ n
          · have hp' : (p : Int) + 8 ≤ n := by omega
            have f := HG.out p
            have cp := (HS.out.st.gr.cell (HC.out p (by omega)) (by simp))
            go_wp2_with (go_at_call 35; refine (HB.out _).mono ?_; rintro e w4 ⟨rfl, rfl⟩)
            refine (rnumber_any (c := 8) (by decide) HG.out (by omega) hp (fun i hi => HS.out.st.gr.cell (HC.out i hi) (by simp))).mono ?_
            rintro e w5 ⟨rfl, d, rfl⟩
            have S5 := HS.out.st.grow (grown_drewN (World.grownBy.refl _ _) d)
            obtain ⟨t0, t1, t2, t3, t4, t5, t6, t7, t8, tz⟩ := S5.ia
            have tz7 := tz 7
            clear tz
            go_wp2_with fail
            all_goals exact ⟨⟨k + 1, p + 8, z, _, by omega, by go_num, by go_num, congrArg (Value.int .i64) (by omega), HS.out.nextI HZ.out (fun _ _ => rfl) (fun _ => rfl) hp (S5.put (S5.ia.set7 _))⟩, by simp [intOf]; omega⟩
          · have hp' : (n : Int) < (p : Int) + 8 := by omega
            have hF := HS.out.short (by show n < p + Cc.cnt z; rw [HZ.out]; omega)
            go_wp2_with (go_at_call 35; refine (HB.out _).mono ?_; rintro e w4 ⟨rfl, rfl⟩)
            obtain ⟨P9, G9⟩ := (HS.out.st).back
            change bodyPost _ _ _ _ _ (put9 w4 w.heap.size v)
            generalize put9 w4 w.heap.size v = W9 at *
            obtain ⟨x0, x1, x2, x3, x4, x5, x6, x7, x8, xz⟩ := P9
            refine bodyPost_ret (by simp [results, Tryd.results38, go_sem, x0, x1, x2, x3, x4, x5, x6, x7, x8]; try rfl) rfl ?_
            rw [hF]
            exact ⟨rfl, G9⟩
      · by_cases hp : p + 4 ≤ n
        · have hp' : (p : Int) + 4 ≤ n := by omega
          have f := HG.out p
          have cp := (HS.out.st.gr.cell (HC.out p (by omega)) (by simp))
          go_wp2_with (first
            | (go_at_call 59; refine (rnumber_any (c := 4) (by decide) HG.out (by omega) hp (fun i hi => HS.out.st.gr.cell (HC.out i hi) (by simp))).mono ?_; rintro e w5 ⟨rfl, d, rfl⟩; have S5 := HS.out.st.grow (grown_drewN (World.grownBy.refl _ _) d); obtain ⟨t0, t1, t2, t3, t4, t5, t6, t7, t8, tz⟩ := S5.ia; have tz7 := tz 7; clear tz))
          all_goals exact ⟨⟨k + 1, p + 4, z, _, by omega, by go_num, by go_num, congrArg (Value.int .i64) (by omega), HS.out.nextI rfl (fun _ _ => rfl) (fun _ => rfl) hp (S5.put (S5.ia.set7 _))⟩, by simp [intOf]; omega⟩
        · have hp' : (n : Int) < (p : Int) + 4 := by omega
          have hF := HS.out.short (by show n < p + 4; omega)
          go_wp2_with fail
          obtain ⟨P9, G9⟩ := (HS.out.st).back
          change bodyPost _ _ _ _ _ (put9 (wr) w.heap.size v)
          generalize put9 (wr) w.heap.size v = W9 at *
          obtain ⟨x0, x1, x2, x3, x4, x5, x6, x7, x8, xz⟩ := P9
          refine bodyPost_ret (by simp [results, Tryd.results38, go_sem, x0, x1, x2, x3, x4, x5, x6, x7, x8]; try rfl) rfl ?_
          rw [hF]
          exact ⟨rfl, G9⟩
      · obtain ⟨a1, a2, a3, a4, a5, a6, a7, a8, a9⟩ := hc
        have L1 : Hid (Cc.lcnt l z = 1) := Cc.lcnt_other a8 a9
        have L2 : Hid (∀ x y, Cc.lset l v x y = { v with imm := y }) := Cc.lset_other a1 a2 a3 a4 a5 a6 a7
        have L3 : Hid (∀ x, Cc.lsz l z x = z) := Cc.lsz_other a2 a3 a4
        by_cases hp : p + 1 ≤ n
        · have hp' : (p : Int) + 1 ≤ n := by omega
          have f := HG.out p
          have cp := (HS.out.st.gr.cell (HC.out p (by omega)) (by simp))
          go_wp2_with (first
            | (go_at_call 59; refine (rnumber_any (c := 1) (by decide) HG.out (by omega) hp (fun i hi => HS.out.st.gr.cell (HC.out i hi) (by simp))).mono ?_; rintro e w5 ⟨rfl, d, rfl⟩; have S5 := HS.out.st.grow (grown_drewN (World.grownBy.refl _ _) d); obtain ⟨t0, t1, t2, t3, t4, t5, t6, t7, t8, tz⟩ := S5.ia; have tz7 := tz 7; clear tz))
          all_goals exact ⟨⟨k + 1, p + 1, z, _, by omega, by go_num, by go_num, congrArg (Value.int .i64) (by omega), HS.out.nextI L1.out L2.out L3.out hp (S5.put (S5.ia.set7 _))⟩, by simp [intOf]; omega⟩
        · have hp' : (n : Int) < (p : Int) + 1 := by omega
          have hF := HS.out.short (by rw [L1.out]; omega)
          go_wp2_with fail
          obtain ⟨P9, G9⟩ := (HS.out.st).back
          change bodyPost _ _ _ _ _ (put9 (wr) w.heap.size v)
          generalize put9 (wr) w.heap.size v = W9 at *
          obtain ⟨x0, x1, x2, x3, x4, x5, x6, x7, x8, xz⟩ := P9
          refine bodyPost_ret (by simp [results, Tryd.results38, go_sem, x0, x1, x2, x3, x4, x5, x6, x7, x8]; try rfl) rfl ?_
          rw [hF]
          exact ⟨rfl, G9⟩
    · obtain rfl : k = s.size := by omega
      have HS : Hid (Rq w wr (w.heap.size + 1) n g F ((Cc.lts s).drop s.size) v z p) := hR
      clear hR
      have hF : F = (v, (p : Int)) := by
        have := HS.out.fF
        rwa [List.drop_of_length_le (Nat.le_of_eq (Cc.lts_len s))] at this
      go_wp2_with fail
      obtain ⟨P9, G9⟩ := HS.out.st.back
      change bodyPost _ _ _ _ _ (put9 wr w.heap.size v)
      generalize put9 wr w.heap.size v = W9 at *
      obtain ⟨x0, x1, x2, x3, x4, x5, x6, x7, x8, xz⟩ := P9
      refine bodyPost_ret (by simp [results, Tryd.results38, go_sem, x0, x1, x2, x3, x4, x5, x6, x7, x8]; try rfl) rfl ?_
      rw [hF]
      exact ⟨rfl, G9⟩
end Go.Proofs.YtbghjlamedlchaaDoor
