/- Contracts and plain facts that the walks share. -/
import Derived.Test.YtpcgkggpmipiaaaGreatG18
import Derived.Test.YtpcgkggpmipiaaaGreatG10
namespace Go.Proofs.YtpcgkggpmipiaaaGreat
open Go.RowKit
set_option linter.unusedVariables false
set_option maxRecDepth 100000
set_option maxHeartbeats 8000000
theorem StL.grow9 {B : Nat → Prop} {W W' : World} {a : Option Addr} {cap : Nat} {xs : List Pg.St} (h : StL B W a cap xs) (hg : W.grownBy W' none) : StL B W' a cap xs := StL.ch (l := []) h (Ch.of hg) (by simp) (fun _ h => h)
theorem Ck.lvs_any (n : Int) (l : List Pg.St) : Ck.lvs n l = l.any (Ck.lv n) := by
 induction l with
 | nil => rfl
 | cons x l ih => rw [Ck.lvs, ih, List.any_cons]
theorem Ck.ens_any (l : List Pg.St) : Ck.ens l = l.any Ck.en := by
 induction l with
 | nil => rfl
 | cons x l ih => rw [Ck.ens, ih, List.any_cons]
theorem ckIdxE {B : Nat → Prop} {w : World} {a : Option Addr} {c : Nat} {l : List Pg.St} {p : Pg.St → Bool} (hl : StL B w a c l) (hp : ∀ x, x ∈ l → ∀ W, w.grownBy W none → ∀ a1 a2 a3 a4 k1 k2 k3 k4, StL B W a3 k3 x.a → StL B W a4 k4 x.b → Calls Tryz.prog 97 #[stV x.op x.n a1 x.args.length k1 a2 x.dst.length k2 a3 x.a.length k3 a4 x.b.length k4] W fun r w' => r = .returned (.bool (p x)) ∧ W.grownBy w' none) :
  Calls Tryz.prog 149 #[.slice a l.length c, .func (.func 97) #[] #[]] w fun r w' => ∃ q : Int, r = .returned (.int .i64 q) ∧ w.grownBy w' none ∧ decide (0 ≤ q) = l.any p := by
 have hle := hl.le
 have hmx := hl.max
 unfold maxLen at hmx
 have HL : Hid (∀ W, w.grownBy W none → StL B W a c l) := fun W g => StL.grow9 hl g
 have HP : Hid (∀ x, x ∈ l → ∀ W, w.grownBy W none → ∀ a1 a2 a3 a4 k1 k2 k3 k4, StL B W a3 k3 x.a → StL B W a4 k4 x.b → Calls Tryz.prog 97 #[stV x.op x.n a1 x.args.length k1 a2 x.dst.length k2 a3 x.a.length k3 a4 x.b.length k4] W fun r w' => r = .returned (.bool (p x)) ∧ W.grownBy w' none) := hp
 clear hl hp
 go_enter Tryz.func149, Tryz.ntmps149
 go_wp2_with fail
 go_loopw [8] (fun ix wr => ∃ k : Nat, ix = .int .i64 k ∧ k ≤ l.length ∧ (l.take k).any p = false ∧ w.grownBy wr none) (fun ix _ => l.length - (intOf ix).toNat)
 case atStart => exact ⟨0, rfl, Nat.zero_le _, rfl, World.grownBy.refl _ _⟩
 case round =>
  obtain ⟨k, rfl, hk, ha, hg⟩ := hrel
  have HA : Hid ((l.take k).any p = false) := ha
  have HG : Hid (w.grownBy wr none) := hg
  clear ha hg
  by_cases hkn : k < l.length
  ·have hkn' : (k : Int) < l.length := by omega
   obtain ⟨b, o, rfl, _, hx⟩ := (HL.out wr HG.out).at hkn
   obtain ⟨a1, a2, a3, a4, k1, k2, k3, k4, he⟩ := hx.row
   have c0 := he.c0
   have c1 := he.c1
   have c2 := he.c2
   have c3 := he.c3
   have c4 := he.c4
   have c5 := he.c5
   have HC := HP.out l[k] (List.getElem_mem hkn) wr HG.out a1 a2 a3 a4 k1 k2 k3 k4 he.a he.b
   have HT : Hid (p l[k] = true → l.any p = true) := fun h => List.any_eq_true.2 ⟨_, List.getElem_mem hkn, h⟩
   have HF : Hid (p l[k] = false → (l.take (k + 1)).any p = false) := fun h => by rw [List.take_succ_eq_append_getElem hkn, List.any_append, HA.out]; simp [h]
   generalize l[k] = x at *
   clear he hx
   cases hv : p x
   ·rw [hv] at HC
    have HV : Hid (p x = false) := hv
    have HC2 : Hid (Calls Tryz.prog 97 #[stV x.op x.n a1 x.args.length k1 a2 x.dst.length k2 a3 x.a.length k3 a4 x.b.length k4] wr fun r w' => r = .returned (.bool false) ∧ wr.grownBy w' none) := HC
    clear HC hv
    obtain ⟨op, n0, args, dst, xa, xb⟩ := x
    simp only [Pg.St.op, Pg.St.n, Pg.St.args, Pg.St.dst, Pg.St.a, Pg.St.b] at c0 c1 c2 c3 c4 c5 HC2
    go_wp2_with (go_at_call 97; refine HC2.out.mono ?_; rintro e w4 ⟨rfl, hg4⟩; have HG4 : Hid (w.grownBy w4 none) := grown_trans HG.out hg4; clear hg4)
    go_roundw
    case rel => exact ⟨k + 1, by go_num, by omega, HF.out HV.out, HG4.out⟩
    case measure => simp [intOf]; omega
   ·rw [hv] at HC
    have HV : Hid (p x = true) := hv
    have HC2 : Hid (Calls Tryz.prog 97 #[stV x.op x.n a1 x.args.length k1 a2 x.dst.length k2 a3 x.a.length k3 a4 x.b.length k4] wr fun r w' => r = .returned (.bool true) ∧ wr.grownBy w' none) := HC
    clear HC hv
    obtain ⟨op, n0, args, dst, xa, xb⟩ := x
    simp only [Pg.St.op, Pg.St.n, Pg.St.args, Pg.St.dst, Pg.St.a, Pg.St.b] at c0 c1 c2 c3 c4 c5 HC2
    go_wp2_with (go_at_call 97; refine HC2.out.mono ?_; rintro e w4 ⟨rfl, hg4⟩; have HG4 : Hid (w.grownBy w4 none) := grown_trans HG.out hg4; clear hg4)
    go_ret
    exact ⟨_, rfl, HG4.out, by rw [HT.out HV.out]; simp⟩
  ·obtain rfl : k = l.length := by omega
   go_wp2
   go_ret
   have e1 := HA.out
   rw [List.take_length] at e1
   exact ⟨_, rfl, HG.out, by rw [e1]; rfl⟩
theorem ckConE {B : Nat → Prop} {w : World} {a : Option Addr} {c : Nat} {l : List Pg.St} {p : Pg.St → Bool} (hl : StL B w a c l) (hp : ∀ x, x ∈ l → ∀ W, w.grownBy W none → ∀ a1 a2 a3 a4 k1 k2 k3 k4, StL B W a3 k3 x.a → StL B W a4 k4 x.b → Calls Tryz.prog 97 #[stV x.op x.n a1 x.args.length k1 a2 x.dst.length k2 a3 x.a.length k3 a4 x.b.length k4] W fun r w' => r = .returned (.bool (p x)) ∧ W.grownBy w' none) :
  Calls Tryz.prog 96 #[.slice a l.length c, .func (.func 97) #[] #[]] w fun r w' => r = .returned (.bool (l.any p)) ∧ w.grownBy w' none := by
 have HI : Hid (Calls Tryz.prog 149 #[.slice a l.length c, .func (.func 97) #[] #[]] w fun r w' => ∃ q : Int, r = .returned (.int .i64 q) ∧ w.grownBy w' none ∧ decide (0 ≤ q) = l.any p) := ckIdxE hl hp
 clear hl hp
 generalize l.any p = z at *
 go_enter Tryz.func96, Tryz.ntmps96
 go_wp2_with (go_at_call 149; refine HI.out.mono ?_; rintro e w3 ⟨q, rfl, hg3, hq⟩; have HG3 : Hid (w.grownBy w3 none) := hg3; clear hg3)
 go_ret
 exact ⟨by rw [← hq]; first | rfl | simp, HG3.out⟩
theorem ckIdxL {B : Nat → Prop} {w : World} {a : Option Addr} {c : Nat} {l : List Pg.St} {p : Pg.St → Bool} {nb : Nat} (hl : StL B w a c l) (hp : ∀ x, x ∈ l → ∀ W, w.grownBy W none → ∀ a1 a2 a3 a4 k1 k2 k3 k4, StL B W a3 k3 x.a → StL B W a4 k4 x.b → Calls Tryz.prog 197 #[stV x.op x.n a1 x.args.length k1 a2 x.dst.length k2 a3 x.a.length k3 a4 x.b.length k4, .pointer (some ⟨nb, 0, none⟩)] W fun r w' => r = .returned (.bool (p x)) ∧ W.grownBy w' none) :
  Calls Tryz.prog 149 #[.slice a l.length c, .func (.func 197) #[] #[.pointer (some ⟨nb, 0, none⟩)]] w fun r w' => ∃ q : Int, r = .returned (.int .i64 q) ∧ w.grownBy w' none ∧ decide (0 ≤ q) = l.any p := by
 have hle := hl.le
 have hmx := hl.max
 unfold maxLen at hmx
 have HL : Hid (∀ W, w.grownBy W none → StL B W a c l) := fun W g => StL.grow9 hl g
 have HP : Hid (∀ x, x ∈ l → ∀ W, w.grownBy W none → ∀ a1 a2 a3 a4 k1 k2 k3 k4, StL B W a3 k3 x.a → StL B W a4 k4 x.b → Calls Tryz.prog 197 #[stV x.op x.n a1 x.args.length k1 a2 x.dst.length k2 a3 x.a.length k3 a4 x.b.length k4, .pointer (some ⟨nb, 0, none⟩)] W fun r w' => r = .returned (.bool (p x)) ∧ W.grownBy w' none) := hp
 clear hl hp
 go_enter Tryz.func149, Tryz.ntmps149
 go_wp2_with fail
 go_loopw [8] (fun ix wr => ∃ k : Nat, ix = .int .i64 k ∧ k ≤ l.length ∧ (l.take k).any p = false ∧ w.grownBy wr none) (fun ix _ => l.length - (intOf ix).toNat)
 case atStart => exact ⟨0, rfl, Nat.zero_le _, rfl, World.grownBy.refl _ _⟩
 case round =>
  obtain ⟨k, rfl, hk, ha, hg⟩ := hrel
  have HA : Hid ((l.take k).any p = false) := ha
  have HG : Hid (w.grownBy wr none) := hg
  clear ha hg
  by_cases hkn : k < l.length
  ·have hkn' : (k : Int) < l.length := by omega
   obtain ⟨b, o, rfl, _, hx⟩ := (HL.out wr HG.out).at hkn
   obtain ⟨a1, a2, a3, a4, k1, k2, k3, k4, he⟩ := hx.row
   have c0 := he.c0
   have c1 := he.c1
   have c2 := he.c2
   have c3 := he.c3
   have c4 := he.c4
   have c5 := he.c5
   have HC := HP.out l[k] (List.getElem_mem hkn) wr HG.out a1 a2 a3 a4 k1 k2 k3 k4 he.a he.b
   have HT : Hid (p l[k] = true → l.any p = true) := fun h => List.any_eq_true.2 ⟨_, List.getElem_mem hkn, h⟩
   have HF : Hid (p l[k] = false → (l.take (k + 1)).any p = false) := fun h => by rw [List.take_succ_eq_append_getElem hkn, List.any_append, HA.out]; simp [h]
   generalize l[k] = x at *
   clear he hx
   cases hv : p x
   ·rw [hv] at HC
    have HV : Hid (p x = false) := hv
    have HC2 : Hid (Calls Tryz.prog 197 #[stV x.op x.n a1 x.args.length k1 a2 x.dst.length k2 a3 x.a.length k3 a4 x.b.length k4, .pointer (some ⟨nb, 0, none⟩)] wr fun r w' => r = .returned (.bool false) ∧ wr.grownBy w' none) := HC
    clear HC hv
    obtain ⟨op, n0, args, dst, xa, xb⟩ := x
    simp only [Pg.St.op, Pg.St.n, Pg.St.args, Pg.St.dst, Pg.St.a, Pg.St.b] at c0 c1 c2 c3 c4 c5 HC2
    go_wp2_with (go_at_call 197; refine HC2.out.mono ?_; rintro e w4 ⟨rfl, hg4⟩; have HG4 : Hid (w.grownBy w4 none) := grown_trans HG.out hg4; clear hg4)
    go_roundw
    case rel => exact ⟨k + 1, by go_num, by omega, HF.out HV.out, HG4.out⟩
    case measure => simp [intOf]; omega
   ·rw [hv] at HC
    have HV : Hid (p x = true) := hv
    have HC2 : Hid (Calls Tryz.prog 197 #[stV x.op x.n a1 x.args.length k1 a2 x.dst.length k2 a3 x.a.length k3 a4 x.b.length k4, .pointer (some ⟨nb, 0, none⟩)] wr fun r w' => r = .returned (.bool true) ∧ wr.grownBy w' none) := HC
    clear HC hv
    obtain ⟨op, n0, args, dst, xa, xb⟩ := x
    simp only [Pg.St.op, Pg.St.n, Pg.St.args, Pg.St.dst, Pg.St.a, Pg.St.b] at c0 c1 c2 c3 c4 c5 HC2
    go_wp2_with (go_at_call 197; refine HC2.out.mono ?_; rintro e w4 ⟨rfl, hg4⟩; have HG4 : Hid (w.grownBy w4 none) := grown_trans HG.out hg4; clear hg4)
    go_ret
    exact ⟨_, rfl, HG4.out, by rw [HT.out HV.out]; simp⟩
  ·obtain rfl : k = l.length := by omega
   go_wp2
   go_ret
   have e1 := HA.out
   rw [List.take_length] at e1
   exact ⟨_, rfl, HG.out, by rw [e1]; rfl⟩
theorem ckConL {B : Nat → Prop} {w : World} {a : Option Addr} {c : Nat} {l : List Pg.St} {p : Pg.St → Bool} {nb : Nat} (hl : StL B w a c l) (hp : ∀ x, x ∈ l → ∀ W, w.grownBy W none → ∀ a1 a2 a3 a4 k1 k2 k3 k4, StL B W a3 k3 x.a → StL B W a4 k4 x.b → Calls Tryz.prog 197 #[stV x.op x.n a1 x.args.length k1 a2 x.dst.length k2 a3 x.a.length k3 a4 x.b.length k4, .pointer (some ⟨nb, 0, none⟩)] W fun r w' => r = .returned (.bool (p x)) ∧ W.grownBy w' none) :
  Calls Tryz.prog 96 #[.slice a l.length c, .func (.func 197) #[] #[.pointer (some ⟨nb, 0, none⟩)]] w fun r w' => r = .returned (.bool (l.any p)) ∧ w.grownBy w' none := by
 have HI : Hid (Calls Tryz.prog 149 #[.slice a l.length c, .func (.func 197) #[] #[.pointer (some ⟨nb, 0, none⟩)]] w fun r w' => ∃ q : Int, r = .returned (.int .i64 q) ∧ w.grownBy w' none ∧ decide (0 ≤ q) = l.any p) := ckIdxL hl hp
 clear hl hp
 generalize l.any p = z at *
 go_enter Tryz.func96, Tryz.ntmps96
 go_wp2_with (go_at_call 149; refine HI.out.mono ?_; rintro e w3 ⟨q, rfl, hg3, hq⟩; have HG3 : Hid (w.grownBy w3 none) := hg3; clear hg3)
 go_ret
 exact ⟨by rw [← hq]; first | rfl | simp, HG3.out⟩
def LvX (x : Pg.St) : Prop := ∀ (B : Nat → Prop) (w : World) (n : Int) (nb : Nat) (a1 a2 a3 a4 : Option Addr) (k1 k2 k3 k4 : Nat), StL B w a3 k3 x.a → StL B w a4 k4 x.b → w.cell? ⟨nb, 0, none⟩ = some (.int .i64 n) → 0 ≤ n → n + x.dl.dp < 1000000000 →
 Calls Tryz.prog 197 #[stV x.op x.n a1 x.args.length k1 a2 x.dst.length k2 a3 x.a.length k3 a4 x.b.length k4, .pointer (some ⟨nb, 0, none⟩)] w fun r w' => r = .returned (.bool (Ck.lv n x)) ∧ w.grownBy w' none
theorem dp_mem {l : List Pg.St} {x : Pg.St} (h : x ∈ l) : x.dl.dp ≤ (Pg.dCat Pg.St.dl l).dp := by
 induction l with
 | nil => simp at h
 | cons y l ih =>
  simp only [Pg.dCat, Pg.Dl.app]
  rcases List.mem_cons.1 h with rfl | h
  ·omega
  ·have := ih h; omega
theorem ckLeaves (l : List Pg.St) (ih : ∀ y, y ∈ l → LvX y) {B : Nat → Prop} {w : World} {a : Option Addr} {c : Nat} {n : Int} (hl : StL B w a c l) (h0 : 0 ≤ n) (h1 : n + (Pg.dCat Pg.St.dl l).dp < 1000000000) :
  Calls Tryz.prog 150 #[.slice a l.length c, .int .i64 n] w fun r w' => r = .returned (.bool (Ck.lvs n l)) ∧ w.grownBy w' none := by
 have g1 : w.grownBy (w.alloc (Obj.cells #[.int .i64 n] 2)) none := World.grownBy_alloc _ _ _
 have kb : Bk (w.alloc (Obj.cells #[.int .i64 n] 2)) w.heap.size 2 [.int .i64 n] := Bk.new _ _ _
 have HC : Hid (Calls Tryz.prog 96 #[.slice a l.length c, .func (.func 197) #[] #[.pointer (some ⟨w.heap.size, 0, none⟩)]] (w.alloc (Obj.cells #[.int .i64 n] 2)) fun r w' => r = .returned (.bool (Ck.lvs n l)) ∧ w.grownBy w' none) := by
  rw [Ck.lvs_any]
  refine Calls.mono (ckConL (p := Ck.lv n) (nb := w.heap.size) (StL.grow9 hl g1) (fun x hx W g a1 a2 a3 a4 k1 k2 k3 k4 ha hb => ih x hx B W n _ a1 a2 a3 a4 k1 k2 k3 k4 ha hb ((kb.grow g).cell (i := 0) rfl) h0 (by have := dp_mem hx; omega))) fun r w' h => ⟨h.1, grown_trans g1 h.2⟩
 clear g1 kb hl ih
 generalize Ck.lvs n l = z at *
 go_enter Tryz.func150, Tryz.ntmps150
 go_wp2_with (go_at_call 96; refine HC.out.mono ?_; rintro e w3 ⟨rfl, hg3⟩; have HG3 : Hid (w.grownBy w3 none) := hg3; clear hg3)
 go_ret
 exact ⟨rfl, HG3.out⟩
theorem ckLv_one {op m : Int} {args : List Pg.Ex} {dst : List Int} {xa xb : List Pg.St} (iha : ∀ y, y ∈ xa → LvX y) (ihb : ∀ y, y ∈ xb → LvX y) : LvX (.mk op m args dst xa xb) := by
 intro B w n nb a1 a2 a3 a4 k1 k2 k3 k4 hsa hsb hnc h0 h1
 have e1 := (Pg.St.nd_eq (.mk op m args dst xa xb)).2
 simp only [Pg.St.op, Pg.St.n, Pg.St.args, Pg.St.dst, Pg.St.a, Pg.St.b] at hsa hsb e1 ⊢
 have g1 : w.grownBy (w.alloc (Obj.cells #[.int .i64 op, .int .i64 m, .slice a1 args.length k1, .slice a2 dst.length k2, .slice a3 xa.length k3, .slice a4 xb.length k4] 51)) none := World.grownBy_alloc _ _ _
 have kb : Bk (w.alloc (Obj.cells #[.int .i64 op, .int .i64 m, .slice a1 args.length k1, .slice a2 dst.length k2, .slice a3 xa.length k3, .slice a4 xb.length k4] 51)) w.heap.size 51 [.int .i64 op, .int .i64 m, .slice a1 args.length k1, .slice a2 dst.length k2, .slice a3 xa.length k3, .slice a4 xb.length k4] := Bk.new _ _ _
 have x0 := kb.cell (i := 0) rfl
 have x1 := kb.cell (i := 1) rfl
 have x4 := kb.cell (i := 4) rfl
 have xn := g1.cell hnc (by simp)
 have hn9 : n ≤ 1000000000 := by omega
 have HG1 : Hid (w.grownBy (w.alloc (Obj.cells #[.int .i64 op, .int .i64 m, .slice a1 args.length k1, .slice a2 dst.length k2, .slice a3 xa.length k3, .slice a4 xb.length k4] 51)) none) := g1
 have HX : Hid (∀ W, (w.alloc (Obj.cells #[.int .i64 op, .int .i64 m, .slice a1 args.length k1, .slice a2 dst.length k2, .slice a3 xa.length k3, .slice a4 xb.length k4] 51)).grownBy W none → W.cell? ⟨w.heap.size, 5, none⟩ = some (.slice a4 xb.length k4) ∧ W.cell? ⟨nb, 0, none⟩ = some (.int .i64 n)) := fun W g => ⟨(kb.grow g).cell (i := 5) rfl, (grown_trans g1 g).cell hnc (by simp)⟩
 have HLa : Hid (∀ q : Int, 0 ≤ q → q ≤ n + 1 → ∀ W, w.grownBy W none → Calls Tryz.prog 150 #[.slice a3 xa.length k3, .int .i64 q] W fun r w' => r = .returned (.bool (Ck.lvs q xa)) ∧ W.grownBy w' none) := fun q hq0 hq W g => ckLeaves xa iha (StL.grow9 hsa g) hq0 (by omega)
 have HLb : Hid (∀ W, w.grownBy W none → Calls Tryz.prog 150 #[.slice a4 xb.length k4, .int .i64 n] W fun r w' => r = .returned (.bool (Ck.lvs n xb)) ∧ W.grownBy w' none) := fun W g => ckLeaves xb ihb (StL.grow9 hsb g) h0 (by omega)
 obtain ⟨R, hR⟩ : ∃ R, R = Ck.lv n (.mk op m args dst xa xb) := ⟨_, rfl⟩
 have HR : Hid (R = if op = 5 then m == n else if op = 4 then Ck.lvs (n + 1) xa else Ck.lvs n xa || Ck.lvs n xb) := by show _ = _; rw [hR, Ck.lv]
 rw [← hR]
 clear hR iha ihb hsa hsb e1 h1 kb g1 hnc
 by_cases h5 : op = 5
 ·have q5 : (op == 5) = true := by simpa using h5
  have HR2 : Hid (R = (m == n)) := by show _ = _; rw [HR.out, if_pos h5]
  clear HR h5
  go_enter Tryz.func197, Tryz.ntmps197
  go_wp2
  go_ret
  exact ⟨by rw [HR2.out]; rfl, HG1.out⟩
 ·have q5 : (op == 5) = false := by simpa using h5
  by_cases h4 : op = 4
  ·have q4 : (op == 4) = true := by simpa using h4
   have HR2 : Hid (R = Ck.lvs (n + 1) xa) := by show _ = _; rw [HR.out, if_neg h5, if_pos h4]
   have HL1 : Hid (Calls Tryz.prog 150 #[.slice a3 xa.length k3, .int .i64 (n + 1)] (w.alloc (Obj.cells #[.int .i64 op, .int .i64 m, .slice a1 args.length k1, .slice a2 dst.length k2, .slice a3 xa.length k3, .slice a4 xb.length k4] 51)) fun r w' => r = .returned (.bool R) ∧ w.grownBy w' none) := by rw [HR2.out]; exact Calls.mono (HLa.out (n + 1) (by omega) (by omega) _ HG1.out) fun r w' h => ⟨h.1, grown_trans HG1.out h.2⟩
   clear HR h5 h4 HLa HLb
   go_enter Tryz.func197, Tryz.ntmps197
   go_wp2_with (go_at_call 150; refine HL1.out.mono ?_; rintro e w3 ⟨rfl, hg3⟩; have HG3 : Hid (w.grownBy w3 none) := hg3; clear hg3)
   go_ret
   exact ⟨rfl, HG3.out⟩
  ·have q4 : (op == 4) = false := by simpa using h4
   have HR2 : Hid (R = (Ck.lvs n xa || Ck.lvs n xb)) := by show _ = _; rw [HR.out, if_neg h5, if_neg h4]
   have HL1 : Hid (Calls Tryz.prog 150 #[.slice a3 xa.length k3, .int .i64 n] (w.alloc (Obj.cells #[.int .i64 op, .int .i64 m, .slice a1 args.length k1, .slice a2 dst.length k2, .slice a3 xa.length k3, .slice a4 xb.length k4] 51)) fun r w' => r = .returned (.bool (Ck.lvs n xa)) ∧ (w.alloc (Obj.cells #[.int .i64 op, .int .i64 m, .slice a1 args.length k1, .slice a2 dst.length k2, .slice a3 xa.length k3, .slice a4 xb.length k4] 51)).grownBy w' none) := HLa.out n (by omega) (by omega) _ HG1.out
   clear HR h5 h4 HLa
   generalize Ck.lvs n xa = za at *
   generalize Ck.lvs n xb = zb at *
   cases za
   all_goals
    go_enter Tryz.func197, Tryz.ntmps197
    go_wp2_with (first | (go_at_call 150; refine HL1.out.mono ?_; rintro e w3 ⟨rfl, hg3⟩; have HG3 : Hid (w.grownBy w3 none) := grown_trans HG1.out hg3; have hx := HX.out w3 hg3; have y5 := hx.1; have yn := hx.2; clear hg3 HL1 hx) | (go_at_call 150; refine (HLb.out _ HG3.out).mono ?_; rintro e w4 ⟨rfl, hg4⟩; have HG4 : Hid (w.grownBy w4 none) := grown_trans HG3.out hg4; clear hg4))
    go_ret
   ·exact ⟨by rw [HR2.out]; first | rfl | simp, HG4.out⟩
   ·exact ⟨by rw [HR2.out]; first | rfl | simp, HG3.out⟩
theorem ckLv (x : Pg.St) : LvX x := Pg.St.ind (P := LvX) (fun op n args dst a b iha ihb => ckLv_one iha ihb) x
def EnX (x : Pg.St) : Prop := ∀ (B : Nat → Prop) (w : World) (a1 a2 a3 a4 : Option Addr) (k1 k2 k3 k4 : Nat), StL B w a3 k3 x.a → StL B w a4 k4 x.b → x.dl.dp < 1000000000 →
 Calls Tryz.prog 97 #[stV x.op x.n a1 x.args.length k1 a2 x.dst.length k2 a3 x.a.length k3 a4 x.b.length k4] w fun r w' => r = .returned (.bool (Ck.en x)) ∧ w.grownBy w' none
theorem ckEnds (l : List Pg.St) (ih : ∀ y, y ∈ l → EnX y) {B : Nat → Prop} {w : World} {a : Option Addr} {c : Nat} (hl : StL B w a c l) (h1 : (Pg.dCat Pg.St.dl l).dp < 1000000000) :
  Calls Tryz.prog 60 #[.slice a l.length c] w fun r w' => r = .returned (.bool (Ck.ens l)) ∧ w.grownBy w' none := by
 have HC : Hid (Calls Tryz.prog 96 #[.slice a l.length c, .func (.func 97) #[] #[]] w fun r w' => r = .returned (.bool (Ck.ens l)) ∧ w.grownBy w' none) := by
  rw [Ck.ens_any]
  exact ckConE (p := Ck.en) hl (fun x hx W g a1 a2 a3 a4 k1 k2 k3 k4 ha hb => ih x hx B W a1 a2 a3 a4 k1 k2 k3 k4 ha hb (by have := dp_mem hx; omega))
 clear hl ih
 generalize Ck.ens l = z at *
 go_enter Tryz.func60, Tryz.ntmps60
 go_wp2_with (go_at_call 96; refine HC.out.mono ?_; rintro e w3 ⟨rfl, hg3⟩; have HG3 : Hid (w.grownBy w3 none) := hg3; clear hg3)
 go_ret
 exact ⟨rfl, HG3.out⟩
theorem ckEn_one {op m : Int} {args : List Pg.Ex} {dst : List Int} {xa xb : List Pg.St} (iha : ∀ y, y ∈ xa → EnX y) (ihb : ∀ y, y ∈ xb → EnX y) : EnX (.mk op m args dst xa xb) := by
 intro B w a1 a2 a3 a4 k1 k2 k3 k4 hsa hsb h1
 have e1 := (Pg.St.nd_eq (.mk op m args dst xa xb)).2
 simp only [Pg.St.op, Pg.St.n, Pg.St.args, Pg.St.dst, Pg.St.a, Pg.St.b] at hsa hsb e1 ⊢
 have g1 : w.grownBy (w.alloc (Obj.cells #[.int .i64 op, .int .i64 m, .slice a1 args.length k1, .slice a2 dst.length k2, .slice a3 xa.length k3, .slice a4 xb.length k4] 51)) none := World.grownBy_alloc _ _ _
 have kb : Bk (w.alloc (Obj.cells #[.int .i64 op, .int .i64 m, .slice a1 args.length k1, .slice a2 dst.length k2, .slice a3 xa.length k3, .slice a4 xb.length k4] 51)) w.heap.size 51 [.int .i64 op, .int .i64 m, .slice a1 args.length k1, .slice a2 dst.length k2, .slice a3 xa.length k3, .slice a4 xb.length k4] := Bk.new _ _ _
 have x0 := kb.cell (i := 0) rfl
 have x4 := kb.cell (i := 4) rfl
 have HG1 : Hid (w.grownBy (w.alloc (Obj.cells #[.int .i64 op, .int .i64 m, .slice a1 args.length k1, .slice a2 dst.length k2, .slice a3 xa.length k3, .slice a4 xb.length k4] 51)) none) := g1
 have HX : Hid (∀ W, (w.alloc (Obj.cells #[.int .i64 op, .int .i64 m, .slice a1 args.length k1, .slice a2 dst.length k2, .slice a3 xa.length k3, .slice a4 xb.length k4] 51)).grownBy W none → W.cell? ⟨w.heap.size, 5, none⟩ = some (.slice a4 xb.length k4)) := fun W g => (kb.grow g).cell (i := 5) rfl
 have HL : Hid (Calls Tryz.prog 150 #[.slice a3 xa.length k3, .int .i64 0] (w.alloc (Obj.cells #[.int .i64 op, .int .i64 m, .slice a1 args.length k1, .slice a2 dst.length k2, .slice a3 xa.length k3, .slice a4 xb.length k4] 51)) fun r w' => r = .returned (.bool (Ck.lvs 0 xa)) ∧ (w.alloc (Obj.cells #[.int .i64 op, .int .i64 m, .slice a1 args.length k1, .slice a2 dst.length k2, .slice a3 xa.length k3, .slice a4 xb.length k4] 51)).grownBy w' none) := ckLeaves xa (fun y _ => ckLv y) (StL.grow9 hsa g1) (by omega) (by omega)
 have HEa : Hid (Calls Tryz.prog 60 #[.slice a3 xa.length k3] (w.alloc (Obj.cells #[.int .i64 op, .int .i64 m, .slice a1 args.length k1, .slice a2 dst.length k2, .slice a3 xa.length k3, .slice a4 xb.length k4] 51)) fun r w' => r = .returned (.bool (Ck.ens xa)) ∧ (w.alloc (Obj.cells #[.int .i64 op, .int .i64 m, .slice a1 args.length k1, .slice a2 dst.length k2, .slice a3 xa.length k3, .slice a4 xb.length k4] 51)).grownBy w' none) := ckEnds xa iha (StL.grow9 hsa g1) (by omega)
 have HEb : Hid (∀ W, w.grownBy W none → Calls Tryz.prog 60 #[.slice a4 xb.length k4] W fun r w' => r = .returned (.bool (Ck.ens xb)) ∧ W.grownBy w' none) := fun W g => ckEnds xb ihb (StL.grow9 hsb g) (by omega)
 obtain ⟨R, hR⟩ : ∃ R, R = Ck.en (.mk op m args dst xa xb) := ⟨_, rfl⟩
 have HR : Hid (R = if op = 7 ∨ op = 9 ∨ op = 5 ∨ op = 6 then true else if op = 3 then Ck.ens xa && Ck.ens xb else if op = 4 then !Ck.lvs 0 xa else false) := by show _ = _; rw [hR, Ck.en]
 rw [← hR]
 clear hR iha ihb hsa hsb e1 h1 kb g1
 by_cases h7 : op = 7 ∨ op = 9 ∨ op = 5 ∨ op = 6
 ·have HR2 : Hid (R = true) := by show _ = _; rw [HR.out, if_pos h7]
  clear HR
  rcases h7 with rfl | rfl | rfl | rfl
  all_goals
   go_enter Tryz.func97, Tryz.ntmps97
   go_wp2
   go_ret
   exact ⟨by rw [HR2.out]; rfl, HG1.out⟩
 ·have q7 : (op == 7) = false := by simp; omega
  have q9 : (op == 9) = false := by simp; omega
  have q5 : (op == 5) = false := by simp; omega
  have q6 : (op == 6) = false := by simp; omega
  by_cases h3 : op = 3
  ·have q3 : (op == 3) = true := by simpa using h3
   have HR2 : Hid (R = (Ck.ens xa && Ck.ens xb)) := by show _ = _; rw [HR.out, if_neg h7, if_pos h3]
   clear HR h7 h3 HL
   generalize Ck.ens xa = za at *
   generalize Ck.ens xb = zb at *
   cases za
   all_goals
    go_enter Tryz.func97, Tryz.ntmps97
    go_wp2_with (first | (go_at_call 60; refine HEa.out.mono ?_; rintro e w3 ⟨rfl, hg3⟩; have HG3 : Hid (w.grownBy w3 none) := grown_trans HG1.out hg3; have y5 := HX.out w3 hg3; clear hg3 HEa) | (go_at_call 60; refine (HEb.out _ HG3.out).mono ?_; rintro e w4 ⟨rfl, hg4⟩; have HG4 : Hid (w.grownBy w4 none) := grown_trans HG3.out hg4; clear hg4))
    go_ret
   ·exact ⟨by rw [HR2.out]; first | rfl | simp, HG3.out⟩
   ·exact ⟨by rw [HR2.out]; first | rfl | simp, HG4.out⟩
  ·have q3 : (op == 3) = false := by simpa using h3
   by_cases h4 : op = 4
   ·have q4 : (op == 4) = true := by simpa using h4
    have HR2 : Hid (R = !Ck.lvs 0 xa) := by show _ = _; rw [HR.out, if_neg h7, if_neg h3, if_pos h4]
    clear HR h7 h3 h4 HEa HEb
    generalize Ck.lvs 0 xa = za at *
    go_enter Tryz.func97, Tryz.ntmps97
    go_wp2_with (go_at_call 150; refine HL.out.mono ?_; rintro e w3 ⟨rfl, hg3⟩; have HG3 : Hid (w.grownBy w3 none) := grown_trans HG1.out hg3; clear hg3)
    go_ret
    exact ⟨by rw [HR2.out]; first | rfl | simp, HG3.out⟩
   ·have q4 : (op == 4) = false := by simpa using h4
    have HR2 : Hid (R = false) := by show _ = _; rw [HR.out, if_neg h7, if_neg h3, if_neg h4]
    clear HR h7 h3 h4
    go_enter Tryz.func97, Tryz.ntmps97
    go_wp2
    go_ret
    exact ⟨by rw [HR2.out]; rfl, HG1.out⟩
theorem ckEn (x : Pg.St) : EnX x := Pg.St.ind (P := EnX) (fun op n args dst a b iha ihb => ckEn_one iha ihb) x
end Go.Proofs.YtpcgkggpmipiaaaGreat
