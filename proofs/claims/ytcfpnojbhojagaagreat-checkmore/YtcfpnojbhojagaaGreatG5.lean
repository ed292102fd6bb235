/- Contracts and plain facts that the walks share. -/
import Derived.Test.YtcfpnojbhojagaaGreatG4
namespace Go.Proofs.YtcfpnojbhojagaaGreat
set_option maxRecDepth 100000
set_option maxHeartbeats 32000000
open Go.RowKit
set_option linter.unusedVariables false
theorem put_txt {base : Nat} {w w4 : World} {B : Nat} {s : Ws} {bs : List Int} {D : Pg.Dl} (h : WrP base w B s bs D w4) {x : ByteArray} {cap : Nat} {fr : Nat × Nat} (hr : Rm s bs (D.app ⟨true, 0, 0, Pg.txt x⟩)) :
  Calls Tryz.prog 228 #[.pointer (some ⟨B, 0, none⟩), .slice (some ⟨w4.heap.size, 0, none⟩) x.size cap] (w4.alloc (.cells (bytesRow x cap) 5 fr)).drew fun e w' => e = .returned (.tuple #[]) ∧ WrP base w B s bs (D.app ⟨true, 0, 0, Pg.txt x⟩) w' := by
 have hg : w4.grownBy (w4.alloc (.cells (bytesRow x cap) 5 fr)).drew none := grown_drew (World.grownBy_alloc _ _ _)
 refine (h.grow hg).call hr (fun s' bs' hw hr => ?_)
 have := put_any (g := w4.heap.size) (c := cap) (m := Pg.txt x) hw (fun j z hj => ?_) hr.2.2
 ·rw [Pg.txt_len] at this
  exact this
 ·have hj' : j < x.size := by
   have := (List.getElem?_eq_some_iff.1 hj).1
   rwa [Pg.txt_len] at this
  show (w4.alloc (.cells (bytesRow x cap) 5 fr)).cell? ⟨w4.heap.size, j, none⟩ = _
  rw [World.cell?_alloc_mark]
  unfold bytesRow
  rw [Array.getElem?_append_left (by simpa using hj')]
  rw [Pg.txt, List.getElem?_map] at hj
  rw [Array.getElem?_map]
  rw [Array.getElem?_toList] at hj
  obtain ⟨b, hb, rfl⟩ := Option.map_eq_some_iff.1 hj
  rw [hb]
  rfl
theorem text_any {base : Nat} {w : World} {B : Nat} {s : Ws} {bs : List Int} (h : Wr base w B s bs) {x : ByteArray} (hr : Rm s bs (Pg.dTxt x)) :
  Calls Tryz.prog 229 #[.pointer (some ⟨B, 0, none⟩), .string x] w fun e w' => e = .returned (.tuple #[]) ∧ WrP base w B s bs (Pg.dTxt x) w' := by
 by_cases hx : x.size ≤ 256
 ·have e : Pg.dTxt x = (Pg.dCnt (x.size : Int)).app ⟨true, 0, 0, Pg.txt x⟩ := by
   have : Pg.okB (x.size : Int) = true := by simp [Pg.okB]; omega
   simp [Pg.dTxt, hx, Pg.dCnt, this, Pg.Dl.app]
  rw [e] at hr ⊢
  have HR : Hid (Rm s bs ((Pg.dCnt (x.size : Int)).app ⟨true, 0, 0, Pg.txt x⟩)) := hr
  have r1 : Rm s bs (Pg.dCnt (x.size : Int)) := by
   obtain ⟨r1, r2, r3⟩ := hr
   simp only [Pg.Dl.app, List.length_append] at r1 r2 r3
   exact ⟨by omega, by omega, by omega⟩
  have HC := count_any h r1
  have d1 : decide (256 < (x.size : Int)) = false := decide_eq_false (by omega)
  have d2 : ¬ (256 < (x.size : Int)) := by omega
  have hcv := fun W => run_bytes_of_string (P := Tryz.prog) W 9 36 5 x (by kernel_rfl) (by kernel_rfl) (by kernel_rfl)
  clear e h hr r1
  go_enter Tryz.func229, Tryz.ntmps229
  go_wp2_with (first
   | (go_at_call 180; refine HC.mono ?_; rintro e w4 ⟨rfl, h4⟩; have H4 : Hid (WrP base w B s bs (Pg.dCnt (x.size : Int)) w4) := h4; clear h4)
   | (go_at_call 228; refine (put_txt H4.out HR.out).mono ?_; rintro e w5 ⟨rfl, h5⟩; have H5 := h5; clear h5))
  first | go_end0 | go_returns
  exact ⟨rfl, H5⟩
 ·have e : Pg.dTxt x = ⟨false, 0, 0, []⟩ := by simp [Pg.dTxt, hx]
  rw [e]
  have HC := h.no
  obtain ⟨h1', h2, h3, v, h4, h5⟩ := h
  have f1 : w.frozen? ⟨B, 1, none⟩ = false := frozen_heap h4 1
  have c1 : w.cell? ⟨B, 1, none⟩ = some (.bool s.no) := cell_heap h4 1
  have d1 : decide (256 < (x.size : Int)) = true := decide_eq_true (by omega)
  have d2 : 256 < (x.size : Int) := by omega
  clear e hr h1' h2 h3 h4 h5
  go_enter Tryz.func229, Tryz.ntmps229
  go_wp2
  first | go_end0 | go_returns
  exact ⟨rfl, HC⟩
theorem wNums {base : Nat} {w : World} {B : Nat} {s : Ws} {bs : List Int} (h : Wr base w B s bs) {l : List Int} (hr : Rm s bs ((Pg.dCnt l.length).app (Pg.dCat Pg.dCnt l))) {a : Option Addr} {c : Nat} (hL : NumL (fun k => k < base) w a c l) :
  Calls Tryz.prog 181 #[.pointer (some ⟨B, 0, none⟩), .slice a l.length c, .func (.func 180) #[.pointer (some ⟨B, 0, none⟩)] #[]] w fun e w' => e = .returned (.tuple #[]) ∧ WrP base w B s bs ((Pg.dCnt l.length).app (Pg.dCat Pg.dCnt l)) w' := by
 have hle := hL.le
 have hmx := hL.max
 unfold maxLen at hmx
 have HL : Hid (NumL (fun k => k < base) w a c l) := hL
 have HR : Hid (∀ k, k ≤ l.length → Rm s bs ((Pg.dCnt l.length).app (Pg.dCat Pg.dCnt (l.take k)))) := by
  intro k _
  obtain ⟨r1, r2, r3⟩ := hr
  obtain ⟨q1, q2, q3, _⟩ := Pg.dCat_le Pg.dCnt l k
  simp only [Pg.Dl.app, List.length_append] at r1 r2 r3
  refine ⟨?_, ?_, ?_⟩
  ·show s.nd + ((Pg.dCnt l.length).nd + _) < _; omega
  ·show s.dp + max (Pg.dCnt l.length).dp _ < _; omega
  ·show bs.length + ((Pg.dCnt l.length).en ++ _).length ≤ _
   rw [List.length_append]; omega
 have HC := count_any h (n := (l.length : Int)) (by
  have := HR.out 0 (Nat.zero_le _)
  rw [List.take_zero, Pg.dCat, Pg.Dl.app_nil] at this
  exact this)
 clear h hr hL
 go_enter Tryz.func181, Tryz.ntmps181
 go_wp2_with (go_at_call 180; refine HC.mono ?_; rintro e w4 ⟨rfl, h4⟩; have H4 : Hid (WrP base w B s bs (Pg.dCnt (l.length : Int)) w4) := h4; clear h4)
 clear HC
 go_loopw [14] (fun ix wr => ∃ k : Nat, ix = .int .i64 k ∧ k ≤ l.length ∧ WrP base w B s bs ((Pg.dCnt l.length).app (Pg.dCat Pg.dCnt (l.take k))) wr) (fun ix _ => l.length - (intOf ix).toNat)
 case atStart => exact ⟨0, rfl, Nat.zero_le _, by rw [List.take_zero, Pg.dCat, Pg.Dl.app_nil]; exact H4.out⟩
 case round =>
  obtain ⟨k, rfl, hk, hp⟩ := hrel
  have HP : Hid (WrP base w B s bs ((Pg.dCnt l.length).app (Pg.dCat Pg.dCnt (l.take k))) wr) := hp
  by_cases hkn : k < l.length
  case neg =>
   obtain rfl : k = l.length := by omega
   clear hp
   go_wp2
   first | go_end0 | go_returns
   have := HP.out
   rw [List.take_length] at this
   exact ⟨rfl, this⟩
  have hkn' : (k : Int) < l.length := by omega
  have hrow : NumL (fun k => k < base) wr a c l := NumL.ch HL.out hp.1.ch (fun k hk => not_range hk) (fun _ h => h)
  obtain ⟨b, o, rfl, hb, hx⟩ := hrow.at hkn
  have HR1 : Hid (Rm s bs (((Pg.dCnt l.length).app (Pg.dCat Pg.dCnt (l.take k))).app (Pg.dCnt l[k]))) := by
   have := HR.out (k + 1) (by omega)
   rw [Pg.dCat_succ _ hkn, ← Pg.Dl.app_assoc] at this
   exact this
  have HS : Hid ((Pg.dCnt l.length).app (Pg.dCat Pg.dCnt (l.take (k + 1))) = ((Pg.dCnt l.length).app (Pg.dCat Pg.dCnt (l.take k))).app (Pg.dCnt l[k])) := by
   show _ = _
   rw [Pg.dCat_succ _ hkn, ← Pg.Dl.app_assoc]
  have c0 : wr.cell? ⟨b, o + k, none⟩ = some (.int .i64 l[k]) := by rw [Nat.mul_one] at hx; exact hx
  have HC : Hid (Calls Tryz.prog 180 #[.pointer (some ⟨B, 0, none⟩), .int .i64 l[k]] wr fun e w' => e = .returned (.tuple #[]) ∧ WrP base w B s bs (((Pg.dCnt l.length).app (Pg.dCat Pg.dCnt (l.take k))).app (Pg.dCnt l[k])) w') := hp.call HR1.out (fun s' bs' hw hr => count_any hw hr)
  clear hp hx hrow
  generalize l[k] = x at *
  go_wp2_with (go_at_call 180; refine HC.out.mono ?_; rintro e w5 ⟨rfl, h5⟩; have H5 : Hid (WrP base w B s bs (((Pg.dCnt l.length).app (Pg.dCat Pg.dCnt (l.take k))).app (Pg.dCnt x)) w5) := h5; clear h5)
  go_roundw
  case rel => exact ⟨k + 1, by go_num, by omega, by rw [HS.out]; exact H5.out⟩
  case measure => simp [intOf]; omega
def TermOk (x : Pg.Ex) : Prop := ∀ (base : Nat) (w : World) (B : Nat) (s : Ws) (bs : List Int) (a1 : Option Addr) (k1 : Nat), Wr base w B s bs → Rm s bs x.dl → R64 x.n → ExL (fun k => k < base) w a1 k1 x.args →
 Calls Tryz.prog 213 #[.pointer (some ⟨B, 0, none⟩), .agg #[.int .i64 x.op, .int .i64 x.t, .int .i64 x.n, .string x.s, .slice a1 x.args.length k1]] w fun e w' => e = .returned (.tuple #[]) ∧ WrP base w B s bs x.dl w'
theorem wEs_list {base : Nat} {w : World} {B : Nat} {s : Ws} {bs : List Int} (h : Wr base w B s bs) {l : List Pg.Ex} (hr : Rm s bs ((Pg.dCnt l.length).app (Pg.dCat Pg.Ex.dl l))) {a : Option Addr} {c : Nat} (hL : ExL (fun k => k < base) w a c l) (ih : ∀ x, x ∈ l → TermOk x) :
  Calls Tryz.prog 212 #[.pointer (some ⟨B, 0, none⟩), .slice a l.length c, .func (.func 213) #[.pointer (some ⟨B, 0, none⟩)] #[]] w fun e w' => e = .returned (.tuple #[]) ∧ WrP base w B s bs ((Pg.dCnt l.length).app (Pg.dCat Pg.Ex.dl l)) w' := by
 have hle := hL.le
 have hmx := hL.max
 unfold maxLen at hmx
 have HL : Hid (ExL (fun k => k < base) w a c l) := hL
 have HR : Hid (∀ k, k ≤ l.length → Rm s bs ((Pg.dCnt l.length).app (Pg.dCat Pg.Ex.dl (l.take k)))) := by
  intro k _
  obtain ⟨r1, r2, r3⟩ := hr
  obtain ⟨q1, q2, q3, _⟩ := Pg.dCat_le Pg.Ex.dl l k
  simp only [Pg.Dl.app, List.length_append] at r1 r2 r3
  refine ⟨?_, ?_, ?_⟩
  ·show s.nd + ((Pg.dCnt l.length).nd + _) < _; omega
  ·show s.dp + max (Pg.dCnt l.length).dp _ < _; omega
  ·show bs.length + ((Pg.dCnt l.length).en ++ _).length ≤ _
   rw [List.length_append]; omega
 have HI : Hid (∀ x, x ∈ l → TermOk x) := ih
 have HC := count_any h (n := (l.length : Int)) (by
  have := HR.out 0 (Nat.zero_le _)
  rw [List.take_zero, Pg.dCat, Pg.Dl.app_nil] at this
  exact this)
 clear h hr hL ih
 go_enter Tryz.func212, Tryz.ntmps212
 go_wp2_with (go_at_call 180; refine HC.mono ?_; rintro e w4 ⟨rfl, h4⟩; have H4 : Hid (WrP base w B s bs (Pg.dCnt (l.length : Int)) w4) := h4; clear h4)
 clear HC
 go_loopw [14] (fun ix wr => ∃ k : Nat, ix = .int .i64 k ∧ k ≤ l.length ∧ WrP base w B s bs ((Pg.dCnt l.length).app (Pg.dCat Pg.Ex.dl (l.take k))) wr) (fun ix _ => l.length - (intOf ix).toNat)
 case atStart => exact ⟨0, rfl, Nat.zero_le _, by rw [List.take_zero, Pg.dCat, Pg.Dl.app_nil]; exact H4.out⟩
 case round =>
  obtain ⟨k, rfl, hk, hp⟩ := hrel
  have HP : Hid (WrP base w B s bs ((Pg.dCnt l.length).app (Pg.dCat Pg.Ex.dl (l.take k))) wr) := hp
  by_cases hkn : k < l.length
  case neg =>
   obtain rfl : k = l.length := by omega
   clear hp
   go_wp2
   first | go_end0 | go_returns
   have := HP.out
   rw [List.take_length] at this
   exact ⟨rfl, this⟩
  have hkn' : (k : Int) < l.length := by omega
  have hrow : ExL (fun k => k < base) wr a c l := ExL.ch HL.out hp.1.ch (fun k hk => not_range hk) (fun _ h => h)
  obtain ⟨b, o, rfl, hb, hx⟩ := hrow.at hkn
  have HR1 : Hid (Rm s bs (((Pg.dCnt l.length).app (Pg.dCat Pg.Ex.dl (l.take k))).app (Pg.Ex.dl l[k]))) := by
   have := HR.out (k + 1) (by omega)
   rw [Pg.dCat_succ _ hkn, ← Pg.Dl.app_assoc] at this
   exact this
  have HS : Hid ((Pg.dCnt l.length).app (Pg.dCat Pg.Ex.dl (l.take (k + 1))) = ((Pg.dCnt l.length).app (Pg.dCat Pg.Ex.dl (l.take k))).app (Pg.Ex.dl l[k])) := by
   show _ = _
   rw [Pg.dCat_succ _ hkn, ← Pg.Dl.app_assoc]
  obtain ⟨a1, k1, he⟩ := hx.row
  have c0 := he.c0
  have c1 := he.c1
  have c2 := he.c2
  have c3 := he.c3
  have c4 := he.c4
  have HC : Hid (Calls Tryz.prog 213 #[.pointer (some ⟨B, 0, none⟩), .agg #[.int .i64 l[k].op, .int .i64 l[k].t, .int .i64 l[k].n, .string l[k].s, .slice a1 l[k].args.length k1]] (wr.alloc (.cells #[.int .i64 l[k].op, .int .i64 l[k].t, .int .i64 l[k].n, .string l[k].s, .slice a1 l[k].args.length k1] 45)) fun e w' => e = .returned (.tuple #[]) ∧ WrP base w B s bs (((Pg.dCnt l.length).app (Pg.dCat Pg.Ex.dl (l.take k))).app (Pg.Ex.dl l[k])) w') := (hp.grow (World.grownBy_alloc _ _ _)).call HR1.out (fun s' bs' hw hr => HI.out l[k] (List.getElem_mem hkn) base _ B s' bs' a1 k1 hw hr he.rg (ExL.grow he.args (World.grownBy_alloc _ _ _)))
  clear he
  clear hp hx hrow
  generalize l[k] = x at *
  go_wp2_with (go_at_call 213; refine HC.out.mono ?_; rintro e w5 ⟨rfl, h5⟩; have H5 : Hid (WrP base w B s bs (((Pg.dCnt l.length).app (Pg.dCat Pg.Ex.dl (l.take k))).app (Pg.Ex.dl x)) w5) := h5; clear h5)
  go_roundw
  case rel => exact ⟨k + 1, by go_num, by omega, by rw [HS.out]; exact H5.out⟩
  case measure => simp [intOf]; omega
end Go.Proofs.YtcfpnojbhojagaaGreat
