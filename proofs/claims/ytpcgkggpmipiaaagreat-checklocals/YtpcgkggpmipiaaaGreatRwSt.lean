/- The writer's statements. -/
import Derived.Test.YtpcgkggpmipiaaaGreatRwTm
namespace Go.Proofs.YtpcgkggpmipiaaaGreat
set_option maxRecDepth 100000
set_option maxHeartbeats 32000000
open Go.RowKit
set_option linter.unusedVariables false
def StmtOk (x : Pg.St) : Prop := ∀ (base : Nat) (w : World) (B : Nat) (s : Ws) (bs : List Int) (a1 : Option Addr) (k1 : Nat) (a2 : Option Addr) (k2 : Nat) (a3 : Option Addr) (k3 : Nat) (a4 : Option Addr) (k4 : Nat), Wr base w B s bs → Rm s bs x.dl → R64 x.n → ExL (fun k => k < base) w a1 k1 x.args → NumL (fun k => k < base) w a2 k2 x.dst → StL (fun k => k < base) w a3 k3 x.a → StL (fun k => k < base) w a4 k4 x.b →
 Calls Tryz.prog 183 #[.pointer (some ⟨B, 0, none⟩), .agg #[.int .i64 x.op, .int .i64 x.n, .slice a1 x.args.length k1, .slice a2 x.dst.length k2, .slice a3 x.a.length k3, .slice a4 x.b.length k4]] w fun e w' => e = .returned (.tuple #[]) ∧ WrP base w B s bs x.dl w'
theorem wSs_list {base : Nat} {w : World} {B : Nat} {s : Ws} {bs : List Int} (h : Wr base w B s bs) {l : List Pg.St} (hr : Rm s bs ((Pg.dCnt l.length).app (Pg.dCat Pg.St.dl l))) {a : Option Addr} {c : Nat} (hL : StL (fun k => k < base) w a c l) (ih : ∀ x, x ∈ l → StmtOk x) :
  Calls Tryz.prog 182 #[.pointer (some ⟨B, 0, none⟩), .slice a l.length c, .func (.func 183) #[.pointer (some ⟨B, 0, none⟩)] #[]] w fun e w' => e = .returned (.tuple #[]) ∧ WrP base w B s bs ((Pg.dCnt l.length).app (Pg.dCat Pg.St.dl l)) w' := by
 have hle := hL.le
 have hmx := hL.max
 unfold maxLen at hmx
 have HL : Hid (StL (fun k => k < base) w a c l) := hL
 have HR : Hid (∀ k, k ≤ l.length → Rm s bs ((Pg.dCnt l.length).app (Pg.dCat Pg.St.dl (l.take k)))) := by
  intro k _
  obtain ⟨r1, r2, r3⟩ := hr
  obtain ⟨q1, q2, q3, _⟩ := Pg.dCat_le Pg.St.dl l k
  simp only [Pg.Dl.app, List.length_append] at r1 r2 r3
  refine ⟨?_, ?_, ?_⟩
  ·show s.nd + ((Pg.dCnt l.length).nd + _) < _; omega
  ·show s.dp + max (Pg.dCnt l.length).dp _ < _; omega
  ·show bs.length + ((Pg.dCnt l.length).en ++ _).length ≤ _
   rw [List.length_append]; omega
 have HI : Hid (∀ x, x ∈ l → StmtOk x) := ih
 have HC := count_any h (n := (l.length : Int)) (by
  have := HR.out 0 (Nat.zero_le _)
  rw [List.take_zero, Pg.dCat, Pg.Dl.app_nil] at this
  exact this)
 clear h hr hL ih
 go_enter Tryz.func182, Tryz.ntmps182
 go_wp2_with (go_at_call 180; refine HC.mono ?_; rintro e w4 ⟨rfl, h4⟩; have H4 : Hid (WrP base w B s bs (Pg.dCnt (l.length : Int)) w4) := h4; clear h4)
 clear HC
 go_loopw [14] (fun ix wr => ∃ k : Nat, ix = .int .i64 k ∧ k ≤ l.length ∧ WrP base w B s bs ((Pg.dCnt l.length).app (Pg.dCat Pg.St.dl (l.take k))) wr) (fun ix _ => l.length - (intOf ix).toNat)
 case atStart => exact ⟨0, rfl, Nat.zero_le _, by rw [List.take_zero, Pg.dCat, Pg.Dl.app_nil]; exact H4.out⟩
 case round =>
  obtain ⟨k, rfl, hk, hp⟩ := hrel
  have HP : Hid (WrP base w B s bs ((Pg.dCnt l.length).app (Pg.dCat Pg.St.dl (l.take k))) wr) := hp
  by_cases hkn : k < l.length
  case neg =>
   obtain rfl : k = l.length := by omega
   clear hp
   go_wp2
   first | go_end0 | go_returns
   have := HP.out
   rw [List.take_length] at this
   exact ⟨rfl, this⟩
  have hkn' : (k : Int) < l.length := by omega
  have hrow : StL (fun k => k < base) wr a c l := StL.ch HL.out hp.1.ch (fun k hk => not_range hk) (fun _ h => h)
  obtain ⟨b, o, rfl, hb, hx⟩ := hrow.at hkn
  have HR1 : Hid (Rm s bs (((Pg.dCnt l.length).app (Pg.dCat Pg.St.dl (l.take k))).app (Pg.St.dl l[k]))) := by
   have := HR.out (k + 1) (by omega)
   rw [Pg.dCat_succ _ hkn, ← Pg.Dl.app_assoc] at this
   exact this
  have HS : Hid ((Pg.dCnt l.length).app (Pg.dCat Pg.St.dl (l.take (k + 1))) = ((Pg.dCnt l.length).app (Pg.dCat Pg.St.dl (l.take k))).app (Pg.St.dl l[k])) := by
   show _ = _
   rw [Pg.dCat_succ _ hkn, ← Pg.Dl.app_assoc]
  obtain ⟨a1, a2, a3, a4, k1, k2, k3, k4, he⟩ := hx.row
  have c0 := he.c0
  have c1 := he.c1
  have c2 := he.c2
  have c3 := he.c3
  have c4 := he.c4
  have c5 := he.c5
  have HC : Hid (Calls Tryz.prog 183 #[.pointer (some ⟨B, 0, none⟩), .agg #[.int .i64 l[k].op, .int .i64 l[k].n, .slice a1 l[k].args.length k1, .slice a2 l[k].dst.length k2, .slice a3 l[k].a.length k3, .slice a4 l[k].b.length k4]] (wr.alloc (.cells #[.int .i64 l[k].op, .int .i64 l[k].n, .slice a1 l[k].args.length k1, .slice a2 l[k].dst.length k2, .slice a3 l[k].a.length k3, .slice a4 l[k].b.length k4] 51)) fun e w' => e = .returned (.tuple #[]) ∧ WrP base w B s bs (((Pg.dCnt l.length).app (Pg.dCat Pg.St.dl (l.take k))).app (Pg.St.dl l[k])) w') := (hp.grow (World.grownBy_alloc _ _ _)).call HR1.out (fun s' bs' hw hr => HI.out l[k] (List.getElem_mem hkn) base _ B s' bs' a1 k1 a2 k2 a3 k3 a4 k4 hw hr he.rg (ExL.grow he.args (World.grownBy_alloc _ _ _)) (NumL.grow he.dst (World.grownBy_alloc _ _ _)) (StL.grow he.a (World.grownBy_alloc _ _ _)) (StL.grow he.b (World.grownBy_alloc _ _ _)))
  clear he
  clear hp hx hrow
  generalize l[k] = x at *
  go_wp2_with (go_at_call 183; refine HC.out.mono ?_; rintro e w5 ⟨rfl, h5⟩; have H5 : Hid (WrP base w B s bs (((Pg.dCnt l.length).app (Pg.dCat Pg.St.dl (l.take k))).app (Pg.St.dl x)) w5) := h5; clear h5)
  go_roundw
  case rel => exact ⟨k + 1, by go_num, by omega, by rw [HS.out]; exact H5.out⟩
  case measure => simp [intOf]; omega
theorem wStL {base : Nat} {w : World} {B : Nat} {s : Ws} {bs : List Int} (h : Wr base w B s bs) {l : List Pg.St} (hr : Rm s bs (Pg.dStL l)) {a : Option Addr} {c : Nat} (hL : StL (fun k => k < base) w a c l) (ih : ∀ x, x ∈ l → StmtOk x) :
  Calls Tryz.prog 182 #[.pointer (some ⟨B, 0, none⟩), .slice a l.length c, .func (.func 183) #[.pointer (some ⟨B, 0, none⟩)] #[]] w fun e w' => e = .returned (.tuple #[]) ∧ WrP base w B s bs (Pg.dStL l) w' := by
 rw [Pg.dStL, Pg.dSs_cat] at hr ⊢
 exact wSs_list h hr hL ih
theorem stmt_one (x : Pg.St) (ih : (∀ y, y ∈ x.a → StmtOk y) ∧ (∀ y, y ∈ x.b → StmtOk y)) : StmtOk x := by
 intro base w B s bs a1 k1 a2 k2 a3 k3 a4 k4 h hr hn ha hd hx hy
 have HN : Hid (R64 x.n) := hn
 have HI : Hid ((∀ y, y ∈ x.a → StmtOk y) ∧ (∀ y, y ∈ x.b → StmtOk y)) := ih
 clear hn ih
 have hg1 : w.grownBy (w.alloc (.cells #[.int .i64 x.op, .int .i64 x.n, .slice a1 x.args.length k1, .slice a2 x.dst.length k2, .slice a3 x.a.length k3, .slice a4 x.b.length k4] 51)) none := World.grownBy_alloc _ _ _
 have HDL : Hid (x.dl = ((((((Pg.dCnt x.op).app (Pg.dNum x.n)).app (Pg.dExL x.args)).app (Pg.dNumL x.dst)).app (Pg.dStL x.a)).app (Pg.dStL x.b)).node) := by
  show _ = _
  rw [Pg.St.dl_eq]; simp only [Pg.Dl.app_assoc]
 rw [HDL.out] at hr ⊢
 have hd1 : s.dp + 1 < 65536 := by have := hr.2.1; simp only [Pg.Dl.node] at this; omega
 have hn1 : s.nd + 1 < 33554432 := by have := hr.1; simp only [Pg.Dl.node] at this; omega
 have hr := hr.into
 have R5 : Hid (Rm s.into bs ((((((Pg.dCnt x.op).app (Pg.dNum x.n)).app (Pg.dExL x.args)).app (Pg.dNumL x.dst)).app (Pg.dStL x.a)).app (Pg.dStL x.b))) := hr
 have R4 : Hid (Rm s.into bs (((((Pg.dCnt x.op).app (Pg.dNum x.n)).app (Pg.dExL x.args)).app (Pg.dNumL x.dst)).app (Pg.dStL x.a))) := R5.out.pre
 have R3 : Hid (Rm s.into bs ((((Pg.dCnt x.op).app (Pg.dNum x.n)).app (Pg.dExL x.args)).app (Pg.dNumL x.dst))) := R4.out.pre
 have R2 : Hid (Rm s.into bs (((Pg.dCnt x.op).app (Pg.dNum x.n)).app (Pg.dExL x.args))) := R3.out.pre
 have R1 : Hid (Rm s.into bs ((Pg.dCnt x.op).app (Pg.dNum x.n))) := R2.out.pre
 have R0 : Hid (Rm s.into bs (Pg.dCnt x.op)) := R1.out.pre
 have HK : Hid (∀ W, Kp base (w.alloc (.cells #[.int .i64 x.op, .int .i64 x.n, .slice a1 x.args.length k1, .slice a2 x.dst.length k2, .slice a3 x.a.length k3, .slice a4 x.b.length k4] 51)) W → ∀ j v, (#[.int .i64 x.op, .int .i64 x.n, .slice a1 x.args.length k1, .slice a2 x.dst.length k2, .slice a3 x.a.length k3, .slice a4 x.b.length k4] : Array Value)[j]? = some v → W.cell? ⟨w.heap.size, j, none⟩ = some v) := fun W k j v hv => by rw [Kp.cell k (heap_alloc_new w _) ⟨by decide, by decide⟩ j]; exact hv
 have HA : Hid (∀ W, Kp base (w.alloc (.cells #[.int .i64 x.op, .int .i64 x.n, .slice a1 x.args.length k1, .slice a2 x.dst.length k2, .slice a3 x.a.length k3, .slice a4 x.b.length k4] 51)) W → ExL (fun k => k < base) W a1 k1 x.args) := fun W k => ExL.ch ha ((Kp.of hg1).trans k).ch (fun k hk => not_range hk) (fun _ h => h)
 have HD : Hid (∀ W, Kp base (w.alloc (.cells #[.int .i64 x.op, .int .i64 x.n, .slice a1 x.args.length k1, .slice a2 x.dst.length k2, .slice a3 x.a.length k3, .slice a4 x.b.length k4] 51)) W → NumL (fun k => k < base) W a2 k2 x.dst) := fun W k => NumL.ch hd ((Kp.of hg1).trans k).ch (fun k hk => not_range hk) (fun _ h => h)
 have HX : Hid (∀ W, Kp base (w.alloc (.cells #[.int .i64 x.op, .int .i64 x.n, .slice a1 x.args.length k1, .slice a2 x.dst.length k2, .slice a3 x.a.length k3, .slice a4 x.b.length k4] 51)) W → StL (fun k => k < base) W a3 k3 x.a) := fun W k => StL.ch hx ((Kp.of hg1).trans k).ch (fun k hk => not_range hk) (fun _ h => h)
 have HY : Hid (∀ W, Kp base (w.alloc (.cells #[.int .i64 x.op, .int .i64 x.n, .slice a1 x.args.length k1, .slice a2 x.dst.length k2, .slice a3 x.a.length k3, .slice a4 x.b.length k4] 51)) W → StL (fun k => k < base) W a4 k4 x.b) := fun W k => StL.ch hy ((Kp.of hg1).trans k).ch (fun k hk => not_range hk) (fun _ h => h)
 have HB : Hid (Calls Tryz.prog 210 #[.pointer (some ⟨B, 0, none⟩)] (w.alloc (.cells #[.int .i64 x.op, .int .i64 x.n, .slice a1 x.args.length k1, .slice a2 x.dst.length k2, .slice a3 x.a.length k3, .slice a4 x.b.length k4] 51)) fun e w' => e = .returned (.bool true) ∧ Kp base (w.alloc (.cells #[.int .i64 x.op, .int .i64 x.n, .slice a1 x.args.length k1, .slice a2 x.dst.length k2, .slice a3 x.a.length k3, .slice a4 x.b.length k4] 51)) w' ∧ Wr base w' B s.into bs) := begin_any (h.grow hg1) hn1 hd1
 clear h hr ha hd hx hy hn1
 go_enter Tryz.func183, Tryz.ntmps183
 go_wp2_with (first
  | (go_at_call 210; refine HB.out.mono ?_; rintro e w1 ⟨rfl, kk, hh⟩; have K0 : Hid (Kp base (w.alloc (.cells #[.int .i64 x.op, .int .i64 x.n, .slice a1 x.args.length k1, .slice a2 x.dst.length k2, .slice a3 x.a.length k3, .slice a4 x.b.length k4] 51)) w1) := kk; have m0 := HK.out w1 K0.out 0 _ rfl; have HC0 : Hid (Calls Tryz.prog 180 #[.pointer (some ⟨B, 0, none⟩), .int .i64 x.op] w1 fun e w' => e = .returned (.tuple #[]) ∧ WrP base w1 B s.into bs (Pg.dCnt x.op) w') := (fun hw hr => count_any hw hr) hh R0.out; clear kk hh HB)
  | (go_at_call 180; refine HC0.out.mono ?_; rintro e w2 ⟨rfl, hh⟩; have A1 : Hid (WrP base w1 B s.into bs (Pg.dCnt x.op) w2) := hh; have K1 : Hid (Kp base (w.alloc (.cells #[.int .i64 x.op, .int .i64 x.n, .slice a1 x.args.length k1, .slice a2 x.dst.length k2, .slice a3 x.a.length k3, .slice a4 x.b.length k4] 51)) w2) := K0.out.trans hh.1; have m1 := HK.out w2 K1.out 1 _ rfl; have HC1 : Hid (Calls Tryz.prog 209 #[.pointer (some ⟨B, 0, none⟩), .int .u64 (Pg.zig x.n : Nat)] w2 fun e w' => e = .returned (.tuple #[]) ∧ WrP base w1 B s.into bs ((Pg.dCnt x.op).app (Pg.dNum x.n)) w') := A1.out.call R1.out (fun s' bs' hw hr => groups_any hw (Pg.zig_lt HN.out) hr); clear hh HC0 m0)
  | (go_at_call 209; refine HC1.out.mono ?_; rintro e w3 ⟨rfl, hh⟩; have A2 : Hid (WrP base w1 B s.into bs ((Pg.dCnt x.op).app (Pg.dNum x.n)) w3) := hh; have K2 : Hid (Kp base (w.alloc (.cells #[.int .i64 x.op, .int .i64 x.n, .slice a1 x.args.length k1, .slice a2 x.dst.length k2, .slice a3 x.a.length k3, .slice a4 x.b.length k4] 51)) w3) := K0.out.trans hh.1; have m2 := HK.out w3 K2.out 2 _ rfl; have HC2 : Hid (Calls Tryz.prog 212 #[.pointer (some ⟨B, 0, none⟩), .slice a1 x.args.length k1, .func (.func 213) #[.pointer (some ⟨B, 0, none⟩)] #[]] w3 fun e w' => e = .returned (.tuple #[]) ∧ WrP base w1 B s.into bs (((Pg.dCnt x.op).app (Pg.dNum x.n)).app (Pg.dExL x.args)) w') := A2.out.call R2.out (fun s' bs' hw hr => wExL hw hr (HA.out w3 (K2.out)) (fun y _ => term_any y)); clear hh HC1 m1)
  | (go_at_call 212; refine HC2.out.mono ?_; rintro e w4 ⟨rfl, hh⟩; have A3 : Hid (WrP base w1 B s.into bs (((Pg.dCnt x.op).app (Pg.dNum x.n)).app (Pg.dExL x.args)) w4) := hh; have K3 : Hid (Kp base (w.alloc (.cells #[.int .i64 x.op, .int .i64 x.n, .slice a1 x.args.length k1, .slice a2 x.dst.length k2, .slice a3 x.a.length k3, .slice a4 x.b.length k4] 51)) w4) := K0.out.trans hh.1; have m3 := HK.out w4 K3.out 3 _ rfl; have HC3 : Hid (Calls Tryz.prog 181 #[.pointer (some ⟨B, 0, none⟩), .slice a2 x.dst.length k2, .func (.func 180) #[.pointer (some ⟨B, 0, none⟩)] #[]] w4 fun e w' => e = .returned (.tuple #[]) ∧ WrP base w1 B s.into bs ((((Pg.dCnt x.op).app (Pg.dNum x.n)).app (Pg.dExL x.args)).app (Pg.dNumL x.dst)) w') := A3.out.call R3.out (fun s' bs' hw hr => wNumL hw hr (HD.out w4 (K3.out))); clear hh HC2 m2)
  | (go_at_call 181; refine HC3.out.mono ?_; rintro e w5 ⟨rfl, hh⟩; have A4 : Hid (WrP base w1 B s.into bs ((((Pg.dCnt x.op).app (Pg.dNum x.n)).app (Pg.dExL x.args)).app (Pg.dNumL x.dst)) w5) := hh; have K4 : Hid (Kp base (w.alloc (.cells #[.int .i64 x.op, .int .i64 x.n, .slice a1 x.args.length k1, .slice a2 x.dst.length k2, .slice a3 x.a.length k3, .slice a4 x.b.length k4] 51)) w5) := K0.out.trans hh.1; have m4 := HK.out w5 K4.out 4 _ rfl; have HC4 : Hid (Calls Tryz.prog 182 #[.pointer (some ⟨B, 0, none⟩), .slice a3 x.a.length k3, .func (.func 183) #[.pointer (some ⟨B, 0, none⟩)] #[]] w5 fun e w' => e = .returned (.tuple #[]) ∧ WrP base w1 B s.into bs (((((Pg.dCnt x.op).app (Pg.dNum x.n)).app (Pg.dExL x.args)).app (Pg.dNumL x.dst)).app (Pg.dStL x.a)) w') := A4.out.call R4.out (fun s' bs' hw hr => wStL hw hr (HX.out w5 (K4.out)) HI.out.1); clear hh HC3 m3)
  | (go_at_call 182; refine HC4.out.mono ?_; rintro e w6 ⟨rfl, hh⟩; have A5 : Hid (WrP base w1 B s.into bs (((((Pg.dCnt x.op).app (Pg.dNum x.n)).app (Pg.dExL x.args)).app (Pg.dNumL x.dst)).app (Pg.dStL x.a)) w6) := hh; have K5 : Hid (Kp base (w.alloc (.cells #[.int .i64 x.op, .int .i64 x.n, .slice a1 x.args.length k1, .slice a2 x.dst.length k2, .slice a3 x.a.length k3, .slice a4 x.b.length k4] 51)) w6) := K0.out.trans hh.1; have m5 := HK.out w6 K5.out 5 _ rfl; have HC5 : Hid (Calls Tryz.prog 182 #[.pointer (some ⟨B, 0, none⟩), .slice a4 x.b.length k4, .func (.func 183) #[.pointer (some ⟨B, 0, none⟩)] #[]] w6 fun e w' => e = .returned (.tuple #[]) ∧ WrP base w1 B s.into bs ((((((Pg.dCnt x.op).app (Pg.dNum x.n)).app (Pg.dExL x.args)).app (Pg.dNumL x.dst)).app (Pg.dStL x.a)).app (Pg.dStL x.b)) w') := A5.out.call R5.out (fun s' bs' hw hr => wStL hw hr (HY.out w6 (K5.out)) HI.out.2); clear hh HC4 m4)
  | (go_at_call 182; refine HC5.out.mono ?_; rintro e w7 ⟨rfl, hh⟩; have A6 : Hid (WrP base w1 B s.into bs ((((((Pg.dCnt x.op).app (Pg.dNum x.n)).app (Pg.dExL x.args)).app (Pg.dNumL x.dst)).app (Pg.dStL x.a)).app (Pg.dStL x.b)) w7) := hh; have K6 : Hid (Kp base (w.alloc (.cells #[.int .i64 x.op, .int .i64 x.n, .slice a1 x.args.length k1, .slice a2 x.dst.length k2, .slice a3 x.a.length k3, .slice a4 x.b.length k4] 51)) w7) := K0.out.trans hh.1; clear hh HC5 m5)
  | (go_at_call 211; refine (fold_any HN.out _).mono ?_; rintro e w99 ⟨rfl, hw⟩; rw [hw]; clear hw w99)
  | (go_at_call 214; refine (WrP.finish ((Kp.of hg1).trans K0.out) A6.out hd1).mono ?_; rintro e w98 ⟨rfl, hh⟩; have AE := hh; clear hh))
 first | go_end0 | go_returns
 exact ⟨rfl, AE⟩
theorem stmt_any (x : Pg.St) : StmtOk x := Pg.St.ind (P := StmtOk) (fun op n args dst a b ia ib => stmt_one (.mk op n args dst a b) ⟨ia, ib⟩) x
end Go.Proofs.YtpcgkggpmipiaaaGreat
