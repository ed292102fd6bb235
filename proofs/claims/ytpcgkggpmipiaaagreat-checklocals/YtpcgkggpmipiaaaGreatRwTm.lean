/- The writer's terms. -/
import Derived.Test.YtpcgkggpmipiaaaGreatG6
namespace Go.Proofs.YtpcgkggpmipiaaaGreat
set_option maxRecDepth 100000
set_option maxHeartbeats 32000000
open Go.RowKit
set_option linter.unusedVariables false
theorem wNumL {base : Nat} {w : World} {B : Nat} {s : Ws} {bs : List Int} (h : Wr base w B s bs) {l : List Int} (hr : Rm s bs (Pg.dNumL l)) {a : Option Addr} {c : Nat} (hL : NumL (fun k => k < base) w a c l) :
  Calls Tryz.prog 181 #[.pointer (some ⟨B, 0, none⟩), .slice a l.length c, .func (.func 180) #[.pointer (some ⟨B, 0, none⟩)] #[]] w fun e w' => e = .returned (.tuple #[]) ∧ WrP base w B s bs (Pg.dNumL l) w' := by
 rw [Pg.dNumL, Pg.dNums_cat] at hr ⊢
 exact wNums h hr hL
theorem wExL {base : Nat} {w : World} {B : Nat} {s : Ws} {bs : List Int} (h : Wr base w B s bs) {l : List Pg.Ex} (hr : Rm s bs (Pg.dExL l)) {a : Option Addr} {c : Nat} (hL : ExL (fun k => k < base) w a c l) (ih : ∀ x, x ∈ l → TermOk x) :
  Calls Tryz.prog 212 #[.pointer (some ⟨B, 0, none⟩), .slice a l.length c, .func (.func 213) #[.pointer (some ⟨B, 0, none⟩)] #[]] w fun e w' => e = .returned (.tuple #[]) ∧ WrP base w B s bs (Pg.dExL l) w' := by
 rw [Pg.dExL, Pg.dEs_cat] at hr ⊢
 exact wEs_list h hr hL ih
theorem term_one (x : Pg.Ex) (ih : ∀ y, y ∈ x.args → TermOk y) : TermOk x := by
 intro base w B s bs a1 k1 h hr hn ha
 have HN : Hid (R64 x.n) := hn
 have HI : Hid (∀ y, y ∈ x.args → TermOk y) := ih
 clear hn ih
 have hg1 : w.grownBy (w.alloc (.cells #[.int .i64 x.op, .int .i64 x.t, .int .i64 x.n, .string x.s, .slice a1 x.args.length k1] 45)) none := World.grownBy_alloc _ _ _
 have HDL : Hid (x.dl = (((((Pg.dCnt x.op).app (Pg.dCnt x.t)).app (Pg.dNum x.n)).app (Pg.dTxt x.s)).app (Pg.dExL x.args)).node) := by
  show _ = _
  rw [Pg.Ex.dl_eq]; simp only [Pg.Dl.app_assoc]
 rw [HDL.out] at hr ⊢
 have hd1 : s.dp + 1 < 65536 := by have := hr.2.1; simp only [Pg.Dl.node] at this; omega
 have hn1 : s.nd + 1 < 33554432 := by have := hr.1; simp only [Pg.Dl.node] at this; omega
 have hr := hr.into
 have R4 : Hid (Rm s.into bs (((((Pg.dCnt x.op).app (Pg.dCnt x.t)).app (Pg.dNum x.n)).app (Pg.dTxt x.s)).app (Pg.dExL x.args))) := hr
 have R3 : Hid (Rm s.into bs ((((Pg.dCnt x.op).app (Pg.dCnt x.t)).app (Pg.dNum x.n)).app (Pg.dTxt x.s))) := R4.out.pre
 have R2 : Hid (Rm s.into bs (((Pg.dCnt x.op).app (Pg.dCnt x.t)).app (Pg.dNum x.n))) := R3.out.pre
 have R1 : Hid (Rm s.into bs ((Pg.dCnt x.op).app (Pg.dCnt x.t))) := R2.out.pre
 have R0 : Hid (Rm s.into bs (Pg.dCnt x.op)) := R1.out.pre
 have HK : Hid (∀ W, Kp base (w.alloc (.cells #[.int .i64 x.op, .int .i64 x.t, .int .i64 x.n, .string x.s, .slice a1 x.args.length k1] 45)) W → ∀ j v, (#[.int .i64 x.op, .int .i64 x.t, .int .i64 x.n, .string x.s, .slice a1 x.args.length k1] : Array Value)[j]? = some v → W.cell? ⟨w.heap.size, j, none⟩ = some v) := fun W k j v hv => by rw [Kp.cell k (heap_alloc_new w _) ⟨by decide, by decide⟩ j]; exact hv
 have HA : Hid (∀ W, Kp base (w.alloc (.cells #[.int .i64 x.op, .int .i64 x.t, .int .i64 x.n, .string x.s, .slice a1 x.args.length k1] 45)) W → ExL (fun k => k < base) W a1 k1 x.args) := fun W k => ExL.ch ha ((Kp.of hg1).trans k).ch (fun k hk => not_range hk) (fun _ h => h)
 have HB : Hid (Calls Tryz.prog 210 #[.pointer (some ⟨B, 0, none⟩)] (w.alloc (.cells #[.int .i64 x.op, .int .i64 x.t, .int .i64 x.n, .string x.s, .slice a1 x.args.length k1] 45)) fun e w' => e = .returned (.bool true) ∧ Kp base (w.alloc (.cells #[.int .i64 x.op, .int .i64 x.t, .int .i64 x.n, .string x.s, .slice a1 x.args.length k1] 45)) w' ∧ Wr base w' B s.into bs) := begin_any (h.grow hg1) hn1 hd1
 clear h hr ha hn1
 go_enter Tryz.func213, Tryz.ntmps213
 go_wp2_with (first
  | (go_at_call 210; refine HB.out.mono ?_; rintro e w1 ⟨rfl, kk, hh⟩; have K0 : Hid (Kp base (w.alloc (.cells #[.int .i64 x.op, .int .i64 x.t, .int .i64 x.n, .string x.s, .slice a1 x.args.length k1] 45)) w1) := kk; have m0 := HK.out w1 K0.out 0 _ rfl; have HC0 : Hid (Calls Tryz.prog 180 #[.pointer (some ⟨B, 0, none⟩), .int .i64 x.op] w1 fun e w' => e = .returned (.tuple #[]) ∧ WrP base w1 B s.into bs (Pg.dCnt x.op) w') := (fun hw hr => count_any hw hr) hh R0.out; clear kk hh HB)
  | (go_at_call 180; refine HC0.out.mono ?_; rintro e w2 ⟨rfl, hh⟩; have A1 : Hid (WrP base w1 B s.into bs (Pg.dCnt x.op) w2) := hh; have K1 : Hid (Kp base (w.alloc (.cells #[.int .i64 x.op, .int .i64 x.t, .int .i64 x.n, .string x.s, .slice a1 x.args.length k1] 45)) w2) := K0.out.trans hh.1; have m1 := HK.out w2 K1.out 1 _ rfl; have HC1 : Hid (Calls Tryz.prog 180 #[.pointer (some ⟨B, 0, none⟩), .int .i64 x.t] w2 fun e w' => e = .returned (.tuple #[]) ∧ WrP base w1 B s.into bs ((Pg.dCnt x.op).app (Pg.dCnt x.t)) w') := A1.out.call R1.out (fun s' bs' hw hr => count_any hw hr); clear hh HC0 m0)
  | (go_at_call 180; refine HC1.out.mono ?_; rintro e w3 ⟨rfl, hh⟩; have A2 : Hid (WrP base w1 B s.into bs ((Pg.dCnt x.op).app (Pg.dCnt x.t)) w3) := hh; have K2 : Hid (Kp base (w.alloc (.cells #[.int .i64 x.op, .int .i64 x.t, .int .i64 x.n, .string x.s, .slice a1 x.args.length k1] 45)) w3) := K0.out.trans hh.1; have m2 := HK.out w3 K2.out 2 _ rfl; have HC2 : Hid (Calls Tryz.prog 209 #[.pointer (some ⟨B, 0, none⟩), .int .u64 (Pg.zig x.n : Nat)] w3 fun e w' => e = .returned (.tuple #[]) ∧ WrP base w1 B s.into bs (((Pg.dCnt x.op).app (Pg.dCnt x.t)).app (Pg.dNum x.n)) w') := A2.out.call R2.out (fun s' bs' hw hr => groups_any hw (Pg.zig_lt HN.out) hr); clear hh HC1 m1)
  | (go_at_call 209; refine HC2.out.mono ?_; rintro e w4 ⟨rfl, hh⟩; have A3 : Hid (WrP base w1 B s.into bs (((Pg.dCnt x.op).app (Pg.dCnt x.t)).app (Pg.dNum x.n)) w4) := hh; have K3 : Hid (Kp base (w.alloc (.cells #[.int .i64 x.op, .int .i64 x.t, .int .i64 x.n, .string x.s, .slice a1 x.args.length k1] 45)) w4) := K0.out.trans hh.1; have m3 := HK.out w4 K3.out 3 _ rfl; have HC3 : Hid (Calls Tryz.prog 229 #[.pointer (some ⟨B, 0, none⟩), .string x.s] w4 fun e w' => e = .returned (.tuple #[]) ∧ WrP base w1 B s.into bs ((((Pg.dCnt x.op).app (Pg.dCnt x.t)).app (Pg.dNum x.n)).app (Pg.dTxt x.s)) w') := A3.out.call R3.out (fun s' bs' hw hr => text_any hw hr); clear hh HC2 m2)
  | (go_at_call 229; refine HC3.out.mono ?_; rintro e w5 ⟨rfl, hh⟩; have A4 : Hid (WrP base w1 B s.into bs ((((Pg.dCnt x.op).app (Pg.dCnt x.t)).app (Pg.dNum x.n)).app (Pg.dTxt x.s)) w5) := hh; have K4 : Hid (Kp base (w.alloc (.cells #[.int .i64 x.op, .int .i64 x.t, .int .i64 x.n, .string x.s, .slice a1 x.args.length k1] 45)) w5) := K0.out.trans hh.1; have m4 := HK.out w5 K4.out 4 _ rfl; have HC4 : Hid (Calls Tryz.prog 212 #[.pointer (some ⟨B, 0, none⟩), .slice a1 x.args.length k1, .func (.func 213) #[.pointer (some ⟨B, 0, none⟩)] #[]] w5 fun e w' => e = .returned (.tuple #[]) ∧ WrP base w1 B s.into bs (((((Pg.dCnt x.op).app (Pg.dCnt x.t)).app (Pg.dNum x.n)).app (Pg.dTxt x.s)).app (Pg.dExL x.args)) w') := A4.out.call R4.out (fun s' bs' hw hr => wExL hw hr (HA.out w5 (K4.out)) HI.out); clear hh HC3 m3)
  | (go_at_call 212; refine HC4.out.mono ?_; rintro e w6 ⟨rfl, hh⟩; have A5 : Hid (WrP base w1 B s.into bs (((((Pg.dCnt x.op).app (Pg.dCnt x.t)).app (Pg.dNum x.n)).app (Pg.dTxt x.s)).app (Pg.dExL x.args)) w6) := hh; have K5 : Hid (Kp base (w.alloc (.cells #[.int .i64 x.op, .int .i64 x.t, .int .i64 x.n, .string x.s, .slice a1 x.args.length k1] 45)) w6) := K0.out.trans hh.1; clear hh HC4 m4)
  | (go_at_call 211; refine (fold_any HN.out _).mono ?_; rintro e w99 ⟨rfl, hw⟩; rw [hw]; clear hw w99)
  | (go_at_call 214; refine (WrP.finish ((Kp.of hg1).trans K0.out) A5.out hd1).mono ?_; rintro e w98 ⟨rfl, hh⟩; have AE := hh; clear hh))
 first | go_end0 | go_returns
 exact ⟨rfl, AE⟩
theorem term_any (x : Pg.Ex) : TermOk x := Pg.Ex.ind (P := TermOk) (fun op t n s args ih => term_one (.mk op t n s args) ih) x
end Go.Proofs.YtpcgkggpmipiaaaGreat
