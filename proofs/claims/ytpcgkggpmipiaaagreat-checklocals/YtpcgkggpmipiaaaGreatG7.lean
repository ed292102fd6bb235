/- Contracts and plain facts that the walks share. -/
import Derived.Test.YtpcgkggpmipiaaaGreatRwSt
import Derived.Test.YtpcgkggpmipiaaaGreatG1
import Derived.BigGuardPart
namespace Go.Proofs.YtpcgkggpmipiaaaGreat
set_option maxRecDepth 100000
set_option maxHeartbeats 32000000
open Go.RowKit
set_option linter.unusedVariables false
def EntOk (x : Pg.Tp) : Prop := ∀ (base : Nat) (w : World) (B : Nat) (s : Ws) (bs : List Int) (a1 : Option Addr) (k1 : Nat), Wr base w B s bs → Rm s bs x.dl → NumL (fun k => k < base) w a1 k1 x.fields →
 Calls Tryz.prog 141 #[.pointer (some ⟨B, 0, none⟩), .agg #[.int .i64 x.kind, .int .i64 x.elem, .int .i64 x.n, .slice a1 x.fields.length k1]] w fun e w' => e = .returned (.tuple #[]) ∧ WrP base w B s bs x.dl w'
theorem ent_any (x : Pg.Tp) : EntOk x := by
 intro base w B s bs a1 k1 h hr hd
 have hg1 : w.grownBy (w.alloc (.cells #[.int .i64 x.kind, .int .i64 x.elem, .int .i64 x.n, .slice a1 x.fields.length k1] 61)) none := World.grownBy_alloc _ _ _
 have HDL : Hid (x.dl = (((Pg.dCnt x.kind).app (Pg.dCnt x.elem)).app (Pg.dCnt x.n)).app (Pg.dNumL x.fields)) := by
  show _ = _
  rw [Pg.Tp.dl]; simp only [Pg.Dl.app_assoc]
 rw [HDL.out] at hr ⊢
 have R3 : Hid (Rm s bs ((((Pg.dCnt x.kind).app (Pg.dCnt x.elem)).app (Pg.dCnt x.n)).app (Pg.dNumL x.fields))) := hr
 have R2 : Hid (Rm s bs (((Pg.dCnt x.kind).app (Pg.dCnt x.elem)).app (Pg.dCnt x.n))) := R3.out.pre
 have R1 : Hid (Rm s bs ((Pg.dCnt x.kind).app (Pg.dCnt x.elem))) := R2.out.pre
 have R0 : Hid (Rm s bs (Pg.dCnt x.kind)) := R1.out.pre
 have HK : Hid (∀ W, Kp base (w.alloc (.cells #[.int .i64 x.kind, .int .i64 x.elem, .int .i64 x.n, .slice a1 x.fields.length k1] 61)) W → ∀ j v, (#[.int .i64 x.kind, .int .i64 x.elem, .int .i64 x.n, .slice a1 x.fields.length k1] : Array Value)[j]? = some v → W.cell? ⟨w.heap.size, j, none⟩ = some v) := fun W k j v hv => by rw [Kp.cell k (heap_alloc_new w _) ⟨by decide, by decide⟩ j]; exact hv
 have HD : Hid (∀ W, Kp base (w.alloc (.cells #[.int .i64 x.kind, .int .i64 x.elem, .int .i64 x.n, .slice a1 x.fields.length k1] 61)) W → NumL (fun k => k < base) W a1 k1 x.fields) := fun W k => NumL.ch hd ((Kp.of hg1).trans k).ch (fun k hk => not_range hk) (fun _ h => h)
 have K0 : Hid (Kp base (w.alloc (.cells #[.int .i64 x.kind, .int .i64 x.elem, .int .i64 x.n, .slice a1 x.fields.length k1] 61)) (w.alloc (.cells #[.int .i64 x.kind, .int .i64 x.elem, .int .i64 x.n, .slice a1 x.fields.length k1] 61))) := Kp.refl _ _
 have m0 := HK.out (w.alloc (.cells #[.int .i64 x.kind, .int .i64 x.elem, .int .i64 x.n, .slice a1 x.fields.length k1] 61)) K0.out 0 _ rfl
 have HC0 : Hid (Calls Tryz.prog 180 #[.pointer (some ⟨B, 0, none⟩), .int .i64 x.kind] (w.alloc (.cells #[.int .i64 x.kind, .int .i64 x.elem, .int .i64 x.n, .slice a1 x.fields.length k1] 61)) fun e w' => e = .returned (.tuple #[]) ∧ WrP base (w.alloc (.cells #[.int .i64 x.kind, .int .i64 x.elem, .int .i64 x.n, .slice a1 x.fields.length k1] 61)) B s bs (Pg.dCnt x.kind) w') := (fun hw hr => count_any hw hr) (h.grow hg1) R0.out
 clear h hr hd
 go_enter Tryz.func141, Tryz.ntmps141
 go_wp2_with (first
  | (go_at_call 180; refine HC0.out.mono ?_; rintro e w2 ⟨rfl, hh⟩; have A1 : Hid (WrP base (w.alloc (.cells #[.int .i64 x.kind, .int .i64 x.elem, .int .i64 x.n, .slice a1 x.fields.length k1] 61)) B s bs (Pg.dCnt x.kind) w2) := hh; have K1 : Hid (Kp base (w.alloc (.cells #[.int .i64 x.kind, .int .i64 x.elem, .int .i64 x.n, .slice a1 x.fields.length k1] 61)) w2) := K0.out.trans hh.1; have m1 := HK.out w2 K1.out 1 _ rfl; have HC1 : Hid (Calls Tryz.prog 180 #[.pointer (some ⟨B, 0, none⟩), .int .i64 x.elem] w2 fun e w' => e = .returned (.tuple #[]) ∧ WrP base (w.alloc (.cells #[.int .i64 x.kind, .int .i64 x.elem, .int .i64 x.n, .slice a1 x.fields.length k1] 61)) B s bs ((Pg.dCnt x.kind).app (Pg.dCnt x.elem)) w') := A1.out.call R1.out (fun s' bs' hw hr => count_any hw hr); clear hh HC0 m0)
  | (go_at_call 180; refine HC1.out.mono ?_; rintro e w3 ⟨rfl, hh⟩; have A2 : Hid (WrP base (w.alloc (.cells #[.int .i64 x.kind, .int .i64 x.elem, .int .i64 x.n, .slice a1 x.fields.length k1] 61)) B s bs ((Pg.dCnt x.kind).app (Pg.dCnt x.elem)) w3) := hh; have K2 : Hid (Kp base (w.alloc (.cells #[.int .i64 x.kind, .int .i64 x.elem, .int .i64 x.n, .slice a1 x.fields.length k1] 61)) w3) := K0.out.trans hh.1; have m2 := HK.out w3 K2.out 2 _ rfl; have HC2 : Hid (Calls Tryz.prog 180 #[.pointer (some ⟨B, 0, none⟩), .int .i64 x.n] w3 fun e w' => e = .returned (.tuple #[]) ∧ WrP base (w.alloc (.cells #[.int .i64 x.kind, .int .i64 x.elem, .int .i64 x.n, .slice a1 x.fields.length k1] 61)) B s bs (((Pg.dCnt x.kind).app (Pg.dCnt x.elem)).app (Pg.dCnt x.n)) w') := A2.out.call R2.out (fun s' bs' hw hr => count_any hw hr); clear hh HC1 m1)
  | (go_at_call 180; refine HC2.out.mono ?_; rintro e w4 ⟨rfl, hh⟩; have A3 : Hid (WrP base (w.alloc (.cells #[.int .i64 x.kind, .int .i64 x.elem, .int .i64 x.n, .slice a1 x.fields.length k1] 61)) B s bs (((Pg.dCnt x.kind).app (Pg.dCnt x.elem)).app (Pg.dCnt x.n)) w4) := hh; have K3 : Hid (Kp base (w.alloc (.cells #[.int .i64 x.kind, .int .i64 x.elem, .int .i64 x.n, .slice a1 x.fields.length k1] 61)) w4) := K0.out.trans hh.1; have m3 := HK.out w4 K3.out 3 _ rfl; have HC3 : Hid (Calls Tryz.prog 181 #[.pointer (some ⟨B, 0, none⟩), .slice a1 x.fields.length k1, .func (.func 180) #[.pointer (some ⟨B, 0, none⟩)] #[]] w4 fun e w' => e = .returned (.tuple #[]) ∧ WrP base (w.alloc (.cells #[.int .i64 x.kind, .int .i64 x.elem, .int .i64 x.n, .slice a1 x.fields.length k1] 61)) B s bs ((((Pg.dCnt x.kind).app (Pg.dCnt x.elem)).app (Pg.dCnt x.n)).app (Pg.dNumL x.fields)) w') := A3.out.call R3.out (fun s' bs' hw hr => wNumL hw hr (HD.out w4 (K3.out))); clear hh HC2 m2)
  | (go_at_call 181; refine HC3.out.mono ?_; rintro e w5 ⟨rfl, hh⟩; have A4 : Hid (WrP base (w.alloc (.cells #[.int .i64 x.kind, .int .i64 x.elem, .int .i64 x.n, .slice a1 x.fields.length k1] 61)) B s bs ((((Pg.dCnt x.kind).app (Pg.dCnt x.elem)).app (Pg.dCnt x.n)).app (Pg.dNumL x.fields)) w5) := hh; have K4 : Hid (Kp base (w.alloc (.cells #[.int .i64 x.kind, .int .i64 x.elem, .int .i64 x.n, .slice a1 x.fields.length k1] 61)) w5) := K0.out.trans hh.1; clear hh HC3 m3))
 first | go_end0 | go_returns
 exact ⟨rfl, WrP.from (Kp.of hg1) A4.out⟩
theorem wTs_list {base : Nat} {w : World} {B : Nat} {s : Ws} {bs : List Int} (h : Wr base w B s bs) {l : List Pg.Tp} (hr : Rm s bs ((Pg.dCnt l.length).app (Pg.dCat Pg.Tp.dl l))) {a : Option Addr} {c : Nat} (hL : TpL (fun k => k < base) w a c l) (ih : ∀ x, x ∈ l → EntOk x) :
  Calls Tryz.prog 140 #[.pointer (some ⟨B, 0, none⟩), .slice a l.length c, .func (.func 141) #[.pointer (some ⟨B, 0, none⟩)] #[]] w fun e w' => e = .returned (.tuple #[]) ∧ WrP base w B s bs ((Pg.dCnt l.length).app (Pg.dCat Pg.Tp.dl l)) w' := by
 have hle := hL.le
 have hmx := hL.max
 unfold maxLen at hmx
 have HL : Hid (TpL (fun k => k < base) w a c l) := hL
 have HR : Hid (∀ k, k ≤ l.length → Rm s bs ((Pg.dCnt l.length).app (Pg.dCat Pg.Tp.dl (l.take k)))) := by
  intro k _
  obtain ⟨r1, r2, r3⟩ := hr
  obtain ⟨q1, q2, q3, _⟩ := Pg.dCat_le Pg.Tp.dl l k
  simp only [Pg.Dl.app, List.length_append] at r1 r2 r3
  refine ⟨?_, ?_, ?_⟩
  ·show s.nd + ((Pg.dCnt l.length).nd + _) < _; omega
  ·show s.dp + max (Pg.dCnt l.length).dp _ < _; omega
  ·show bs.length + ((Pg.dCnt l.length).en ++ _).length ≤ _
   rw [List.length_append]; omega
 have HI : Hid (∀ x, x ∈ l → EntOk x) := ih
 have HC := count_any h (n := (l.length : Int)) (by
  have := HR.out 0 (Nat.zero_le _)
  rw [List.take_zero, Pg.dCat, Pg.Dl.app_nil] at this
  exact this)
 clear h hr hL ih
 go_enter Tryz.func140, Tryz.ntmps140
 go_wp2_with (go_at_call 180; refine HC.mono ?_; rintro e w4 ⟨rfl, h4⟩; have H4 : Hid (WrP base w B s bs (Pg.dCnt (l.length : Int)) w4) := h4; clear h4)
 clear HC
 go_loopw [14] (fun ix wr => ∃ k : Nat, ix = .int .i64 k ∧ k ≤ l.length ∧ WrP base w B s bs ((Pg.dCnt l.length).app (Pg.dCat Pg.Tp.dl (l.take k))) wr) (fun ix _ => l.length - (intOf ix).toNat)
 case atStart => exact ⟨0, rfl, Nat.zero_le _, by rw [List.take_zero, Pg.dCat, Pg.Dl.app_nil]; exact H4.out⟩
 case round =>
  obtain ⟨k, rfl, hk, hp⟩ := hrel
  have HP : Hid (WrP base w B s bs ((Pg.dCnt l.length).app (Pg.dCat Pg.Tp.dl (l.take k))) wr) := hp
  by_cases hkn : k < l.length
  case neg =>
   obtain rfl : k = l.length := by omega
   clear hp
   go_wp2
   first | go_end0 | go_returns
   have := HP.out
   rw [List.take_length] at this
   exact ⟨rfl, this⟩
  have hkn' : (k : Int) < l.length := by omega
  have hrow : TpL (fun k => k < base) wr a c l := TpL.ch HL.out hp.1.ch (fun k hk => not_range hk) (fun _ h => h)
  obtain ⟨b, o, rfl, hb, hx⟩ := hrow.at hkn
  have HR1 : Hid (Rm s bs (((Pg.dCnt l.length).app (Pg.dCat Pg.Tp.dl (l.take k))).app (Pg.Tp.dl l[k]))) := by
   have := HR.out (k + 1) (by omega)
   rw [Pg.dCat_succ _ hkn, ← Pg.Dl.app_assoc] at this
   exact this
  have HS : Hid ((Pg.dCnt l.length).app (Pg.dCat Pg.Tp.dl (l.take (k + 1))) = ((Pg.dCnt l.length).app (Pg.dCat Pg.Tp.dl (l.take k))).app (Pg.Tp.dl l[k])) := by
   show _ = _
   rw [Pg.dCat_succ _ hkn, ← Pg.Dl.app_assoc]
  obtain ⟨a1, k1, he⟩ := (id hx)
  have c0 := he.c0
  have c1 := he.c1
  have c2 := he.c2
  have c3 := he.c3
  have HC : Hid (Calls Tryz.prog 141 #[.pointer (some ⟨B, 0, none⟩), .agg #[.int .i64 l[k].kind, .int .i64 l[k].elem, .int .i64 l[k].n, .slice a1 l[k].fields.length k1]] (wr.alloc (.cells #[.int .i64 l[k].kind, .int .i64 l[k].elem, .int .i64 l[k].n, .slice a1 l[k].fields.length k1] 61)) fun e w' => e = .returned (.tuple #[]) ∧ WrP base w B s bs (((Pg.dCnt l.length).app (Pg.dCat Pg.Tp.dl (l.take k))).app (Pg.Tp.dl l[k])) w') := (hp.grow (World.grownBy_alloc _ _ _)).call HR1.out (fun s' bs' hw hr => HI.out l[k] (List.getElem_mem hkn) base _ B s' bs' a1 k1 hw hr (NumL.grow he.f (World.grownBy_alloc _ _ _)))
  clear he
  clear hp hx hrow
  generalize l[k] = x at *
  go_wp2_with (go_at_call 141; refine HC.out.mono ?_; rintro e w5 ⟨rfl, h5⟩; have H5 : Hid (WrP base w B s bs (((Pg.dCnt l.length).app (Pg.dCat Pg.Tp.dl (l.take k))).app (Pg.Tp.dl x)) w5) := h5; clear h5)
  go_roundw
  case rel => exact ⟨k + 1, by go_num, by omega, by rw [HS.out]; exact H5.out⟩
  case measure => simp [intOf]; omega
def FunOk (x : Pg.Fn) : Prop := ∀ (base : Nat) (w : World) (B : Nat) (s : Ws) (bs : List Int) (a1 : Option Addr) (k1 : Nat) (a2 : Option Addr) (k2 : Nat) (a3 : Option Addr) (k3 : Nat), Wr base w B s bs → Rm s bs x.dl → NumL (fun k => k < base) w a1 k1 x.locals → NumL (fun k => k < base) w a2 k2 x.results → StL (fun k => k < base) w a3 k3 x.body →
 Calls Tryz.prog 143 #[.pointer (some ⟨B, 0, none⟩), .agg #[.int .i64 x.params, .slice a1 x.locals.length k1, .slice a2 x.results.length k2, .slice a3 x.body.length k3]] w fun e w' => e = .returned (.tuple #[]) ∧ WrP base w B s bs x.dl w'
theorem fun_any (x : Pg.Fn) : FunOk x := by
 intro base w B s bs a1 k1 a2 k2 a3 k3 h hr hd hx hy
 have hg1 : w.grownBy (w.alloc (.cells #[.int .i64 x.params, .slice a1 x.locals.length k1, .slice a2 x.results.length k2, .slice a3 x.body.length k3] 53)) none := World.grownBy_alloc _ _ _
 have HDL : Hid (x.dl = (((Pg.dCnt x.params).app (Pg.dNumL x.locals)).app (Pg.dNumL x.results)).app (Pg.dStL x.body)) := by
  show _ = _
  rw [Pg.Fn.dl]; simp only [Pg.Dl.app_assoc]
 rw [HDL.out] at hr ⊢
 have R3 : Hid (Rm s bs ((((Pg.dCnt x.params).app (Pg.dNumL x.locals)).app (Pg.dNumL x.results)).app (Pg.dStL x.body))) := hr
 have R2 : Hid (Rm s bs (((Pg.dCnt x.params).app (Pg.dNumL x.locals)).app (Pg.dNumL x.results))) := R3.out.pre
 have R1 : Hid (Rm s bs ((Pg.dCnt x.params).app (Pg.dNumL x.locals))) := R2.out.pre
 have R0 : Hid (Rm s bs (Pg.dCnt x.params)) := R1.out.pre
 have HK : Hid (∀ W, Kp base (w.alloc (.cells #[.int .i64 x.params, .slice a1 x.locals.length k1, .slice a2 x.results.length k2, .slice a3 x.body.length k3] 53)) W → ∀ j v, (#[.int .i64 x.params, .slice a1 x.locals.length k1, .slice a2 x.results.length k2, .slice a3 x.body.length k3] : Array Value)[j]? = some v → W.cell? ⟨w.heap.size, j, none⟩ = some v) := fun W k j v hv => by rw [Kp.cell k (heap_alloc_new w _) ⟨by decide, by decide⟩ j]; exact hv
 have HD : Hid (∀ W, Kp base (w.alloc (.cells #[.int .i64 x.params, .slice a1 x.locals.length k1, .slice a2 x.results.length k2, .slice a3 x.body.length k3] 53)) W → NumL (fun k => k < base) W a1 k1 x.locals) := fun W k => NumL.ch hd ((Kp.of hg1).trans k).ch (fun k hk => not_range hk) (fun _ h => h)
 have HX : Hid (∀ W, Kp base (w.alloc (.cells #[.int .i64 x.params, .slice a1 x.locals.length k1, .slice a2 x.results.length k2, .slice a3 x.body.length k3] 53)) W → NumL (fun k => k < base) W a2 k2 x.results) := fun W k => NumL.ch hx ((Kp.of hg1).trans k).ch (fun k hk => not_range hk) (fun _ h => h)
 have HY : Hid (∀ W, Kp base (w.alloc (.cells #[.int .i64 x.params, .slice a1 x.locals.length k1, .slice a2 x.results.length k2, .slice a3 x.body.length k3] 53)) W → StL (fun k => k < base) W a3 k3 x.body) := fun W k => StL.ch hy ((Kp.of hg1).trans k).ch (fun k hk => not_range hk) (fun _ h => h)
 have K0 : Hid (Kp base (w.alloc (.cells #[.int .i64 x.params, .slice a1 x.locals.length k1, .slice a2 x.results.length k2, .slice a3 x.body.length k3] 53)) (w.alloc (.cells #[.int .i64 x.params, .slice a1 x.locals.length k1, .slice a2 x.results.length k2, .slice a3 x.body.length k3] 53))) := Kp.refl _ _
 have m0 := HK.out (w.alloc (.cells #[.int .i64 x.params, .slice a1 x.locals.length k1, .slice a2 x.results.length k2, .slice a3 x.body.length k3] 53)) K0.out 0 _ rfl
 have HC0 : Hid (Calls Tryz.prog 180 #[.pointer (some ⟨B, 0, none⟩), .int .i64 x.params] (w.alloc (.cells #[.int .i64 x.params, .slice a1 x.locals.length k1, .slice a2 x.results.length k2, .slice a3 x.body.length k3] 53)) fun e w' => e = .returned (.tuple #[]) ∧ WrP base (w.alloc (.cells #[.int .i64 x.params, .slice a1 x.locals.length k1, .slice a2 x.results.length k2, .slice a3 x.body.length k3] 53)) B s bs (Pg.dCnt x.params) w') := (fun hw hr => count_any hw hr) (h.grow hg1) R0.out
 clear h hr hd hx hy
 go_enter Tryz.func143, Tryz.ntmps143
 go_wp2_with (first
  | (go_at_call 180; refine HC0.out.mono ?_; rintro e w2 ⟨rfl, hh⟩; have A1 : Hid (WrP base (w.alloc (.cells #[.int .i64 x.params, .slice a1 x.locals.length k1, .slice a2 x.results.length k2, .slice a3 x.body.length k3] 53)) B s bs (Pg.dCnt x.params) w2) := hh; have K1 : Hid (Kp base (w.alloc (.cells #[.int .i64 x.params, .slice a1 x.locals.length k1, .slice a2 x.results.length k2, .slice a3 x.body.length k3] 53)) w2) := K0.out.trans hh.1; have m1 := HK.out w2 K1.out 1 _ rfl; have HC1 : Hid (Calls Tryz.prog 181 #[.pointer (some ⟨B, 0, none⟩), .slice a1 x.locals.length k1, .func (.func 180) #[.pointer (some ⟨B, 0, none⟩)] #[]] w2 fun e w' => e = .returned (.tuple #[]) ∧ WrP base (w.alloc (.cells #[.int .i64 x.params, .slice a1 x.locals.length k1, .slice a2 x.results.length k2, .slice a3 x.body.length k3] 53)) B s bs ((Pg.dCnt x.params).app (Pg.dNumL x.locals)) w') := A1.out.call R1.out (fun s' bs' hw hr => wNumL hw hr (HD.out w2 (K1.out))); clear hh HC0 m0)
  | (go_at_call 181; refine HC1.out.mono ?_; rintro e w3 ⟨rfl, hh⟩; have A2 : Hid (WrP base (w.alloc (.cells #[.int .i64 x.params, .slice a1 x.locals.length k1, .slice a2 x.results.length k2, .slice a3 x.body.length k3] 53)) B s bs ((Pg.dCnt x.params).app (Pg.dNumL x.locals)) w3) := hh; have K2 : Hid (Kp base (w.alloc (.cells #[.int .i64 x.params, .slice a1 x.locals.length k1, .slice a2 x.results.length k2, .slice a3 x.body.length k3] 53)) w3) := K0.out.trans hh.1; have m2 := HK.out w3 K2.out 2 _ rfl; have HC2 : Hid (Calls Tryz.prog 181 #[.pointer (some ⟨B, 0, none⟩), .slice a2 x.results.length k2, .func (.func 180) #[.pointer (some ⟨B, 0, none⟩)] #[]] w3 fun e w' => e = .returned (.tuple #[]) ∧ WrP base (w.alloc (.cells #[.int .i64 x.params, .slice a1 x.locals.length k1, .slice a2 x.results.length k2, .slice a3 x.body.length k3] 53)) B s bs (((Pg.dCnt x.params).app (Pg.dNumL x.locals)).app (Pg.dNumL x.results)) w') := A2.out.call R2.out (fun s' bs' hw hr => wNumL hw hr (HX.out w3 (K2.out))); clear hh HC1 m1)
  | (go_at_call 181; refine HC2.out.mono ?_; rintro e w4 ⟨rfl, hh⟩; have A3 : Hid (WrP base (w.alloc (.cells #[.int .i64 x.params, .slice a1 x.locals.length k1, .slice a2 x.results.length k2, .slice a3 x.body.length k3] 53)) B s bs (((Pg.dCnt x.params).app (Pg.dNumL x.locals)).app (Pg.dNumL x.results)) w4) := hh; have K3 : Hid (Kp base (w.alloc (.cells #[.int .i64 x.params, .slice a1 x.locals.length k1, .slice a2 x.results.length k2, .slice a3 x.body.length k3] 53)) w4) := K0.out.trans hh.1; have m3 := HK.out w4 K3.out 3 _ rfl; have HC3 : Hid (Calls Tryz.prog 182 #[.pointer (some ⟨B, 0, none⟩), .slice a3 x.body.length k3, .func (.func 183) #[.pointer (some ⟨B, 0, none⟩)] #[]] w4 fun e w' => e = .returned (.tuple #[]) ∧ WrP base (w.alloc (.cells #[.int .i64 x.params, .slice a1 x.locals.length k1, .slice a2 x.results.length k2, .slice a3 x.body.length k3] 53)) B s bs ((((Pg.dCnt x.params).app (Pg.dNumL x.locals)).app (Pg.dNumL x.results)).app (Pg.dStL x.body)) w') := A3.out.call R3.out (fun s' bs' hw hr => wStL hw hr (HY.out w4 (K3.out)) (fun y _ => stmt_any y)); clear hh HC2 m2)
  | (go_at_call 182; refine HC3.out.mono ?_; rintro e w5 ⟨rfl, hh⟩; have A4 : Hid (WrP base (w.alloc (.cells #[.int .i64 x.params, .slice a1 x.locals.length k1, .slice a2 x.results.length k2, .slice a3 x.body.length k3] 53)) B s bs ((((Pg.dCnt x.params).app (Pg.dNumL x.locals)).app (Pg.dNumL x.results)).app (Pg.dStL x.body)) w5) := hh; have K4 : Hid (Kp base (w.alloc (.cells #[.int .i64 x.params, .slice a1 x.locals.length k1, .slice a2 x.results.length k2, .slice a3 x.body.length k3] 53)) w5) := K0.out.trans hh.1; clear hh HC3 m3))
 first | go_end0 | go_returns
 exact ⟨rfl, WrP.from (Kp.of hg1) A4.out⟩
theorem wFs_list {base : Nat} {w : World} {B : Nat} {s : Ws} {bs : List Int} (h : Wr base w B s bs) {l : List Pg.Fn} (hr : Rm s bs ((Pg.dCnt l.length).app (Pg.dCat Pg.Fn.dl l))) {a : Option Addr} {c : Nat} (hL : FnL (fun k => k < base) w a c l) (ih : ∀ x, x ∈ l → FunOk x) :
  Calls Tryz.prog 142 #[.pointer (some ⟨B, 0, none⟩), .slice a l.length c, .func (.func 143) #[.pointer (some ⟨B, 0, none⟩)] #[]] w fun e w' => e = .returned (.tuple #[]) ∧ WrP base w B s bs ((Pg.dCnt l.length).app (Pg.dCat Pg.Fn.dl l)) w' := by
 have hle := hL.le
 have hmx := hL.max
 unfold maxLen at hmx
 have HL : Hid (FnL (fun k => k < base) w a c l) := hL
 have HR : Hid (∀ k, k ≤ l.length → Rm s bs ((Pg.dCnt l.length).app (Pg.dCat Pg.Fn.dl (l.take k)))) := by
  intro k _
  obtain ⟨r1, r2, r3⟩ := hr
  obtain ⟨q1, q2, q3, _⟩ := Pg.dCat_le Pg.Fn.dl l k
  simp only [Pg.Dl.app, List.length_append] at r1 r2 r3
  refine ⟨?_, ?_, ?_⟩
  ·show s.nd + ((Pg.dCnt l.length).nd + _) < _; omega
  ·show s.dp + max (Pg.dCnt l.length).dp _ < _; omega
  ·show bs.length + ((Pg.dCnt l.length).en ++ _).length ≤ _
   rw [List.length_append]; omega
 have HI : Hid (∀ x, x ∈ l → FunOk x) := ih
 have HC := count_any h (n := (l.length : Int)) (by
  have := HR.out 0 (Nat.zero_le _)
  rw [List.take_zero, Pg.dCat, Pg.Dl.app_nil] at this
  exact this)
 clear h hr hL ih
 go_enter Tryz.func142, Tryz.ntmps142
 go_wp2_with (go_at_call 180; refine HC.mono ?_; rintro e w4 ⟨rfl, h4⟩; have H4 : Hid (WrP base w B s bs (Pg.dCnt (l.length : Int)) w4) := h4; clear h4)
 clear HC
 go_loopw [14] (fun ix wr => ∃ k : Nat, ix = .int .i64 k ∧ k ≤ l.length ∧ WrP base w B s bs ((Pg.dCnt l.length).app (Pg.dCat Pg.Fn.dl (l.take k))) wr) (fun ix _ => l.length - (intOf ix).toNat)
 case atStart => exact ⟨0, rfl, Nat.zero_le _, by rw [List.take_zero, Pg.dCat, Pg.Dl.app_nil]; exact H4.out⟩
 case round =>
  obtain ⟨k, rfl, hk, hp⟩ := hrel
  have HP : Hid (WrP base w B s bs ((Pg.dCnt l.length).app (Pg.dCat Pg.Fn.dl (l.take k))) wr) := hp
  by_cases hkn : k < l.length
  case neg =>
   obtain rfl : k = l.length := by omega
   clear hp
   go_wp2
   first | go_end0 | go_returns
   have := HP.out
   rw [List.take_length] at this
   exact ⟨rfl, this⟩
  have hkn' : (k : Int) < l.length := by omega
  have hrow : FnL (fun k => k < base) wr a c l := FnL.ch HL.out hp.1.ch (fun k hk => not_range hk) (fun _ h => h)
  obtain ⟨b, o, rfl, hb, hx⟩ := hrow.at hkn
  have HR1 : Hid (Rm s bs (((Pg.dCnt l.length).app (Pg.dCat Pg.Fn.dl (l.take k))).app (Pg.Fn.dl l[k]))) := by
   have := HR.out (k + 1) (by omega)
   rw [Pg.dCat_succ _ hkn, ← Pg.Dl.app_assoc] at this
   exact this
  have HS : Hid ((Pg.dCnt l.length).app (Pg.dCat Pg.Fn.dl (l.take (k + 1))) = ((Pg.dCnt l.length).app (Pg.dCat Pg.Fn.dl (l.take k))).app (Pg.Fn.dl l[k])) := by
   show _ = _
   rw [Pg.dCat_succ _ hkn, ← Pg.Dl.app_assoc]
  obtain ⟨a1, a2, a3, k1, k2, k3, he⟩ := (id hx)
  have c0 := he.c0
  have c1 := he.c1
  have c2 := he.c2
  have c3 := he.c3
  have HC : Hid (Calls Tryz.prog 143 #[.pointer (some ⟨B, 0, none⟩), .agg #[.int .i64 l[k].params, .slice a1 l[k].locals.length k1, .slice a2 l[k].results.length k2, .slice a3 l[k].body.length k3]] (wr.alloc (.cells #[.int .i64 l[k].params, .slice a1 l[k].locals.length k1, .slice a2 l[k].results.length k2, .slice a3 l[k].body.length k3] 53)) fun e w' => e = .returned (.tuple #[]) ∧ WrP base w B s bs (((Pg.dCnt l.length).app (Pg.dCat Pg.Fn.dl (l.take k))).app (Pg.Fn.dl l[k])) w') := (hp.grow (World.grownBy_alloc _ _ _)).call HR1.out (fun s' bs' hw hr => HI.out l[k] (List.getElem_mem hkn) base _ B s' bs' a1 k1 a2 k2 a3 k3 hw hr (NumL.grow he.l (World.grownBy_alloc _ _ _)) (NumL.grow he.r (World.grownBy_alloc _ _ _)) (StL.grow he.b (World.grownBy_alloc _ _ _)))
  clear he
  clear hp hx hrow
  generalize l[k] = x at *
  go_wp2_with (go_at_call 143; refine HC.out.mono ?_; rintro e w5 ⟨rfl, h5⟩; have H5 : Hid (WrP base w B s bs (((Pg.dCnt l.length).app (Pg.dCat Pg.Fn.dl (l.take k))).app (Pg.Fn.dl x)) w5) := h5; clear h5)
  go_roundw
  case rel => exact ⟨k + 1, by go_num, by omega, by rw [HS.out]; exact H5.out⟩
  case measure => simp [intOf]; omega
theorem wTpL {base : Nat} {w : World} {B : Nat} {s : Ws} {bs : List Int} (h : Wr base w B s bs) {l : List Pg.Tp} (hr : Rm s bs ((Pg.dCnt l.length).app (Pg.dTs l))) {a : Option Addr} {c : Nat} (hL : TpL (fun k => k < base) w a c l) :
  Calls Tryz.prog 140 #[.pointer (some ⟨B, 0, none⟩), .slice a l.length c, .func (.func 141) #[.pointer (some ⟨B, 0, none⟩)] #[]] w fun e w' => e = .returned (.tuple #[]) ∧ WrP base w B s bs ((Pg.dCnt l.length).app (Pg.dTs l)) w' := by
 rw [Pg.dTs_cat] at hr ⊢
 exact wTs_list h hr hL (fun x _ => ent_any x)
theorem wFnL {base : Nat} {w : World} {B : Nat} {s : Ws} {bs : List Int} (h : Wr base w B s bs) {l : List Pg.Fn} (hr : Rm s bs ((Pg.dCnt l.length).app (Pg.dFs l))) {a : Option Addr} {c : Nat} (hL : FnL (fun k => k < base) w a c l) :
  Calls Tryz.prog 142 #[.pointer (some ⟨B, 0, none⟩), .slice a l.length c, .func (.func 143) #[.pointer (some ⟨B, 0, none⟩)] #[]] w fun e w' => e = .returned (.tuple #[]) ∧ WrP base w B s bs ((Pg.dCnt l.length).app (Pg.dFs l)) w' := by
 rw [Pg.dFs_cat] at hr ⊢
 exact wFs_list h hr hL (fun x _ => fun_any x)
def ProgOk (x : Pg.Pr) : Prop := ∀ (base : Nat) (w : World) (B : Nat) (s : Ws) (bs : List Int) (a1 : Option Addr) (k1 : Nat) (a2 : Option Addr) (k2 : Nat), Wr base w B s bs → Rm s bs x.dl → TpL (fun k => k < base) w a1 k1 x.types → FnL (fun k => k < base) w a2 k2 x.funcs →
 Calls Tryz.prog 87 #[.pointer (some ⟨B, 0, none⟩), .agg #[.slice a1 x.types.length k1, .slice a2 x.funcs.length k2]] w fun e w' => e = .returned (.tuple #[]) ∧ WrP base w B s bs x.dl w'
theorem prog_any (x : Pg.Pr) : ProgOk x := by
 intro base w B s bs a1 k1 a2 k2 h hr hd hx
 have hg1 : w.grownBy (w.alloc (.cells #[.slice a1 x.types.length k1, .slice a2 x.funcs.length k2] 27)) none := World.grownBy_alloc _ _ _
 have HDL : Hid (x.dl = ((Pg.dCnt x.types.length).app (Pg.dTs x.types)).app ((Pg.dCnt x.funcs.length).app (Pg.dFs x.funcs))) := by
  show _ = _
  rfl
 rw [HDL.out] at hr ⊢
 have R1 : Hid (Rm s bs (((Pg.dCnt x.types.length).app (Pg.dTs x.types)).app ((Pg.dCnt x.funcs.length).app (Pg.dFs x.funcs)))) := hr
 have R0 : Hid (Rm s bs ((Pg.dCnt x.types.length).app (Pg.dTs x.types))) := R1.out.pre
 have HK : Hid (∀ W, Kp base (w.alloc (.cells #[.slice a1 x.types.length k1, .slice a2 x.funcs.length k2] 27)) W → ∀ j v, (#[.slice a1 x.types.length k1, .slice a2 x.funcs.length k2] : Array Value)[j]? = some v → W.cell? ⟨w.heap.size, j, none⟩ = some v) := fun W k j v hv => by rw [Kp.cell k (heap_alloc_new w _) ⟨by decide, by decide⟩ j]; exact hv
 have HD : Hid (∀ W, Kp base (w.alloc (.cells #[.slice a1 x.types.length k1, .slice a2 x.funcs.length k2] 27)) W → TpL (fun k => k < base) W a1 k1 x.types) := fun W k => TpL.ch hd ((Kp.of hg1).trans k).ch (fun k hk => not_range hk) (fun _ h => h)
 have HX : Hid (∀ W, Kp base (w.alloc (.cells #[.slice a1 x.types.length k1, .slice a2 x.funcs.length k2] 27)) W → FnL (fun k => k < base) W a2 k2 x.funcs) := fun W k => FnL.ch hx ((Kp.of hg1).trans k).ch (fun k hk => not_range hk) (fun _ h => h)
 have K0 : Hid (Kp base (w.alloc (.cells #[.slice a1 x.types.length k1, .slice a2 x.funcs.length k2] 27)) (w.alloc (.cells #[.slice a1 x.types.length k1, .slice a2 x.funcs.length k2] 27))) := Kp.refl _ _
 have m0 := HK.out (w.alloc (.cells #[.slice a1 x.types.length k1, .slice a2 x.funcs.length k2] 27)) K0.out 0 _ rfl
 have HC0 : Hid (Calls Tryz.prog 140 #[.pointer (some ⟨B, 0, none⟩), .slice a1 x.types.length k1, .func (.func 141) #[.pointer (some ⟨B, 0, none⟩)] #[]] (w.alloc (.cells #[.slice a1 x.types.length k1, .slice a2 x.funcs.length k2] 27)) fun e w' => e = .returned (.tuple #[]) ∧ WrP base (w.alloc (.cells #[.slice a1 x.types.length k1, .slice a2 x.funcs.length k2] 27)) B s bs ((Pg.dCnt x.types.length).app (Pg.dTs x.types)) w') := (fun hw hr => wTpL hw hr (HD.out (w.alloc (.cells #[.slice a1 x.types.length k1, .slice a2 x.funcs.length k2] 27)) (K0.out))) (h.grow hg1) R0.out
 clear h hr hd hx
 go_enter Tryz.func87, Tryz.ntmps87
 go_wp2_with (first
  | (go_at_call 140; refine HC0.out.mono ?_; rintro e w2 ⟨rfl, hh⟩; have A1 : Hid (WrP base (w.alloc (.cells #[.slice a1 x.types.length k1, .slice a2 x.funcs.length k2] 27)) B s bs ((Pg.dCnt x.types.length).app (Pg.dTs x.types)) w2) := hh; have K1 : Hid (Kp base (w.alloc (.cells #[.slice a1 x.types.length k1, .slice a2 x.funcs.length k2] 27)) w2) := K0.out.trans hh.1; have m1 := HK.out w2 K1.out 1 _ rfl; have HC1 : Hid (Calls Tryz.prog 142 #[.pointer (some ⟨B, 0, none⟩), .slice a2 x.funcs.length k2, .func (.func 143) #[.pointer (some ⟨B, 0, none⟩)] #[]] w2 fun e w' => e = .returned (.tuple #[]) ∧ WrP base (w.alloc (.cells #[.slice a1 x.types.length k1, .slice a2 x.funcs.length k2] 27)) B s bs (((Pg.dCnt x.types.length).app (Pg.dTs x.types)).app ((Pg.dCnt x.funcs.length).app (Pg.dFs x.funcs))) w') := A1.out.call R1.out (fun s' bs' hw hr => wFnL hw hr (HX.out w2 (K1.out))); clear hh HC0 m0)
  | (go_at_call 142; refine HC1.out.mono ?_; rintro e w3 ⟨rfl, hh⟩; have A2 : Hid (WrP base (w.alloc (.cells #[.slice a1 x.types.length k1, .slice a2 x.funcs.length k2] 27)) B s bs (((Pg.dCnt x.types.length).app (Pg.dTs x.types)).app ((Pg.dCnt x.funcs.length).app (Pg.dFs x.funcs))) w3) := hh; have K2 : Hid (Kp base (w.alloc (.cells #[.slice a1 x.types.length k1, .slice a2 x.funcs.length k2] 27)) w3) := K0.out.trans hh.1; clear hh HC1 m1))
 first | go_end0 | go_returns
 exact ⟨rfl, WrP.from (Kp.of hg1) A2.out⟩
def Pg.Pr.err (p : Pg.Pr) : Int := ((⟨false, 0, 0, 0⟩ : Ws).on p.dl).err
def NewW (w : World) (a1 a2 : Option Addr) (n1 n2 k1 k2 : Nat) : World := (w.alloc (.cells #[.slice a1 n1 k1, .slice a2 n2 k2] 27)).alloc (.cells #[.slice none 0 0, .bool false, .int .i64 0, .int .i64 0, .int .i64 0] 132)
theorem newW_wr (w : World) (a1 a2 : Option Addr) (n1 n2 k1 k2 : Nat) : Wr w.heap.size (NewW w a1 a2 n1 n2 k1 k2) (w.heap.size + 1) ⟨false, 0, 0, 0⟩ [] := by
 refine ⟨by omega, ?_, Nat.le_refl _, .slice none 0 0, ?_, OwnL.nil _ _⟩
 ·unfold NewW; simp; omega
 ·have := heap_alloc_new (w.alloc (.cells #[.slice a1 n1 k1, .slice a2 n2 k2] 27)) (.cells #[.slice none 0 0, .bool false, .int .i64 0, .int .i64 0, .int .i64 0] 132)
  simpa [NewW] using this
theorem newW_grown (w : World) (a1 a2 : Option Addr) (n1 n2 k1 k2 : Nat) : w.grownBy (NewW w a1 a2 n1 n2 k1 k2) none := ga (World.grownBy_alloc _ _ _) _
theorem encode_ok {w : World} {p : Pg.Pr} {a1 a2 : Option Addr} {k1 k2 : Nat} (h : PrC (fun k => k < w.heap.size) w p a1 a2 k1 k2) (hr : Rm ⟨false, 0, 0, 0⟩ [] p.dl) (he : p.err = 0) :
  Calls Tryz.prog 55 #[.agg #[.slice a1 p.types.length k1, .slice a2 p.funcs.length k2]] w fun e w' => ∃ v, e = .returned (.tuple #[v, .int .i64 0]) ∧ OwnL w' w.heap.size v p.dl.en ∧ w.grownBy w' none := by
 have hg := newW_grown w a1 a2 p.types.length p.funcs.length k1 k2
 have HG : Hid (w.grownBy (NewW w a1 a2 p.types.length p.funcs.length k1 k2) none) := hg
 have HE : Hid (((⟨false, 0, 0, 0⟩ : Ws).on p.dl).err = 0) := he
 have HC : Hid (Calls Tryz.prog 87 #[.pointer (some ⟨w.heap.size + 1, 0, none⟩), .agg #[.slice a1 p.types.length k1, .slice a2 p.funcs.length k2]] ((w.alloc (.cells #[.slice a1 p.types.length k1, .slice a2 p.funcs.length k2] 27)).alloc (.cells #[.slice none 0 0, .bool false, .int .i64 0, .int .i64 0, .int .i64 0] 132)) fun e w' => e = .returned (.tuple #[]) ∧ WrP w.heap.size (NewW w a1 a2 p.types.length p.funcs.length k1 k2) (w.heap.size + 1) ⟨false, 0, 0, 0⟩ [] p.dl w') := prog_any p _ _ _ _ _ _ _ _ _ (newW_wr w a1 a2 p.types.length p.funcs.length k1 k2) hr (TpL.grow h.t hg) (FnL.grow h.f hg)
 clear h hr hg he
 go_enter Tryz.func55, Tryz.ntmps55
 go_wp2_with (first
  | (go_at_call 87; refine HC.out.mono ?_; rintro e w4 ⟨rfl, h4⟩; obtain ⟨hk, e4, hw, hl, ho⟩ := h4; have W4 : Hid (Wr w.heap.size w4 (w.heap.size + 1) ((⟨false, 0, 0, 0⟩ : Ws).on p.dl) e4) := hw; have K4 : Hid (Kp w.heap.size w w4) := (Kp.of HG.out).trans hk; have O4 : Hid (e4 = p.dl.en) := ho HE.out; obtain ⟨_, _, _, v, q4, q5⟩ := hw; have V4 : Hid (OwnL w4 w.heap.size v e4) := q5; obtain ⟨ao, cp, rfl, _⟩ := q5.toB.shape; have c0 : w4.cell? ⟨w.heap.size + 1, 0, none⟩ = some (.slice ao e4.length cp) := cell_heap q4 0; clear hk hl ho q4 q5 HC)
  | (go_at_call 88; refine (refusal_any W4.out).mono ?_; rintro e w5 ⟨rfl, hw5⟩; rw [hw5, HE.out]; clear hw5 w5))
 go_returns
 exact ⟨_, rfl, by rw [← O4.out]; exact V4.out, K4.out.below rfl⟩
theorem encode_no {w : World} {p : Pg.Pr} {a1 a2 : Option Addr} {k1 k2 : Nat} (h : PrC (fun k => k < w.heap.size) w p a1 a2 k1 k2) (hr : Rm ⟨false, 0, 0, 0⟩ [] p.dl) (he : p.err ≠ 0) :
  Calls Tryz.prog 55 #[.agg #[.slice a1 p.types.length k1, .slice a2 p.funcs.length k2]] w fun e w' => e = .returned (.tuple #[.slice none 0 0, .int .i64 p.err]) ∧ w.grownBy w' none := by
 have hg := newW_grown w a1 a2 p.types.length p.funcs.length k1 k2
 have HG : Hid (w.grownBy (NewW w a1 a2 p.types.length p.funcs.length k1 k2) none) := hg
 have HC : Hid (Calls Tryz.prog 87 #[.pointer (some ⟨w.heap.size + 1, 0, none⟩), .agg #[.slice a1 p.types.length k1, .slice a2 p.funcs.length k2]] ((w.alloc (.cells #[.slice a1 p.types.length k1, .slice a2 p.funcs.length k2] 27)).alloc (.cells #[.slice none 0 0, .bool false, .int .i64 0, .int .i64 0, .int .i64 0] 132)) fun e w' => e = .returned (.tuple #[]) ∧ WrP w.heap.size (NewW w a1 a2 p.types.length p.funcs.length k1 k2) (w.heap.size + 1) ⟨false, 0, 0, 0⟩ [] p.dl w') := prog_any p _ _ _ _ _ _ _ _ _ (newW_wr w a1 a2 p.types.length p.funcs.length k1 k2) hr (TpL.grow h.t hg) (FnL.grow h.f hg)
 have HP : Hid (((⟨false, 0, 0, 0⟩ : Ws).on p.dl).err = p.err) := rfl
 clear h hr hg
 generalize p.err = E at *
 have he' : (E == 0) = false := by simpa using he
 have hne : (E != 0) = true := by simpa using he
 clear he
 go_enter Tryz.func55, Tryz.ntmps55
 go_wp2_with (first
  | (go_at_call 87; refine HC.out.mono ?_; rintro e w4 ⟨rfl, h4⟩; obtain ⟨hk, e4, hw, hl, ho⟩ := h4; have W4 : Hid (Wr w.heap.size w4 (w.heap.size + 1) ((⟨false, 0, 0, 0⟩ : Ws).on p.dl) e4) := hw; have K4 : Hid (Kp w.heap.size w w4) := (Kp.of HG.out).trans hk; clear hk hl ho hw HC)
  | (go_at_call 88; refine (refusal_any W4.out).mono ?_; rintro e w5 ⟨rfl, hw5⟩; rw [hw5, HP.out]; clear hw5 w5))
 go_returns
 exact ⟨rfl, K4.out.below rfl⟩
end Go.Proofs.YtpcgkggpmipiaaaGreat
namespace Go.Proofs.YtpcgkggpmipiaaaGreat
open Go.RowKit
set_option linter.unusedVariables false
namespace Ty
structure TyV where
 kind : Int
 elem : Int
 n : Int
 nf : Nat
 F : Nat → Int
structure Li where
 size : Int
 align : Int
 words : Int
 arr : Bool
def li0 : Li := ⟨0, 0, 0, false⟩
def up (n a : Int) : Int := (n + a - 1) / a * a
def nmB (many x : Int) : Bool := decide (0 ≤ x) && decide (x < many)
def fldB (x : TyV) (i : Nat) : Bool := decide (x.nf ≤ 16) && (List.range x.nf).all fun k => nmB i (x.F k)
def okB (x : TyV) (i n : Nat) : Bool :=
 if x.kind = 11 ∨ x.kind = 14 then nmB n x.elem && (x.n == 0) && (x.nf == 0)
 else if x.kind = 12 then nmB i x.elem && nmB 65537 x.n && (x.nf == 0)
 else if x.kind = 13 then (x.elem == 0) && (x.n == 0) && fldB x i
 else ((x.kind == 15) || (decide (1 ≤ x.kind) && decide (x.kind ≤ 10))) && (x.elem == 0) && (x.n == 0) && (x.nf == 0)
section
variable (x : TyV) (L : Nat → Li)
def fl (k : Nat) : Li := L (x.F k).toNat
def al : Nat → Int
 | 0 => 1
 | k + 1 => max (al k) (fl x L k).align
def ws : Nat → Int
 | 0 => 0
 | k + 1 => ws k + (fl x L k).words
def ar : Nat → Bool
 | 0 => false
 | k + 1 => ar k || (fl x L k).arr
def en : Nat → Int
 | 0 => 0
 | k + 1 => up (en k) (fl x L k).align + (fl x L k).size
def bg (k : Nat) : Int := up (en x L k) (fl x L k).align
def lieOf : Li :=
 if x.kind = 12 then ⟨x.n * (L x.elem.toNat).size, (L x.elem.toNat).align, 0, true⟩
 else if x.kind = 13 then ⟨up (en x L x.nf) (al x L x.nf), al x L x.nf, ws x L x.nf, ar x L x.nf⟩
 else if x.kind = 14 ∨ x.kind = 15 then ⟨16, 8, 2, false⟩
 else ⟨Wd.by' x.kind, Wd.by' x.kind, 1, false⟩
end
theorem al_congr {x : TyV} {L M : Nat → Li} : ∀ {k : Nat}, (∀ j, j < k → fl x L j = fl x M j) → al x L k = al x M k
 | 0, _ => rfl
 | k + 1, h => by rw [al, al, al_congr fun j hj => h j (by omega), h k (by omega)]
theorem ws_congr {x : TyV} {L M : Nat → Li} : ∀ {k : Nat}, (∀ j, j < k → fl x L j = fl x M j) → ws x L k = ws x M k
 | 0, _ => rfl
 | k + 1, h => by rw [ws, ws, ws_congr fun j hj => h j (by omega), h k (by omega)]
theorem ar_congr {x : TyV} {L M : Nat → Li} : ∀ {k : Nat}, (∀ j, j < k → fl x L j = fl x M j) → ar x L k = ar x M k
 | 0, _ => rfl
 | k + 1, h => by rw [ar, ar, ar_congr fun j hj => h j (by omega), h k (by omega)]
theorem en_congr {x : TyV} {L M : Nat → Li} : ∀ {k : Nat}, (∀ j, j < k → fl x L j = fl x M j) → en x L k = en x M k
 | 0, _ => rfl
 | k + 1, h => by rw [en, en, en_congr fun j hj => h j (by omega), h k (by omega)]
theorem nmB_iff {many x : Int} : nmB many x = true ↔ 0 ≤ x ∧ x < many := by unfold nmB; simp
theorem fldB_iff {x : TyV} {i : Nat} : fldB x i = true ↔ x.nf ≤ 16 ∧ ∀ k, k < x.nf → 0 ≤ x.F k ∧ x.F k < i := by
 unfold fldB
 simp only [Bool.and_eq_true, decide_eq_true_eq, List.all_eq_true, List.mem_range, nmB_iff]
theorem ok_cases {x : TyV} {i n : Nat} (h : okB x i n = true) :
  (x.kind = 12 ∧ 0 ≤ x.elem ∧ x.elem < i ∧ 0 ≤ x.n ∧ x.n ≤ 65536 ∧ x.nf = 0) ∨ (x.kind = 13 ∧ x.elem = 0 ∧ x.n = 0 ∧ x.nf ≤ 16 ∧ ∀ k, k < x.nf → 0 ≤ x.F k ∧ x.F k < i) ∨
  ((x.kind = 14 ∨ x.kind = 15) ∧ x.n = 0 ∧ x.nf = 0) ∨ (1 ≤ x.kind ∧ x.kind ≤ 11 ∧ x.n = 0 ∧ x.nf = 0) := by
 unfold okB at h
 split at h
 ·simp only [Bool.and_eq_true, beq_iff_eq] at h
  rename_i hk
  rcases hk with hk | hk
  ·exact .inr (.inr (.inr ⟨by omega, by omega, h.1.2, h.2⟩))
  ·exact .inr (.inr (.inl ⟨.inl hk, h.1.2, h.2⟩))
 ·split at h
  ·simp only [Bool.and_eq_true, beq_iff_eq, nmB_iff] at h
   exact .inl ⟨by assumption, h.1.1.1, h.1.1.2, h.1.2.1, by omega, h.2⟩
  ·split at h
   ·simp only [Bool.and_eq_true, beq_iff_eq] at h
    have := fldB_iff.1 h.2
    exact .inr (.inl ⟨by assumption, h.1.1, h.1.2, this.1, this.2⟩)
   ·simp only [Bool.and_eq_true, Bool.or_eq_true, beq_iff_eq, decide_eq_true_eq] at h
    rcases h.1.1.1 with hk | hk
    ·exact .inr (.inr (.inl ⟨.inr hk, h.1.2, h.2⟩))
    ·exact .inr (.inr (.inr ⟨hk.1, by omega, h.1.2, h.2⟩))
theorem lieOf_congr {x : TyV} {i n : Nat} {L M : Nat → Li} (h : okB x i n = true) (e : ∀ j, j < i → L j = M j) : lieOf x L = lieOf x M := by
 unfold lieOf
 rcases ok_cases h with ⟨hk, h1, h2, _⟩ | ⟨hk, _, _, _, hf⟩ | ⟨hk, _⟩ | ⟨h1, h2, _⟩
 ·rw [if_pos hk, if_pos hk, e _ (by omega)]
 ·have hf' : ∀ j, j < x.nf → fl x L j = fl x M j := fun j hj => by unfold fl; exact e _ (by have := hf j hj; omega)
  have h12 : ¬ x.kind = 12 := by omega
  rw [if_neg h12, if_neg h12, if_pos hk, if_pos hk, en_congr hf', al_congr hf', ws_congr hf', ar_congr hf']
 ·have h12 : ¬ x.kind = 12 := by omega
  have h13 : ¬ x.kind = 13 := by omega
  rw [if_neg h12, if_neg h12, if_neg h13, if_neg h13]
 ·have h12 : ¬ x.kind = 12 := by omega
  have h13 : ¬ x.kind = 13 := by omega
  rw [if_neg h12, if_neg h12, if_neg h13, if_neg h13]
def lies (T : Nat → TyV) : Nat → Nat → Li
 | 0 => fun _ => li0
 | n + 1 => fun i => if i = n then lieOf (T n) (lies T n) else lies T n i
def lie (T : Nat → TyV) (i : Nat) : Li := lies T (i + 1) i
theorem lies_lie (T : Nat → TyV) : ∀ {n i : Nat}, i < n → lies T n i = lie T i
 | n + 1, i, h => by
  by_cases e : i = n
  ·subst e; rfl
  ·show (if i = n then _ else _) = _
   rw [if_neg e]
   exact lies_lie T (by omega)
theorem lie_eq {T : Nat → TyV} {i n : Nat} (h : okB (T i) i n = true) : lie T i = lieOf (T i) (lie T) := by
 show (if i = i then _ else _) = _
 rw [if_pos rfl]
 exact lieOf_congr h fun j hj => lies_lie T hj
def Fine (T : Nat → TyV) (n i : Nat) : Prop := ∀ j, j < i → okB (T j) j n = true ∧ (lie T j).size ≤ 65536
def Al (a : Int) : Prop := a = 1 ∨ a = 2 ∨ a = 4 ∨ a = 8
theorem Al.pos {a : Int} (h : Al a) : 1 ≤ a := by rcases h with rfl | rfl | rfl | rfl <;> omega
theorem Al.le {a : Int} (h : Al a) : a ≤ 8 := by rcases h with rfl | rfl | rfl | rfl <;> omega
theorem up_spec {n a : Int} (ha : Al a) : n ≤ up n a ∧ up n a < n + a ∧ up n a % a = 0 := by
 unfold up
 rcases ha with rfl | rfl | rfl | rfl <;> omega
theorem Al.max {a b : Int} (ha : Al a) (hb : Al b) : Al (max a b) := by
 unfold Al at *
 omega
structure Good (l : Li) : Prop where
 al : Al l.align
 w0 : 0 ≤ l.words
 ws : l.words ≤ l.size
 md : l.size % l.align = 0
theorem al_al {x : TyV} {L : Nat → Li} : ∀ {k : Nat}, (∀ j, j < k → Good (fl x L j)) → Al (al x L k)
 | 0, _ => .inl rfl
 | k + 1, h => (al_al fun j hj => h j (by omega)).max (h k (by omega)).al
theorem en_spec {x : TyV} {L : Nat → Li} : ∀ {k : Nat}, (∀ j, j < k → Good (fl x L j) ∧ (fl x L j).size ≤ 65536) → 0 ≤ ws x L k ∧ ws x L k ≤ en x L k ∧ en x L k ≤ 65544 * k
 | 0, _ => by simp [ws, en]
 | k + 1, h => by
  obtain ⟨h1, h2, h3⟩ := en_spec (k := k) fun j hj => h j (by omega)
  obtain ⟨hg, hs⟩ := h k (by omega)
  have hu := up_spec (n := en x L k) hg.al
  have := hg.al.le
  have := hg.w0
  have := hg.ws
  rw [ws, en]
  refine ⟨by omega, by omega, ?_⟩
  push_cast
  omega
theorem by_al {k : Int} (h1 : 1 ≤ k) (h2 : k ≤ 11) : Al (Wd.by' k) := by
 have : k = 1 ∨ k = 2 ∨ k = 3 ∨ k = 4 ∨ k = 5 ∨ k = 6 ∨ k = 7 ∨ k = 8 ∨ k = 9 ∨ k = 10 ∨ k = 11 := by omega
 rcases this with rfl | rfl | rfl | rfl | rfl | rfl | rfl | rfl | rfl | rfl | rfl <;> simp [Al, Wd.by', Wd.wid]
theorem mul_mod {n s a : Int} (h : s % a = 0) : n * s % a = 0 := by
 rw [Int.mul_emod, h]; simp
theorem lieOf_good {x : TyV} {L : Nat → Li} {i n : Nat} (h : okB x i n = true) (hL : ∀ j, j < i → Good (L j) ∧ (L j).size ≤ 65536) : Good (lieOf x L) ∧ (lieOf x L).size ≤ 4294967296 := by
 unfold lieOf
 rcases ok_cases h with ⟨hk, h1, h2, h3, h4, _⟩ | ⟨hk, _, _, h16, hf⟩ | ⟨hk, _⟩ | ⟨h1, h2, _⟩
 ·rw [if_pos hk]
  obtain ⟨hg, hs⟩ := hL x.elem.toNat (by omega)
  have h0 : 0 ≤ (L x.elem.toNat).size := by have := hg.w0; have := hg.ws; omega
  refine ⟨⟨hg.al, Int.le_refl _, Int.mul_nonneg h3 h0, mul_mod hg.md⟩, ?_⟩
  show x.n * _ ≤ _
  have := Int.mul_le_mul h4 hs h0 (by omega)
  omega
 ·rw [if_neg (by omega), if_pos hk]
  have hf' : ∀ j, j < x.nf → Good (fl x L j) ∧ (fl x L j).size ≤ 65536 := fun j hj => hL _ (by have := hf j hj; omega)
  obtain ⟨e1, e2, e3⟩ := en_spec hf'
  have ha := al_al fun j hj => (hf' j hj).1
  have hu := up_spec (n := en x L x.nf) ha
  have := ha.le
  refine ⟨⟨ha, e1, ?_, hu.2.2⟩, ?_⟩
  ·show ws x L x.nf ≤ up _ _
   omega
  ·show up _ _ ≤ _
   omega
 ·rw [if_neg (by omega), if_neg (by omega), if_pos hk]
  exact ⟨⟨.inr (.inr (.inr rfl)), by show (0 : Int) ≤ 2; omega, by show (2 : Int) ≤ 16; omega, rfl⟩, by show (16 : Int) ≤ _; omega⟩
 ·rw [if_neg (by omega), if_neg (by omega), if_neg (by omega)]
  have := by_al h1 h2
  have h3 := this.pos
  have h4 := this.le
  exact ⟨⟨this, by show (0 : Int) ≤ 1; omega, h3, by show Wd.by' x.kind % Wd.by' x.kind = 0; exact Int.emod_self⟩, by show Wd.by' x.kind ≤ _; omega⟩
theorem Fine.mono {T : Nat → TyV} {n i j : Nat} (h : Fine T n i) (hj : j ≤ i) : Fine T n j := fun k hk => h k (by omega)
theorem Fine.good {T : Nat → TyV} {n : Nat} : ∀ {i : Nat}, Fine T n i → ∀ j, j < i → Good (lie T j) ∧ (lie T j).size ≤ 65536
 | 0, _, _, h => by omega
 | i + 1, h, j, hj => by
  by_cases e : j < i
  ·exact Fine.good (h.mono (by omega)) j e
  ·obtain rfl : j = i := by omega
   refine ⟨?_, (h j (by omega)).2⟩
   rw [lie_eq (h j (by omega)).1]
   exact (lieOf_good (h j (by omega)).1 fun k hk => Fine.good (h.mono (by omega)) k hk).1
theorem Fine.next {T : Nat → TyV} {n i : Nat} (h : Fine T n i) (ho : okB (T i) i n = true) : Good (lie T i) ∧ (lie T i).size ≤ 4294967296 := by
 rw [lie_eq ho]
 exact lieOf_good ho h.good
end Ty
end Go.Proofs.YtpcgkggpmipiaaaGreat
namespace Go.Proofs.YtpcgkggpmipiaaaGreat
set_option maxRecDepth 100000
set_option maxHeartbeats 32000000
open Go.RowKit
set_option linter.unusedVariables false
structure TyC (N : Nat) (w : World) (b o : Nat) (x : Ty.TyV) (fa : Option Addr) (fc : Nat) : Prop where
 c0 : w.cell? ⟨b, o, none⟩ = some (.int .i64 x.kind)
 c1 : w.cell? ⟨b, o + 1, none⟩ = some (.int .i64 x.elem)
 c2 : w.cell? ⟨b, o + 2, none⟩ = some (.int .i64 x.n)
 c3 : w.cell? ⟨b, o + 3, none⟩ = some (.slice fa x.nf fc)
 f : NumIn N w fa x.nf fc x.F
 nz : fa = none → x.nf = 0 ∧ fc = 0
theorem TyC.ch {N : Nat} {w w' : World} {b o : Nat} {x : Ty.TyV} {fa : Option Addr} {fc : Nat} {l : List Nat} (h : TyC N w b o x fa fc) (hg : Ch w w' l) (hl : ∀ k, k ∈ l → N ≤ k) (hb : b ∉ l) : TyC N w' b o x fa fc :=
 ⟨hg.cell h.c0 hb, hg.cell h.c1 hb, hg.cell h.c2 hb, hg.cell h.c3 hb, h.f.ch hg hl, h.nz⟩
structure TysIn (N : Nat) (w : World) (a : Option Addr) (n c : Nat) (T : Nat → Ty.TyV) : Prop where
 le : n ≤ c
 max : c ≤ maxLen
 lie : n = 0 ∨ ∃ b off, a = some ⟨b, off, none⟩ ∧ b < N ∧ ∀ i, i < n → ∃ fa fc, TyC N w b (off + i * 4) (T i) fa fc
theorem TysIn.ch {N : Nat} {w w' : World} {a : Option Addr} {n c : Nat} {T : Nat → Ty.TyV} {l : List Nat} (h : TysIn N w a n c T) (hg : Ch w w' l) (hl : ∀ k, k ∈ l → N ≤ k) : TysIn N w' a n c T :=
 ⟨h.le, h.max, by
  rcases h.lie with h0 | ⟨b, off, e, hb, hi⟩
  ·exact .inl h0
  ·exact .inr ⟨b, off, e, hb, fun i hi' => by obtain ⟨fa, fc, hc⟩ := hi i hi'; exact ⟨fa, fc, hc.ch hg hl (fun hm => by have := hl b hm; omega)⟩⟩⟩
theorem TysIn.at {N : Nat} {w : World} {a : Option Addr} {n c : Nat} {T : Nat → Ty.TyV} (h : TysIn N w a n c T) {i : Nat} (hi : i < n) : ∃ b off fa fc, a = some ⟨b, off, none⟩ ∧ b < N ∧ TyC N w b (off + i * 4) (T i) fa fc := by
 rcases h.lie with h0 | ⟨b, off, e, hb, hh⟩
 ·omega
 ·obtain ⟨fa, fc, hc⟩ := hh i hi
  exact ⟨b, off, fa, fc, e, hb, hc⟩
theorem NumIn.up {N M : Nat} {w : World} {a : Option Addr} {n c : Nat} {F : Nat → Int} (h : NumIn N w a n c F) (hM : N ≤ M) : NumIn M w a n c F :=
 ⟨h.le, h.max, by
  rcases h.lie with h0 | ⟨b, off, e, hb, hi⟩
  ·exact .inl h0
  ·exact .inr ⟨b, off, e, Nat.lt_of_lt_of_le hb hM, hi⟩⟩
theorem TysIn.up {N M : Nat} {w : World} {a : Option Addr} {n c : Nat} {T : Nat → Ty.TyV} (h : TysIn N w a n c T) (hM : N ≤ M) : TysIn M w a n c T :=
 ⟨h.le, h.max, by
  rcases h.lie with h0 | ⟨b, off, e, hb, hi⟩
  ·exact .inl h0
  ·exact .inr ⟨b, off, e, Nat.lt_of_lt_of_le hb hM, fun i hi' => by obtain ⟨fa, fc, hc⟩ := hi i hi'; exact ⟨fa, fc, hc.c0, hc.c1, hc.c2, hc.c3, hc.f.up hM, hc.nz⟩⟩⟩
theorem nm_any (many x : Int) (w : World) : Calls Tryz.prog 187 #[.int .i64 many, .int .i64 x] w fun e w' => e = .returned (.bool (Ty.nmB many x)) ∧ w' = w := by
 go_enter Tryz.func187, Tryz.ntmps187
 go_wp2
 all_goals (go_ret; refine ⟨ret_bool ?_, rfl⟩; unfold Ty.nmB; first | rfl | (rw [Bool.eq_iff_iff]; simp at *; try omega))
theorem up_any {n a : Int} (ha : Ty.Al a) (h0 : 0 ≤ n) (h1 : n ≤ 1099511627776) (w : World) : Calls Tryz.prog 239 #[.int .i64 n, .int .i64 a] w fun e w' => e = .returned (.int .i64 (Ty.up n a)) ∧ w' = w := by
 rcases ha with rfl | rfl | rfl | rfl
 all_goals (
  go_enter Tryz.func239, Tryz.ntmps239
  go_wp2
  go_ret
  refine ⟨ret_i64 ?_, rfl⟩
  unfold Ty.up
  try omega)
theorem large_any (l : Ty.Li) (w : World) : Calls Tryz.prog 186 #[.agg #[.int .i64 l.size, .int .i64 l.align, .int .i64 l.words, .bool l.arr]] w fun e w' => e = .returned (.bool (decide (65536 < l.size))) ∧ w.grownBy w' none := by
 go_enter Tryz.func186, Tryz.ntmps186
 go_wp2
 go_ret
 exact ⟨rfl, World.grownBy_alloc _ _ _⟩
def Ty.valB (l : Ty.Li) : Bool := !l.arr && decide (l.words ≤ 16)
theorem value_any (l : Ty.Li) (w : World) : Calls Tryz.prog 146 #[.agg #[.int .i64 l.size, .int .i64 l.align, .int .i64 l.words, .bool l.arr]] w fun e w' => e = .returned (.bool (Ty.valB l)) ∧ w.grownBy w' none := by
 obtain ⟨s, a, k, r⟩ := l
 unfold Ty.valB
 simp only
 cases r
 all_goals (
  go_enter Tryz.func146, Tryz.ntmps146
  go_wp2
  all_goals (go_ret; exact ⟨by first | rfl | simp_all, World.grownBy_alloc _ _ _⟩))
theorem Ty.fld_no {x : Ty.TyV} {i k : Nat} (hk : k < x.nf) (h : Ty.nmB i (x.F k) = false) : Ty.fldB x i = false := by
 cases hh : Ty.fldB x i
 ·rfl
 ·have h1 := (Ty.fldB_iff.1 hh).2 k hk
  rw [Ty.nmB_iff.2 h1] at h
  cases h
theorem flds_any {N : Nat} {w : World} {x : Ty.TyV} {fa : Option Addr} {fc : Nat} (h : NumIn N w fa x.nf fc x.F) (i : Nat) :
  Calls Tryz.prog 230 #[.slice fa x.nf fc, .int .i64 i] w fun e w' => e = .returned (.bool (Ty.fldB x i)) ∧ w' = w := by
 have hle := h.le
 have hmx := h.max
 unfold maxLen at hmx
 by_cases h16 : x.nf ≤ 16
 ·have h16' : (x.nf : Int) ≤ 16 := by omega
  obtain ⟨R, hR⟩ : ∃ R, R = Ty.fldB x i := ⟨_, rfl⟩
  rw [← hR]
  have HR : Hid (R = Ty.fldB x i) := hR
  clear hR
  obtain ⟨n, hn⟩ : ∃ n, n = x.nf := ⟨_, rfl⟩
  have Hn : Hid (n = x.nf) := hn
  rw [← hn] at h16' hle ⊢
  have H : Hid (NumIn N w fa n fc x.F) := by show NumIn _ _ _ _ _ _; rw [hn]; exact h
  clear hn h
  go_enter Tryz.func230, Tryz.ntmps230
  go_wp2_with fail
  go_loopw [12] (fun ix wr => ∃ k : Nat, ix = .int .i64 k ∧ k ≤ n ∧ (∀ j, j < k → Ty.nmB i (x.F j) = true) ∧ wr = w) (fun ix _ => n - (intOf ix).toNat)
  case atStart => exact ⟨0, rfl, Nat.zero_le _, fun j hj => by omega, rfl⟩
  case round =>
   obtain ⟨k, rfl, hk, hj, rfl⟩ := hrel
   by_cases hkn : k < n
   ·have hkn' : (k : Int) < n := by omega
    obtain ⟨b, off, rfl, hb, hc⟩ := H.out.at hkn
    cases hm : Ty.nmB i (x.F k)
    ·have HC : Hid (∀ W, Calls Tryz.prog 187 #[.int .i64 i, .int .i64 (x.F k)] W fun e w' => e = .returned (.bool false) ∧ w' = W) := fun W => by rw [← hm]; exact nm_any _ _ _
     have e : R = false := HR.out.trans (Ty.fld_no (by rw [← Hn.out]; exact hkn) hm)
     generalize x.F k = y at *
     clear hj
     go_wp2_with (go_at_call 187; refine (HC.out _).mono ?_; rintro e w3 ⟨rfl, rfl⟩)
     go_ret
     exact ⟨by rw [e]; rfl, rfl⟩
    ·have HC : Hid (∀ W, Calls Tryz.prog 187 #[.int .i64 i, .int .i64 (x.F k)] W fun e w' => e = .returned (.bool true) ∧ w' = W) := fun W => by rw [← hm]; exact nm_any _ _ _
     have HJ : Hid (∀ j, j < k + 1 → Ty.nmB i (x.F j) = true) := fun j hj' => by
      by_cases e : j = k
      ·subst e; exact hm
      ·exact hj j (by omega)
     clear hj hm
     generalize x.F k = y at hc HC
     go_wp2_with (go_at_call 187; refine (HC.out _).mono ?_; rintro e w3 ⟨rfl, rfl⟩)
     go_roundw
     case rel => exact ⟨k + 1, by go_num, by omega, HJ.out, by first | rfl | trivial⟩
     case measure => simp [intOf]; omega
   ·obtain rfl : k = n := by omega
    have e : R = true := HR.out.trans (Ty.fldB_iff.2 ⟨h16, fun j hj' => Ty.nmB_iff.1 (hj j (by rw [Hn.out]; exact hj'))⟩)
    clear hj
    go_wp2
    go_ret
    exact ⟨by rw [e]; rfl, rfl⟩
 ·have h16' : (16 : Int) < x.nf := by omega
  have e : Ty.fldB x i = false := by
   cases hh : Ty.fldB x i
   ·rfl
   ·have := (Ty.fldB_iff.1 hh).1; omega
  rw [e]
  clear e h
  generalize x.nf = n at *
  go_enter Tryz.func230, Tryz.ntmps230
  go_wp2
  go_ret
  exact ⟨rfl, rfl⟩
theorem entry_any {N : Nat} {w : World} {x : Ty.TyV} {fa : Option Addr} {fc : Nat} (h : NumIn N w fa x.nf fc x.F) (i n : Nat) :
  Calls Tryz.prog 215 #[.agg #[.int .i64 x.kind, .int .i64 x.elem, .int .i64 x.n, .slice fa x.nf fc], .int .i64 i, .int .i64 n] w fun e w' => e = .returned (.bool (Ty.okB x i n)) ∧ w.grownBy w' none := by
 have hle := h.le
 have hmx := h.max
 unfold maxLen at hmx
 have HF : Hid (∀ W, w.grownBy W none → Calls Tryz.prog 230 #[.slice fa x.nf fc, .int .i64 i] W fun e w' => e = .returned (.bool (Ty.fldB x i)) ∧ w' = W) := fun W hg => flds_any (h.ch (l := []) (Ch.of hg) (by simp)) i
 have HN : Hid (∀ m y W, Calls Tryz.prog 187 #[.int .i64 m, .int .i64 y] W fun e w' => e = .returned (.bool (Ty.nmB m y)) ∧ w' = W) := nm_any
 have hz : (x.nf == 0) = ((x.nf : Int) == 0) := by rw [Bool.eq_iff_iff]; simp
 obtain ⟨R, hR⟩ : ∃ R, R = Ty.okB x i n := ⟨_, rfl⟩
 rw [← hR]
 unfold Ty.okB at hR
 rw [hz] at hR
 have HG : Hid (w.grownBy (w.alloc (Obj.cells #[.int .i64 x.kind, .int .i64 x.elem, .int .i64 x.n, .slice fa x.nf fc] 61)) none) := World.grownBy_alloc w _ none
 clear h hz
 generalize Ty.fldB x i = fb at *
 obtain ⟨k, el, nn, nf, F⟩ := x
 simp only at *
 have hc : k = 11 ∨ k = 14 ∨ k = 12 ∨ k = 13 ∨ ((k == 11) = false ∧ (k == 14) = false ∧ (k == 12) = false ∧ (k == 13) = false) := by
  simp only [beq_eq_false_iff_ne]; omega
 rcases hc with rfl | rfl | rfl | rfl | ⟨k1, k2, k3, k4⟩
 ·rw [if_pos (by decide)] at hR
  have HC : Hid (∀ W, Calls Tryz.prog 187 #[.int .i64 n, .int .i64 el] W fun e w' => e = .returned (.bool (Ty.nmB n el)) ∧ w' = W) := HN.out n el
  generalize Ty.nmB n el = b1 at *
  clear HN HF
  have hq : b1 = false ∨ (b1 = true ∧ (nn == 0) = false) ∨ (b1 = true ∧ (nn == 0) = true ∧ ((nf : Int) == 0) = false) ∨ (b1 = true ∧ (nn == 0) = true ∧ ((nf : Int) == 0) = true) := by
   cases b1 <;> cases nn == 0 <;> cases (nf : Int) == 0 <;> simp
  rcases hq with rfl | ⟨rfl, e2⟩ | ⟨rfl, e2, e3⟩ | ⟨rfl, e2, e3⟩
  all_goals (
   simp [*] at hR
   subst hR
   go_enter Tryz.func215, Tryz.ntmps215
   go_wp2_with ((go_at_call 187; refine (HC.out _).mono ?_; rintro e w3 ⟨rfl, rfl⟩))
   go_ret
   exact ⟨rfl, HG.out⟩)
 ·rw [if_pos (by decide)] at hR
  have HC : Hid (∀ W, Calls Tryz.prog 187 #[.int .i64 n, .int .i64 el] W fun e w' => e = .returned (.bool (Ty.nmB n el)) ∧ w' = W) := HN.out n el
  generalize Ty.nmB n el = b1 at *
  clear HN HF
  have hq : b1 = false ∨ (b1 = true ∧ (nn == 0) = false) ∨ (b1 = true ∧ (nn == 0) = true ∧ ((nf : Int) == 0) = false) ∨ (b1 = true ∧ (nn == 0) = true ∧ ((nf : Int) == 0) = true) := by
   cases b1 <;> cases nn == 0 <;> cases (nf : Int) == 0 <;> simp
  rcases hq with rfl | ⟨rfl, e2⟩ | ⟨rfl, e2, e3⟩ | ⟨rfl, e2, e3⟩
  all_goals (
   simp [*] at hR
   subst hR
   go_enter Tryz.func215, Tryz.ntmps215
   go_wp2_with ((go_at_call 187; refine (HC.out _).mono ?_; rintro e w3 ⟨rfl, rfl⟩))
   go_ret
   exact ⟨rfl, HG.out⟩)
 ·rw [if_neg (by decide), if_pos rfl] at hR
  have HC : Hid (∀ W, Calls Tryz.prog 187 #[.int .i64 i, .int .i64 el] W fun e w' => e = .returned (.bool (Ty.nmB i el)) ∧ w' = W) := HN.out i el
  generalize Ty.nmB i el = b1 at *
  have HD : Hid (∀ W, Calls Tryz.prog 187 #[.int .i64 65537, .int .i64 nn] W fun e w' => e = .returned (.bool (Ty.nmB 65537 nn)) ∧ w' = W) := HN.out 65537 nn
  generalize Ty.nmB 65537 nn = b2 at *
  clear HN HF
  cases b1 <;> cases b2 <;> cases e3 : (nf : Int) == 0
  all_goals (
   simp [e3] at hR
   subst hR
   go_enter Tryz.func215, Tryz.ntmps215
   go_wp2_with (first | (go_at_call_of 187 (Value.int .i64 (i : Int)); refine (HC.out _).mono ?_; rintro e w3 ⟨rfl, rfl⟩) | (go_at_call 187; refine (HD.out _).mono ?_; rintro e w3 ⟨rfl, rfl⟩))
   go_ret
   exact ⟨rfl, HG.out⟩)
 ·rw [if_neg (by decide), if_neg (by decide), if_pos rfl] at hR
  have HD := HF.out _ HG.out
  have HD' : Hid (Calls Tryz.prog 230 #[.slice fa nf fc, .int .i64 i] (w.alloc (Obj.cells #[.int .i64 13, .int .i64 el, .int .i64 nn, .slice fa nf fc] 61)) fun e w' => e = .returned (.bool fb) ∧ w' = (w.alloc (Obj.cells #[.int .i64 13, .int .i64 el, .int .i64 nn, .slice fa nf fc] 61))) := HD
  clear HN HF HD
  cases fb <;> cases e1 : el == 0 <;> cases e2 : nn == 0
  all_goals (
   simp [e1, e2] at hR
   subst hR
   go_enter Tryz.func215, Tryz.ntmps215
   go_wp2_with (go_at_call 230; refine HD'.out.mono ?_; rintro e w3 ⟨rfl, rfl⟩)
   go_ret
   exact ⟨rfl, HG.out⟩)
 ·rw [if_neg (by simp_all), if_neg (by simp_all), if_neg (by simp_all)] at hR
  clear HN HF
  have hp : (k == 15) = true ∨ ((k == 15) = false ∧ decide (1 ≤ k) = true ∧ decide (k ≤ 10) = true) ∨ ((k == 15) = false ∧ decide (1 ≤ k) = true ∧ decide (k ≤ 10) = false) ∨ ((k == 15) = false ∧ decide (1 ≤ k) = false) := by
   cases k == 15 <;> cases decide (1 ≤ k) <;> cases decide (k ≤ 10) <;> simp
  have hq : (el == 0) = false ∨ ((el == 0) = true ∧ (nn == 0) = false) ∨ ((el == 0) = true ∧ (nn == 0) = true ∧ ((nf : Int) == 0) = false) ∨ ((el == 0) = true ∧ (nn == 0) = true ∧ ((nf : Int) == 0) = true) := by
   cases el == 0 <;> cases nn == 0 <;> cases (nf : Int) == 0 <;> simp
  rcases hp with e0 | ⟨e0, e4, e5⟩ | ⟨e0, e4, e5⟩ | ⟨e0, e4⟩
  ·rcases hq with e1 | ⟨e1, e2⟩ | ⟨e1, e2, e3⟩ | ⟨e1, e2, e3⟩
   all_goals (
    simp only [*, Bool.true_or, Bool.and_true, Bool.and_false, Bool.false_and] at hR
    subst hR
    go_enter Tryz.func215, Tryz.ntmps215
    go_wp2
    go_ret
    exact ⟨rfl, HG.out⟩)
  ·rcases hq with e1 | ⟨e1, e2⟩ | ⟨e1, e2, e3⟩ | ⟨e1, e2, e3⟩
   all_goals (
    simp only [*, Bool.false_or, Bool.and_true, Bool.and_false, Bool.false_and] at hR
    subst hR
    go_enter Tryz.func215, Tryz.ntmps215
    go_wp2
    go_ret
    exact ⟨rfl, HG.out⟩)
  ·simp only [e0, e4, e5, Bool.and_false, Bool.false_or, Bool.false_and] at hR
   subst hR
   clear hq
   go_enter Tryz.func215, Tryz.ntmps215
   go_wp2
   go_ret
   exact ⟨rfl, HG.out⟩
  ·simp only [e0, e4, Bool.false_or, Bool.false_and] at hR
   subst hR
   clear hq
   go_enter Tryz.func215, Tryz.ntmps215
   go_wp2
   go_ret
   exact ⟨rfl, HG.out⟩
end Go.Proofs.YtpcgkggpmipiaaaGreat
