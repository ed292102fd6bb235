/- Contracts and plain facts that the walks share. -/
import Derived.Test.YtljdjkiejppenaaRwSt
namespace Go.Proofs.Ytljdjkiejppenaa
open Go.RowKit
set_option linter.unusedVariables false
def EntOk (x : Pg.Tp) : Prop := ∀ (base : Nat) (w : World) (B : Nat) (s : Ws) (bs : List Int) (a1 : Option Addr) (k1 : Nat), Wr base w B s bs → Rm s bs x.dl → NumL (fun k => k < base) w a1 k1 x.fields →
  Calls Try.prog 46 #[.pointer (some ⟨B, 0, none⟩), .agg #[.int .i64 x.kind, .int .i64 x.elem, .int .i64 x.n, .slice a1 x.fields.length k1]] w fun e w' => e = .returned (.tuple #[]) ∧ WrP base w B s bs x.dl w'
set_option maxRecDepth 100000 in
set_option maxHeartbeats 8000000 in
theorem ent_any (x : Pg.Tp) : EntOk x := by
  intro base w B s bs a1 k1 h hr hd
  have hg1 : w.grownBy (w.alloc (.cells #[.int .i64 x.kind, .int .i64 x.elem, .int .i64 x.n, .slice a1 x.fields.length k1] 51)) none := World.grownBy_alloc _ _ _
  have HDL : Hid (x.dl = (((Pg.dCnt x.kind).app (Pg.dCnt x.elem)).app (Pg.dCnt x.n)).app (Pg.dNumL x.fields)) := by
    show _ = _
    rw [Pg.Tp.dl]; simp only [Pg.Dl.app_assoc]
  rw [HDL.out] at hr ⊢
  have R3 : Hid (Rm s bs ((((Pg.dCnt x.kind).app (Pg.dCnt x.elem)).app (Pg.dCnt x.n)).app (Pg.dNumL x.fields))) := hr
  have R2 : Hid (Rm s bs (((Pg.dCnt x.kind).app (Pg.dCnt x.elem)).app (Pg.dCnt x.n))) := R3.out.pre
  have R1 : Hid (Rm s bs ((Pg.dCnt x.kind).app (Pg.dCnt x.elem))) := R2.out.pre
  have R0 : Hid (Rm s bs (Pg.dCnt x.kind)) := R1.out.pre
  have HK : Hid (∀ W, Kp base (w.alloc (.cells #[.int .i64 x.kind, .int .i64 x.elem, .int .i64 x.n, .slice a1 x.fields.length k1] 51)) W → ∀ j v, (#[.int .i64 x.kind, .int .i64 x.elem, .int .i64 x.n, .slice a1 x.fields.length k1] : Array Value)[j]? = some v → W.cell? ⟨w.heap.size, j, none⟩ = some v) := fun W k j v hv => by rw [Kp.cell k (heap_alloc_new w _) ⟨by decide, by decide⟩ j]; exact hv
  have HD : Hid (∀ W, Kp base (w.alloc (.cells #[.int .i64 x.kind, .int .i64 x.elem, .int .i64 x.n, .slice a1 x.fields.length k1] 51)) W → NumL (fun k => k < base) W a1 k1 x.fields) := fun W k => NumL.ch hd ((Kp.of hg1).trans k).ch (fun k hk => not_range hk) (fun _ h => h)
  have K0 : Hid (Kp base (w.alloc (.cells #[.int .i64 x.kind, .int .i64 x.elem, .int .i64 x.n, .slice a1 x.fields.length k1] 51)) (w.alloc (.cells #[.int .i64 x.kind, .int .i64 x.elem, .int .i64 x.n, .slice a1 x.fields.length k1] 51))) := Kp.refl _ _
  have m0 := HK.out (w.alloc (.cells #[.int .i64 x.kind, .int .i64 x.elem, .int .i64 x.n, .slice a1 x.fields.length k1] 51)) K0.out 0 _ rfl
  have HC0 : Hid (Calls Try.prog 68 #[.pointer (some ⟨B, 0, none⟩), .int .i64 x.kind] (w.alloc (.cells #[.int .i64 x.kind, .int .i64 x.elem, .int .i64 x.n, .slice a1 x.fields.length k1] 51)) fun e w' => e = .returned (.tuple #[]) ∧ WrP base (w.alloc (.cells #[.int .i64 x.kind, .int .i64 x.elem, .int .i64 x.n, .slice a1 x.fields.length k1] 51)) B s bs (Pg.dCnt x.kind) w') := (fun hw hr => count_any hw hr) (h.grow hg1) R0.out
  clear h hr hd
  go_enter Try.func46, Try.ntmps46
  go_wp2_with (first
    | (go_at_call 68; refine HC0.out.mono ?_; rintro e w2 ⟨rfl, hh⟩; have A1 : Hid (WrP base (w.alloc (.cells #[.int .i64 x.kind, .int .i64 x.elem, .int .i64 x.n, .slice a1 x.fields.length k1] 51)) B s bs (Pg.dCnt x.kind) w2) := hh; have K1 : Hid (Kp base (w.alloc (.cells #[.int .i64 x.kind, .int .i64 x.elem, .int .i64 x.n, .slice a1 x.fields.length k1] 51)) w2) := K0.out.trans hh.1; have m1 := HK.out w2 K1.out 1 _ rfl; have HC1 : Hid (Calls Try.prog 68 #[.pointer (some ⟨B, 0, none⟩), .int .i64 x.elem] w2 fun e w' => e = .returned (.tuple #[]) ∧ WrP base (w.alloc (.cells #[.int .i64 x.kind, .int .i64 x.elem, .int .i64 x.n, .slice a1 x.fields.length k1] 51)) B s bs ((Pg.dCnt x.kind).app (Pg.dCnt x.elem)) w') := A1.out.call R1.out (fun s' bs' hw hr => count_any hw hr); clear hh HC0 m0)
    | (go_at_call 68; refine HC1.out.mono ?_; rintro e w3 ⟨rfl, hh⟩; have A2 : Hid (WrP base (w.alloc (.cells #[.int .i64 x.kind, .int .i64 x.elem, .int .i64 x.n, .slice a1 x.fields.length k1] 51)) B s bs ((Pg.dCnt x.kind).app (Pg.dCnt x.elem)) w3) := hh; have K2 : Hid (Kp base (w.alloc (.cells #[.int .i64 x.kind, .int .i64 x.elem, .int .i64 x.n, .slice a1 x.fields.length k1] 51)) w3) := K0.out.trans hh.1; have m2 := HK.out w3 K2.out 2 _ rfl; have HC2 : Hid (Calls Try.prog 68 #[.pointer (some ⟨B, 0, none⟩), .int .i64 x.n] w3 fun e w' => e = .returned (.tuple #[]) ∧ WrP base (w.alloc (.cells #[.int .i64 x.kind, .int .i64 x.elem, .int .i64 x.n, .slice a1 x.fields.length k1] 51)) B s bs (((Pg.dCnt x.kind).app (Pg.dCnt x.elem)).app (Pg.dCnt x.n)) w') := A2.out.call R2.out (fun s' bs' hw hr => count_any hw hr); clear hh HC1 m1)
    | (go_at_call 68; refine HC2.out.mono ?_; rintro e w4 ⟨rfl, hh⟩; have A3 : Hid (WrP base (w.alloc (.cells #[.int .i64 x.kind, .int .i64 x.elem, .int .i64 x.n, .slice a1 x.fields.length k1] 51)) B s bs (((Pg.dCnt x.kind).app (Pg.dCnt x.elem)).app (Pg.dCnt x.n)) w4) := hh; have K3 : Hid (Kp base (w.alloc (.cells #[.int .i64 x.kind, .int .i64 x.elem, .int .i64 x.n, .slice a1 x.fields.length k1] 51)) w4) := K0.out.trans hh.1; have m3 := HK.out w4 K3.out 3 _ rfl; have HC3 : Hid (Calls Try.prog 69 #[.pointer (some ⟨B, 0, none⟩), .slice a1 x.fields.length k1, .func (.func 68) #[.pointer (some ⟨B, 0, none⟩)] #[]] w4 fun e w' => e = .returned (.tuple #[]) ∧ WrP base (w.alloc (.cells #[.int .i64 x.kind, .int .i64 x.elem, .int .i64 x.n, .slice a1 x.fields.length k1] 51)) B s bs ((((Pg.dCnt x.kind).app (Pg.dCnt x.elem)).app (Pg.dCnt x.n)).app (Pg.dNumL x.fields)) w') := A3.out.call R3.out (fun s' bs' hw hr => wNumL hw hr (HD.out w4 (K3.out))); clear hh HC2 m2)
    | (go_at_call 69; refine HC3.out.mono ?_; rintro e w5 ⟨rfl, hh⟩; have A4 : Hid (WrP base (w.alloc (.cells #[.int .i64 x.kind, .int .i64 x.elem, .int .i64 x.n, .slice a1 x.fields.length k1] 51)) B s bs ((((Pg.dCnt x.kind).app (Pg.dCnt x.elem)).app (Pg.dCnt x.n)).app (Pg.dNumL x.fields)) w5) := hh; have K4 : Hid (Kp base (w.alloc (.cells #[.int .i64 x.kind, .int .i64 x.elem, .int .i64 x.n, .slice a1 x.fields.length k1] 51)) w5) := K0.out.trans hh.1; clear hh HC3 m3))
  first | go_end0 | go_returns
  exact ⟨rfl, WrP.from (Kp.of hg1) A4.out⟩
set_option maxRecDepth 100000 in
set_option maxHeartbeats 8000000 in
theorem wTs_list {base : Nat} {w : World} {B : Nat} {s : Ws} {bs : List Int} (h : Wr base w B s bs) {l : List Pg.Tp} (hr : Rm s bs ((Pg.dCnt l.length).app (Pg.dCat Pg.Tp.dl l))) {a : Option Addr} {c : Nat} (hL : TpL (fun k => k < base) w a c l) (ih : ∀ x, x ∈ l → EntOk x) :
    Calls Try.prog 45 #[.pointer (some ⟨B, 0, none⟩), .slice a l.length c, .func (.func 46) #[.pointer (some ⟨B, 0, none⟩)] #[]] w fun e w' => e = .returned (.tuple #[]) ∧ WrP base w B s bs ((Pg.dCnt l.length).app (Pg.dCat Pg.Tp.dl l)) w' := by
  have hle := hL.le
  have hmx := hL.max
  unfold maxLen at hmx
  have HL : Hid (TpL (fun k => k < base) w a c l) := hL
  have HR : Hid (∀ k, k ≤ l.length → Rm s bs ((Pg.dCnt l.length).app (Pg.dCat Pg.Tp.dl (l.take k)))) := by
    intro k _
    obtain ⟨r1, r2, r3⟩ := hr
    obtain ⟨q1, q2, q3, _⟩ := Pg.dCat_le Pg.Tp.dl l k
    simp only [Pg.Dl.app, List.length_append] at r1 r2 r3
    refine ⟨?_, ?_, ?_⟩
    · show s.nd + ((Pg.dCnt l.length).nd + _) < _; omega
    · show s.dp + max (Pg.dCnt l.length).dp _ < _; omega
    · show bs.length + ((Pg.dCnt l.length).en ++ _).length ≤ _
      rw [List.length_append]; omega
  have HI : Hid (∀ x, x ∈ l → EntOk x) := ih
  have HC := count_any h (n := (l.length : Int)) (by
    have := HR.out 0 (Nat.zero_le _)
    rw [List.take_zero, Pg.dCat, Pg.Dl.app_nil] at this
    exact this)
  clear h hr hL ih
  go_enter Try.func45, Try.ntmps45
  go_wp2_with (go_at_call 68; refine HC.mono ?_; rintro e w4 ⟨rfl, h4⟩; have H4 : Hid (WrP base w B s bs (Pg.dCnt (l.length : Int)) w4) := h4; clear h4)
  clear HC
  go_loopw [14] (fun ix wr => ∃ k : Nat, ix = .int .i64 k ∧ k ≤ l.length ∧ WrP base w B s bs ((Pg.dCnt l.length).app (Pg.dCat Pg.Tp.dl (l.take k))) wr) (fun ix _ => l.length - (intOf ix).toNat)
  case atStart => exact ⟨0, rfl, Nat.zero_le _, by rw [List.take_zero, Pg.dCat, Pg.Dl.app_nil]; exact H4.out⟩
  case round =>
    obtain ⟨k, rfl, hk, hp⟩ := hrel
    have HP : Hid (WrP base w B s bs ((Pg.dCnt l.length).app (Pg.dCat Pg.Tp.dl (l.take k))) wr) := hp
    by_cases hkn : k < l.length
    case neg =>
      obtain rfl : k = l.length := by omega
      clear hp
      go_wp2
      first | go_end0 | go_returns
      have := HP.out
      rw [List.take_length] at this
      exact ⟨rfl, this⟩
    have hkn' : (k : Int) < l.length := by omega
    have hrow : TpL (fun k => k < base) wr a c l := TpL.ch HL.out hp.1.ch (fun k hk => not_range hk) (fun _ h => h)
    obtain ⟨b, o, rfl, hb, hx⟩ := hrow.at hkn
    have HR1 : Hid (Rm s bs (((Pg.dCnt l.length).app (Pg.dCat Pg.Tp.dl (l.take k))).app (Pg.Tp.dl l[k]))) := by
      have := HR.out (k + 1) (by omega)
      rw [Pg.dCat_succ _ hkn, ← Pg.Dl.app_assoc] at this
      exact this
    have HS : Hid ((Pg.dCnt l.length).app (Pg.dCat Pg.Tp.dl (l.take (k + 1))) = ((Pg.dCnt l.length).app (Pg.dCat Pg.Tp.dl (l.take k))).app (Pg.Tp.dl l[k])) := by
      show _ = _
      rw [Pg.dCat_succ _ hkn, ← Pg.Dl.app_assoc]
    obtain ⟨a1, k1, he⟩ := (id hx)
    have c0 := he.c0
    have c1 := he.c1
    have c2 := he.c2
    have c3 := he.c3
    have HC : Hid (Calls Try.prog 46 #[.pointer (some ⟨B, 0, none⟩), .agg #[.int .i64 l[k].kind, .int .i64 l[k].elem, .int .i64 l[k].n, .slice a1 l[k].fields.length k1]] (wr.alloc (.cells #[.int .i64 l[k].kind, .int .i64 l[k].elem, .int .i64 l[k].n, .slice a1 l[k].fields.length k1] 51)) fun e w' => e = .returned (.tuple #[]) ∧ WrP base w B s bs (((Pg.dCnt l.length).app (Pg.dCat Pg.Tp.dl (l.take k))).app (Pg.Tp.dl l[k])) w') := (hp.grow (World.grownBy_alloc _ _ _)).call HR1.out (fun s' bs' hw hr => HI.out l[k] (List.getElem_mem hkn) base _ B s' bs' a1 k1 hw hr (NumL.grow he.f (World.grownBy_alloc _ _ _)))
    clear he
    clear hp hx hrow
    generalize l[k] = x at *
    go_wp2_with (go_at_call 46; refine HC.out.mono ?_; rintro e w5 ⟨rfl, h5⟩; have H5 : Hid (WrP base w B s bs (((Pg.dCnt l.length).app (Pg.dCat Pg.Tp.dl (l.take k))).app (Pg.Tp.dl x)) w5) := h5; clear h5)
    go_roundw
    case rel => exact ⟨k + 1, by go_num, by omega, by rw [HS.out]; exact H5.out⟩
    case measure => simp [intOf]; omega
def FunOk (x : Pg.Fn) : Prop := ∀ (base : Nat) (w : World) (B : Nat) (s : Ws) (bs : List Int) (a1 : Option Addr) (k1 : Nat) (a2 : Option Addr) (k2 : Nat) (a3 : Option Addr) (k3 : Nat), Wr base w B s bs → Rm s bs x.dl → NumL (fun k => k < base) w a1 k1 x.locals → NumL (fun k => k < base) w a2 k2 x.results → StL (fun k => k < base) w a3 k3 x.body →
  Calls Try.prog 48 #[.pointer (some ⟨B, 0, none⟩), .agg #[.int .i64 x.params, .slice a1 x.locals.length k1, .slice a2 x.results.length k2, .slice a3 x.body.length k3]] w fun e w' => e = .returned (.tuple #[]) ∧ WrP base w B s bs x.dl w'
set_option maxRecDepth 100000 in
set_option maxHeartbeats 8000000 in
theorem fun_any (x : Pg.Fn) : FunOk x := by
  intro base w B s bs a1 k1 a2 k2 a3 k3 h hr hd hx hy
  have hg1 : w.grownBy (w.alloc (.cells #[.int .i64 x.params, .slice a1 x.locals.length k1, .slice a2 x.results.length k2, .slice a3 x.body.length k3] 55)) none := World.grownBy_alloc _ _ _
  have HDL : Hid (x.dl = (((Pg.dCnt x.params).app (Pg.dNumL x.locals)).app (Pg.dNumL x.results)).app (Pg.dStL x.body)) := by
    show _ = _
    rw [Pg.Fn.dl]; simp only [Pg.Dl.app_assoc]
  rw [HDL.out] at hr ⊢
  have R3 : Hid (Rm s bs ((((Pg.dCnt x.params).app (Pg.dNumL x.locals)).app (Pg.dNumL x.results)).app (Pg.dStL x.body))) := hr
  have R2 : Hid (Rm s bs (((Pg.dCnt x.params).app (Pg.dNumL x.locals)).app (Pg.dNumL x.results))) := R3.out.pre
  have R1 : Hid (Rm s bs ((Pg.dCnt x.params).app (Pg.dNumL x.locals))) := R2.out.pre
  have R0 : Hid (Rm s bs (Pg.dCnt x.params)) := R1.out.pre
  have HK : Hid (∀ W, Kp base (w.alloc (.cells #[.int .i64 x.params, .slice a1 x.locals.length k1, .slice a2 x.results.length k2, .slice a3 x.body.length k3] 55)) W → ∀ j v, (#[.int .i64 x.params, .slice a1 x.locals.length k1, .slice a2 x.results.length k2, .slice a3 x.body.length k3] : Array Value)[j]? = some v → W.cell? ⟨w.heap.size, j, none⟩ = some v) := fun W k j v hv => by rw [Kp.cell k (heap_alloc_new w _) ⟨by decide, by decide⟩ j]; exact hv
  have HD : Hid (∀ W, Kp base (w.alloc (.cells #[.int .i64 x.params, .slice a1 x.locals.length k1, .slice a2 x.results.length k2, .slice a3 x.body.length k3] 55)) W → NumL (fun k => k < base) W a1 k1 x.locals) := fun W k => NumL.ch hd ((Kp.of hg1).trans k).ch (fun k hk => not_range hk) (fun _ h => h)
  have HX : Hid (∀ W, Kp base (w.alloc (.cells #[.int .i64 x.params, .slice a1 x.locals.length k1, .slice a2 x.results.length k2, .slice a3 x.body.length k3] 55)) W → NumL (fun k => k < base) W a2 k2 x.results) := fun W k => NumL.ch hx ((Kp.of hg1).trans k).ch (fun k hk => not_range hk) (fun _ h => h)
  have HY : Hid (∀ W, Kp base (w.alloc (.cells #[.int .i64 x.params, .slice a1 x.locals.length k1, .slice a2 x.results.length k2, .slice a3 x.body.length k3] 55)) W → StL (fun k => k < base) W a3 k3 x.body) := fun W k => StL.ch hy ((Kp.of hg1).trans k).ch (fun k hk => not_range hk) (fun _ h => h)
  have K0 : Hid (Kp base (w.alloc (.cells #[.int .i64 x.params, .slice a1 x.locals.length k1, .slice a2 x.results.length k2, .slice a3 x.body.length k3] 55)) (w.alloc (.cells #[.int .i64 x.params, .slice a1 x.locals.length k1, .slice a2 x.results.length k2, .slice a3 x.body.length k3] 55))) := Kp.refl _ _
  have m0 := HK.out (w.alloc (.cells #[.int .i64 x.params, .slice a1 x.locals.length k1, .slice a2 x.results.length k2, .slice a3 x.body.length k3] 55)) K0.out 0 _ rfl
  have HC0 : Hid (Calls Try.prog 68 #[.pointer (some ⟨B, 0, none⟩), .int .i64 x.params] (w.alloc (.cells #[.int .i64 x.params, .slice a1 x.locals.length k1, .slice a2 x.results.length k2, .slice a3 x.body.length k3] 55)) fun e w' => e = .returned (.tuple #[]) ∧ WrP base (w.alloc (.cells #[.int .i64 x.params, .slice a1 x.locals.length k1, .slice a2 x.results.length k2, .slice a3 x.body.length k3] 55)) B s bs (Pg.dCnt x.params) w') := (fun hw hr => count_any hw hr) (h.grow hg1) R0.out
  clear h hr hd hx hy
  go_enter Try.func48, Try.ntmps48
  go_wp2_with (first
    | (go_at_call 68; refine HC0.out.mono ?_; rintro e w2 ⟨rfl, hh⟩; have A1 : Hid (WrP base (w.alloc (.cells #[.int .i64 x.params, .slice a1 x.locals.length k1, .slice a2 x.results.length k2, .slice a3 x.body.length k3] 55)) B s bs (Pg.dCnt x.params) w2) := hh; have K1 : Hid (Kp base (w.alloc (.cells #[.int .i64 x.params, .slice a1 x.locals.length k1, .slice a2 x.results.length k2, .slice a3 x.body.length k3] 55)) w2) := K0.out.trans hh.1; have m1 := HK.out w2 K1.out 1 _ rfl; have HC1 : Hid (Calls Try.prog 69 #[.pointer (some ⟨B, 0, none⟩), .slice a1 x.locals.length k1, .func (.func 68) #[.pointer (some ⟨B, 0, none⟩)] #[]] w2 fun e w' => e = .returned (.tuple #[]) ∧ WrP base (w.alloc (.cells #[.int .i64 x.params, .slice a1 x.locals.length k1, .slice a2 x.results.length k2, .slice a3 x.body.length k3] 55)) B s bs ((Pg.dCnt x.params).app (Pg.dNumL x.locals)) w') := A1.out.call R1.out (fun s' bs' hw hr => wNumL hw hr (HD.out w2 (K1.out))); clear hh HC0 m0)
    | (go_at_call 69; refine HC1.out.mono ?_; rintro e w3 ⟨rfl, hh⟩; have A2 : Hid (WrP base (w.alloc (.cells #[.int .i64 x.params, .slice a1 x.locals.length k1, .slice a2 x.results.length k2, .slice a3 x.body.length k3] 55)) B s bs ((Pg.dCnt x.params).app (Pg.dNumL x.locals)) w3) := hh; have K2 : Hid (Kp base (w.alloc (.cells #[.int .i64 x.params, .slice a1 x.locals.length k1, .slice a2 x.results.length k2, .slice a3 x.body.length k3] 55)) w3) := K0.out.trans hh.1; have m2 := HK.out w3 K2.out 2 _ rfl; have HC2 : Hid (Calls Try.prog 69 #[.pointer (some ⟨B, 0, none⟩), .slice a2 x.results.length k2, .func (.func 68) #[.pointer (some ⟨B, 0, none⟩)] #[]] w3 fun e w' => e = .returned (.tuple #[]) ∧ WrP base (w.alloc (.cells #[.int .i64 x.params, .slice a1 x.locals.length k1, .slice a2 x.results.length k2, .slice a3 x.body.length k3] 55)) B s bs (((Pg.dCnt x.params).app (Pg.dNumL x.locals)).app (Pg.dNumL x.results)) w') := A2.out.call R2.out (fun s' bs' hw hr => wNumL hw hr (HX.out w3 (K2.out))); clear hh HC1 m1)
    | (go_at_call 69; refine HC2.out.mono ?_; rintro e w4 ⟨rfl, hh⟩; have A3 : Hid (WrP base (w.alloc (.cells #[.int .i64 x.params, .slice a1 x.locals.length k1, .slice a2 x.results.length k2, .slice a3 x.body.length k3] 55)) B s bs (((Pg.dCnt x.params).app (Pg.dNumL x.locals)).app (Pg.dNumL x.results)) w4) := hh; have K3 : Hid (Kp base (w.alloc (.cells #[.int .i64 x.params, .slice a1 x.locals.length k1, .slice a2 x.results.length k2, .slice a3 x.body.length k3] 55)) w4) := K0.out.trans hh.1; have m3 := HK.out w4 K3.out 3 _ rfl; have HC3 : Hid (Calls Try.prog 70 #[.pointer (some ⟨B, 0, none⟩), .slice a3 x.body.length k3, .func (.func 71) #[.pointer (some ⟨B, 0, none⟩)] #[]] w4 fun e w' => e = .returned (.tuple #[]) ∧ WrP base (w.alloc (.cells #[.int .i64 x.params, .slice a1 x.locals.length k1, .slice a2 x.results.length k2, .slice a3 x.body.length k3] 55)) B s bs ((((Pg.dCnt x.params).app (Pg.dNumL x.locals)).app (Pg.dNumL x.results)).app (Pg.dStL x.body)) w') := A3.out.call R3.out (fun s' bs' hw hr => wStL hw hr (HY.out w4 (K3.out)) (fun y _ => stmt_any y)); clear hh HC2 m2)
    | (go_at_call 70; refine HC3.out.mono ?_; rintro e w5 ⟨rfl, hh⟩; have A4 : Hid (WrP base (w.alloc (.cells #[.int .i64 x.params, .slice a1 x.locals.length k1, .slice a2 x.results.length k2, .slice a3 x.body.length k3] 55)) B s bs ((((Pg.dCnt x.params).app (Pg.dNumL x.locals)).app (Pg.dNumL x.results)).app (Pg.dStL x.body)) w5) := hh; have K4 : Hid (Kp base (w.alloc (.cells #[.int .i64 x.params, .slice a1 x.locals.length k1, .slice a2 x.results.length k2, .slice a3 x.body.length k3] 55)) w5) := K0.out.trans hh.1; clear hh HC3 m3))
  first | go_end0 | go_returns
  exact ⟨rfl, WrP.from (Kp.of hg1) A4.out⟩
set_option maxRecDepth 100000 in
set_option maxHeartbeats 8000000 in
theorem wFs_list {base : Nat} {w : World} {B : Nat} {s : Ws} {bs : List Int} (h : Wr base w B s bs) {l : List Pg.Fn} (hr : Rm s bs ((Pg.dCnt l.length).app (Pg.dCat Pg.Fn.dl l))) {a : Option Addr} {c : Nat} (hL : FnL (fun k => k < base) w a c l) (ih : ∀ x, x ∈ l → FunOk x) :
    Calls Try.prog 47 #[.pointer (some ⟨B, 0, none⟩), .slice a l.length c, .func (.func 48) #[.pointer (some ⟨B, 0, none⟩)] #[]] w fun e w' => e = .returned (.tuple #[]) ∧ WrP base w B s bs ((Pg.dCnt l.length).app (Pg.dCat Pg.Fn.dl l)) w' := by
  have hle := hL.le
  have hmx := hL.max
  unfold maxLen at hmx
  have HL : Hid (FnL (fun k => k < base) w a c l) := hL
  have HR : Hid (∀ k, k ≤ l.length → Rm s bs ((Pg.dCnt l.length).app (Pg.dCat Pg.Fn.dl (l.take k)))) := by
    intro k _
    obtain ⟨r1, r2, r3⟩ := hr
    obtain ⟨q1, q2, q3, _⟩ := Pg.dCat_le Pg.Fn.dl l k
    simp only [Pg.Dl.app, List.length_append] at r1 r2 r3
    refine ⟨?_, ?_, ?_⟩
    · show s.nd + ((Pg.dCnt l.length).nd + _) < _; omega
    · show s.dp + max (Pg.dCnt l.length).dp _ < _; omega
    · show bs.length + ((Pg.dCnt l.length).en ++ _).length ≤ _
      rw [List.length_append]; omega
  have HI : Hid (∀ x, x ∈ l → FunOk x) := ih
  have HC := count_any h (n := (l.length : Int)) (by
    have := HR.out 0 (Nat.zero_le _)
    rw [List.take_zero, Pg.dCat, Pg.Dl.app_nil] at this
    exact this)
  clear h hr hL ih
  go_enter Try.func47, Try.ntmps47
  go_wp2_with (go_at_call 68; refine HC.mono ?_; rintro e w4 ⟨rfl, h4⟩; have H4 : Hid (WrP base w B s bs (Pg.dCnt (l.length : Int)) w4) := h4; clear h4)
  clear HC
  go_loopw [14] (fun ix wr => ∃ k : Nat, ix = .int .i64 k ∧ k ≤ l.length ∧ WrP base w B s bs ((Pg.dCnt l.length).app (Pg.dCat Pg.Fn.dl (l.take k))) wr) (fun ix _ => l.length - (intOf ix).toNat)
  case atStart => exact ⟨0, rfl, Nat.zero_le _, by rw [List.take_zero, Pg.dCat, Pg.Dl.app_nil]; exact H4.out⟩
  case round =>
    obtain ⟨k, rfl, hk, hp⟩ := hrel
    have HP : Hid (WrP base w B s bs ((Pg.dCnt l.length).app (Pg.dCat Pg.Fn.dl (l.take k))) wr) := hp
    by_cases hkn : k < l.length
    case neg =>
      obtain rfl : k = l.length := by omega
      clear hp
      go_wp2
      first | go_end0 | go_returns
      have := HP.out
      rw [List.take_length] at this
      exact ⟨rfl, this⟩
    have hkn' : (k : Int) < l.length := by omega
    have hrow : FnL (fun k => k < base) wr a c l := FnL.ch HL.out hp.1.ch (fun k hk => not_range hk) (fun _ h => h)
    obtain ⟨b, o, rfl, hb, hx⟩ := hrow.at hkn
    have HR1 : Hid (Rm s bs (((Pg.dCnt l.length).app (Pg.dCat Pg.Fn.dl (l.take k))).app (Pg.Fn.dl l[k]))) := by
      have := HR.out (k + 1) (by omega)
      rw [Pg.dCat_succ _ hkn, ← Pg.Dl.app_assoc] at this
      exact this
    have HS : Hid ((Pg.dCnt l.length).app (Pg.dCat Pg.Fn.dl (l.take (k + 1))) = ((Pg.dCnt l.length).app (Pg.dCat Pg.Fn.dl (l.take k))).app (Pg.Fn.dl l[k])) := by
      show _ = _
      rw [Pg.dCat_succ _ hkn, ← Pg.Dl.app_assoc]
    obtain ⟨a1, a2, a3, k1, k2, k3, he⟩ := (id hx)
    have c0 := he.c0
    have c1 := he.c1
    have c2 := he.c2
    have c3 := he.c3
    have HC : Hid (Calls Try.prog 48 #[.pointer (some ⟨B, 0, none⟩), .agg #[.int .i64 l[k].params, .slice a1 l[k].locals.length k1, .slice a2 l[k].results.length k2, .slice a3 l[k].body.length k3]] (wr.alloc (.cells #[.int .i64 l[k].params, .slice a1 l[k].locals.length k1, .slice a2 l[k].results.length k2, .slice a3 l[k].body.length k3] 55)) fun e w' => e = .returned (.tuple #[]) ∧ WrP base w B s bs (((Pg.dCnt l.length).app (Pg.dCat Pg.Fn.dl (l.take k))).app (Pg.Fn.dl l[k])) w') := (hp.grow (World.grownBy_alloc _ _ _)).call HR1.out (fun s' bs' hw hr => HI.out l[k] (List.getElem_mem hkn) base _ B s' bs' a1 k1 a2 k2 a3 k3 hw hr (NumL.grow he.l (World.grownBy_alloc _ _ _)) (NumL.grow he.r (World.grownBy_alloc _ _ _)) (StL.grow he.b (World.grownBy_alloc _ _ _)))
    clear he
    clear hp hx hrow
    generalize l[k] = x at *
    go_wp2_with (go_at_call 48; refine HC.out.mono ?_; rintro e w5 ⟨rfl, h5⟩; have H5 : Hid (WrP base w B s bs (((Pg.dCnt l.length).app (Pg.dCat Pg.Fn.dl (l.take k))).app (Pg.Fn.dl x)) w5) := h5; clear h5)
    go_roundw
    case rel => exact ⟨k + 1, by go_num, by omega, by rw [HS.out]; exact H5.out⟩
    case measure => simp [intOf]; omega
theorem wTpL {base : Nat} {w : World} {B : Nat} {s : Ws} {bs : List Int} (h : Wr base w B s bs) {l : List Pg.Tp} (hr : Rm s bs ((Pg.dCnt l.length).app (Pg.dTs l))) {a : Option Addr} {c : Nat} (hL : TpL (fun k => k < base) w a c l) :
    Calls Try.prog 45 #[.pointer (some ⟨B, 0, none⟩), .slice a l.length c, .func (.func 46) #[.pointer (some ⟨B, 0, none⟩)] #[]] w fun e w' => e = .returned (.tuple #[]) ∧ WrP base w B s bs ((Pg.dCnt l.length).app (Pg.dTs l)) w' := by
  rw [Pg.dTs_cat] at hr ⊢
  exact wTs_list h hr hL (fun x _ => ent_any x)
theorem wFnL {base : Nat} {w : World} {B : Nat} {s : Ws} {bs : List Int} (h : Wr base w B s bs) {l : List Pg.Fn} (hr : Rm s bs ((Pg.dCnt l.length).app (Pg.dFs l))) {a : Option Addr} {c : Nat} (hL : FnL (fun k => k < base) w a c l) :
    Calls Try.prog 47 #[.pointer (some ⟨B, 0, none⟩), .slice a l.length c, .func (.func 48) #[.pointer (some ⟨B, 0, none⟩)] #[]] w fun e w' => e = .returned (.tuple #[]) ∧ WrP base w B s bs ((Pg.dCnt l.length).app (Pg.dFs l)) w' := by
  rw [Pg.dFs_cat] at hr ⊢
  exact wFs_list h hr hL (fun x _ => fun_any x)
def ProgOk (x : Pg.Pr) : Prop := ∀ (base : Nat) (w : World) (B : Nat) (s : Ws) (bs : List Int) (a1 : Option Addr) (k1 : Nat) (a2 : Option Addr) (k2 : Nat), Wr base w B s bs → Rm s bs x.dl → TpL (fun k => k < base) w a1 k1 x.types → FnL (fun k => k < base) w a2 k2 x.funcs →
  Calls Try.prog 23 #[.pointer (some ⟨B, 0, none⟩), .agg #[.slice a1 x.types.length k1, .slice a2 x.funcs.length k2]] w fun e w' => e = .returned (.tuple #[]) ∧ WrP base w B s bs x.dl w'
set_option maxRecDepth 100000 in
set_option maxHeartbeats 8000000 in
theorem prog_any (x : Pg.Pr) : ProgOk x := by
  intro base w B s bs a1 k1 a2 k2 h hr hd hx
  have hg1 : w.grownBy (w.alloc (.cells #[.slice a1 x.types.length k1, .slice a2 x.funcs.length k2] 27)) none := World.grownBy_alloc _ _ _
  have HDL : Hid (x.dl = ((Pg.dCnt x.types.length).app (Pg.dTs x.types)).app ((Pg.dCnt x.funcs.length).app (Pg.dFs x.funcs))) := by
    show _ = _
    rfl
  rw [HDL.out] at hr ⊢
  have R1 : Hid (Rm s bs (((Pg.dCnt x.types.length).app (Pg.dTs x.types)).app ((Pg.dCnt x.funcs.length).app (Pg.dFs x.funcs)))) := hr
  have R0 : Hid (Rm s bs ((Pg.dCnt x.types.length).app (Pg.dTs x.types))) := R1.out.pre
  have HK : Hid (∀ W, Kp base (w.alloc (.cells #[.slice a1 x.types.length k1, .slice a2 x.funcs.length k2] 27)) W → ∀ j v, (#[.slice a1 x.types.length k1, .slice a2 x.funcs.length k2] : Array Value)[j]? = some v → W.cell? ⟨w.heap.size, j, none⟩ = some v) := fun W k j v hv => by rw [Kp.cell k (heap_alloc_new w _) ⟨by decide, by decide⟩ j]; exact hv
  have HD : Hid (∀ W, Kp base (w.alloc (.cells #[.slice a1 x.types.length k1, .slice a2 x.funcs.length k2] 27)) W → TpL (fun k => k < base) W a1 k1 x.types) := fun W k => TpL.ch hd ((Kp.of hg1).trans k).ch (fun k hk => not_range hk) (fun _ h => h)
  have HX : Hid (∀ W, Kp base (w.alloc (.cells #[.slice a1 x.types.length k1, .slice a2 x.funcs.length k2] 27)) W → FnL (fun k => k < base) W a2 k2 x.funcs) := fun W k => FnL.ch hx ((Kp.of hg1).trans k).ch (fun k hk => not_range hk) (fun _ h => h)
  have K0 : Hid (Kp base (w.alloc (.cells #[.slice a1 x.types.length k1, .slice a2 x.funcs.length k2] 27)) (w.alloc (.cells #[.slice a1 x.types.length k1, .slice a2 x.funcs.length k2] 27))) := Kp.refl _ _
  have m0 := HK.out (w.alloc (.cells #[.slice a1 x.types.length k1, .slice a2 x.funcs.length k2] 27)) K0.out 0 _ rfl
  have HC0 : Hid (Calls Try.prog 45 #[.pointer (some ⟨B, 0, none⟩), .slice a1 x.types.length k1, .func (.func 46) #[.pointer (some ⟨B, 0, none⟩)] #[]] (w.alloc (.cells #[.slice a1 x.types.length k1, .slice a2 x.funcs.length k2] 27)) fun e w' => e = .returned (.tuple #[]) ∧ WrP base (w.alloc (.cells #[.slice a1 x.types.length k1, .slice a2 x.funcs.length k2] 27)) B s bs ((Pg.dCnt x.types.length).app (Pg.dTs x.types)) w') := (fun hw hr => wTpL hw hr (HD.out (w.alloc (.cells #[.slice a1 x.types.length k1, .slice a2 x.funcs.length k2] 27)) (K0.out))) (h.grow hg1) R0.out
  clear h hr hd hx
  go_enter Try.func23, Try.ntmps23
  go_wp2_with (first
    | (go_at_call 45; refine HC0.out.mono ?_; rintro e w2 ⟨rfl, hh⟩; have A1 : Hid (WrP base (w.alloc (.cells #[.slice a1 x.types.length k1, .slice a2 x.funcs.length k2] 27)) B s bs ((Pg.dCnt x.types.length).app (Pg.dTs x.types)) w2) := hh; have K1 : Hid (Kp base (w.alloc (.cells #[.slice a1 x.types.length k1, .slice a2 x.funcs.length k2] 27)) w2) := K0.out.trans hh.1; have m1 := HK.out w2 K1.out 1 _ rfl; have HC1 : Hid (Calls Try.prog 47 #[.pointer (some ⟨B, 0, none⟩), .slice a2 x.funcs.length k2, .func (.func 48) #[.pointer (some ⟨B, 0, none⟩)] #[]] w2 fun e w' => e = .returned (.tuple #[]) ∧ WrP base (w.alloc (.cells #[.slice a1 x.types.length k1, .slice a2 x.funcs.length k2] 27)) B s bs (((Pg.dCnt x.types.length).app (Pg.dTs x.types)).app ((Pg.dCnt x.funcs.length).app (Pg.dFs x.funcs))) w') := A1.out.call R1.out (fun s' bs' hw hr => wFnL hw hr (HX.out w2 (K1.out))); clear hh HC0 m0)
    | (go_at_call 47; refine HC1.out.mono ?_; rintro e w3 ⟨rfl, hh⟩; have A2 : Hid (WrP base (w.alloc (.cells #[.slice a1 x.types.length k1, .slice a2 x.funcs.length k2] 27)) B s bs (((Pg.dCnt x.types.length).app (Pg.dTs x.types)).app ((Pg.dCnt x.funcs.length).app (Pg.dFs x.funcs))) w3) := hh; have K2 : Hid (Kp base (w.alloc (.cells #[.slice a1 x.types.length k1, .slice a2 x.funcs.length k2] 27)) w3) := K0.out.trans hh.1; clear hh HC1 m1))
  first | go_end0 | go_returns
  exact ⟨rfl, WrP.from (Kp.of hg1) A2.out⟩
/-- the error that a program's bytes are refused with -/
def Pg.Pr.err (p : Pg.Pr) : Int := ((⟨false, 0, 0, 0⟩ : Ws).on p.dl).err
def NewW (w : World) (a1 a2 : Option Addr) (n1 n2 k1 k2 : Nat) : World := (w.alloc (.cells #[.slice a1 n1 k1, .slice a2 n2 k2] 27)).alloc (.cells #[.slice none 0 0, .bool false, .int .i64 0, .int .i64 0, .int .i64 0] 60)
theorem newW_wr (w : World) (a1 a2 : Option Addr) (n1 n2 k1 k2 : Nat) : Wr w.heap.size (NewW w a1 a2 n1 n2 k1 k2) (w.heap.size + 1) ⟨false, 0, 0, 0⟩ [] := by
  refine ⟨by omega, ?_, Nat.le_refl _, .slice none 0 0, ?_, OwnL.nil _ _⟩
  · unfold NewW; simp; omega
  · have := heap_alloc_new (w.alloc (.cells #[.slice a1 n1 k1, .slice a2 n2 k2] 27)) (.cells #[.slice none 0 0, .bool false, .int .i64 0, .int .i64 0, .int .i64 0] 60)
    simpa [NewW] using this
theorem newW_grown (w : World) (a1 a2 : Option Addr) (n1 n2 k1 k2 : Nat) : w.grownBy (NewW w a1 a2 n1 n2 k1 k2) none := ga (World.grownBy_alloc _ _ _) _
set_option maxRecDepth 100000 in
set_option maxHeartbeats 8000000 in
theorem encode_ok {w : World} {p : Pg.Pr} {a1 a2 : Option Addr} {k1 k2 : Nat} (h : PrC (fun k => k < w.heap.size) w p a1 a2 k1 k2) (hr : Rm ⟨false, 0, 0, 0⟩ [] p.dl) (he : p.err = 0) :
    Calls Try.prog 8 #[.agg #[.slice a1 p.types.length k1, .slice a2 p.funcs.length k2]] w fun e w' => ∃ v, e = .returned (.tuple #[v, .int .i64 0]) ∧ OwnL w' w.heap.size v p.dl.en ∧ w.grownBy w' none := by
  have hg := newW_grown w a1 a2 p.types.length p.funcs.length k1 k2
  have HG : Hid (w.grownBy (NewW w a1 a2 p.types.length p.funcs.length k1 k2) none) := hg
  have HE : Hid (((⟨false, 0, 0, 0⟩ : Ws).on p.dl).err = 0) := he
  have HC : Hid (Calls Try.prog 23 #[.pointer (some ⟨w.heap.size + 1, 0, none⟩), .agg #[.slice a1 p.types.length k1, .slice a2 p.funcs.length k2]] ((w.alloc (.cells #[.slice a1 p.types.length k1, .slice a2 p.funcs.length k2] 27)).alloc (.cells #[.slice none 0 0, .bool false, .int .i64 0, .int .i64 0, .int .i64 0] 60)) fun e w' => e = .returned (.tuple #[]) ∧ WrP w.heap.size (NewW w a1 a2 p.types.length p.funcs.length k1 k2) (w.heap.size + 1) ⟨false, 0, 0, 0⟩ [] p.dl w') := prog_any p _ _ _ _ _ _ _ _ _ (newW_wr w a1 a2 p.types.length p.funcs.length k1 k2) hr (TpL.grow h.t hg) (FnL.grow h.f hg)
  clear h hr hg he
  go_enter Try.func8, Try.ntmps8
  go_wp2_with (first
    | (go_at_call 23; refine HC.out.mono ?_; rintro e w4 ⟨rfl, h4⟩; obtain ⟨hk, e4, hw, hl, ho⟩ := h4; have W4 : Hid (Wr w.heap.size w4 (w.heap.size + 1) ((⟨false, 0, 0, 0⟩ : Ws).on p.dl) e4) := hw; have K4 : Hid (Kp w.heap.size w w4) := (Kp.of HG.out).trans hk; have O4 : Hid (e4 = p.dl.en) := ho HE.out; obtain ⟨_, _, _, v, q4, q5⟩ := hw; have V4 : Hid (OwnL w4 w.heap.size v e4) := q5; obtain ⟨ao, cp, rfl, _⟩ := q5.toB.shape; have c0 : w4.cell? ⟨w.heap.size + 1, 0, none⟩ = some (.slice ao e4.length cp) := cell_heap q4 0; clear hk hl ho q4 q5 HC)
    | (go_at_call 24; refine (refusal_any W4.out).mono ?_; rintro e w5 ⟨rfl, hw5⟩; rw [hw5, HE.out]; clear hw5 w5))
  go_returns
  exact ⟨_, rfl, by rw [← O4.out]; exact V4.out, K4.out.below rfl⟩
set_option maxRecDepth 100000 in
set_option maxHeartbeats 8000000 in
theorem encode_no {w : World} {p : Pg.Pr} {a1 a2 : Option Addr} {k1 k2 : Nat} (h : PrC (fun k => k < w.heap.size) w p a1 a2 k1 k2) (hr : Rm ⟨false, 0, 0, 0⟩ [] p.dl) (he : p.err ≠ 0) :
    Calls Try.prog 8 #[.agg #[.slice a1 p.types.length k1, .slice a2 p.funcs.length k2]] w fun e w' => e = .returned (.tuple #[.slice none 0 0, .int .i64 p.err]) ∧ w.grownBy w' none := by
  have hg := newW_grown w a1 a2 p.types.length p.funcs.length k1 k2
  have HG : Hid (w.grownBy (NewW w a1 a2 p.types.length p.funcs.length k1 k2) none) := hg
  have HC : Hid (Calls Try.prog 23 #[.pointer (some ⟨w.heap.size + 1, 0, none⟩), .agg #[.slice a1 p.types.length k1, .slice a2 p.funcs.length k2]] ((w.alloc (.cells #[.slice a1 p.types.length k1, .slice a2 p.funcs.length k2] 27)).alloc (.cells #[.slice none 0 0, .bool false, .int .i64 0, .int .i64 0, .int .i64 0] 60)) fun e w' => e = .returned (.tuple #[]) ∧ WrP w.heap.size (NewW w a1 a2 p.types.length p.funcs.length k1 k2) (w.heap.size + 1) ⟨false, 0, 0, 0⟩ [] p.dl w') := prog_any p _ _ _ _ _ _ _ _ _ (newW_wr w a1 a2 p.types.length p.funcs.length k1 k2) hr (TpL.grow h.t hg) (FnL.grow h.f hg)
  have HP : Hid (((⟨false, 0, 0, 0⟩ : Ws).on p.dl).err = p.err) := rfl
  clear h hr hg
  generalize p.err = E at *
  have he' : (E == 0) = false := by simpa using he
  have hne : (E != 0) = true := by simpa using he
  clear he
  go_enter Try.func8, Try.ntmps8
  go_wp2_with (first
    | (go_at_call 23; refine HC.out.mono ?_; rintro e w4 ⟨rfl, h4⟩; obtain ⟨hk, e4, hw, hl, ho⟩ := h4; have W4 : Hid (Wr w.heap.size w4 (w.heap.size + 1) ((⟨false, 0, 0, 0⟩ : Ws).on p.dl) e4) := hw; have K4 : Hid (Kp w.heap.size w w4) := (Kp.of HG.out).trans hk; clear hk hl ho hw HC)
    | (go_at_call 24; refine (refusal_any W4.out).mono ?_; rintro e w5 ⟨rfl, hw5⟩; rw [hw5, HP.out]; clear hw5 w5))
  go_returns
  exact ⟨rfl, K4.out.below rfl⟩
end Go.Proofs.Ytljdjkiejppenaa
