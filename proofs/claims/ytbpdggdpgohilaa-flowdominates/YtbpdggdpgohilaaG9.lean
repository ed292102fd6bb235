/- Contracts and plain facts that the walks share. -/
import Derived.Test.YtbpdggdpgohilaaG7
import Derived.Test.YtbpdggdpgohilaaG8
import Derived.Test.YtbpdggdpgohilaaG6
import Derived.Defers
import Derived.Recover
namespace Go.Proofs.Ytbpdggdpgohilaa
open Go.RowKit
set_option linter.unusedVariables false
set_option maxRecDepth 100000
set_option maxHeartbeats 8000000
theorem viK0 {N WB : Nat} {blk ov rk pv : Value} {order parent : List Int} {w : World} (hB : viB w WB blk rk ov pv) (ho : OwnZ w N ov order) (hp : OwnZ w N pv parent) (i : Nat) : viK N WB blk ov rk pv order parent i w := by
  unfold viK
  split
  · exact ⟨_, hB⟩
  · exact ho
  · exact ⟨_, hB⟩
  · exact hp
  · exact ⟨_, _, hB⟩
  · exact ⟨_, _, hB⟩
  · trivial
theorem run_app_op {o : Oper} {a : Act} {w w' : World} {v' : Value} (s x : Operand) (ho : o.op = .call { callee := .builtin .append, args := #[s, x], argTypes := #[24, 24] }) {v u : Value} (hs : a.eval s = v) (hx : a.eval x = u) (hr : (Builtin.append_ #[24, 24] o.type #[v, u]).run Try.prog w = .ok v' w') : (execOp a.eval o).run Try.prog w = .ok (.value v') w' := by
  unfold execOp
  simp only [ho, resolve, invoke, builtin, Sem.run_bind, Sem.run_pure, Result.andThen_ok, List.map_toArray, List.map_cons, List.map_nil, hs, hx, hr]
theorem deps_one {L : Array Oper} {i k : Nat} (h : (depsOf L k).contains i = true) (hc : (depsOf L k).contains i = false) : False := by rw [hc] at h; cases h
theorem WkAt.tuck {N : Nat} {W : World} {WB RB n : Nat} {blk : Value} {s : Sa.Wk} {ov pv : Value} (h : WkL N W WB RB n blk s ov pv) : WkAt N W WB RB n blk s := ⟨ov, pv, h⟩
theorem saVisit_any {N : Nat} {bs : List Sa.Bl} {a : Option Addr} {k : Nat} (hsd : Sa.Leads bs) (hble : bs.length ≤ 4096) {WB RB : Nat} : ∀ (f : Nat) {w : World} {s : Sa.Wk} {b : Nat} {p : Int}, bs.length ≤ f + s.order.length → b < bs.length → s.rank b = -1 → (-1 ≤ p ∧ p < (s.order.length : Int) ∧ (0 < s.order.length → 0 ≤ p)) → Sa.WkI bs.length s → N ≤ w.heap.size → BlL (· < N) w a k bs → WkAt N w WB RB bs.length (.slice a bs.length k) s → Calls Try.prog 60 #[.pointer (some ⟨WB, 0, none⟩), .int .i64 (b : Int), .int .i64 p] w fun r w' => r = .returned (.tuple #[]) ∧ WkAt N w' WB RB bs.length (.slice a bs.length k) (Sa.visit bs f b p s) ∧ Below N w w'
  | 0, w, s, b, p, hf, hb, hr, hp, hI, hN, hBL, hA => by have := hI.lt hb hr; omega
  | f + 1, w, s, b, p, hf, hb, hr, hp, hI, hN, hBL, hA => by
    obtain ⟨ov, pv, hL⟩ := hA
    obtain ⟨oa, oc, hov, ho1, ho2, ho3⟩ := hL.o.slice
    obtain ⟨pa, pc, hpv, hp1, hp2, hp3⟩ := hL.p.slice
    have hlt := hI.lt hb hr
    have hplen := hI.len
    have hbI : (b : Int) < (bs.length : Int) := by omega
    obtain ⟨own, hown⟩ : ∃ own, own = s.order.length := ⟨_, rfl⟩
    obtain ⟨pln, hpln⟩ : ∃ pln, pln = s.parent.length := ⟨_, rfl⟩
    rw [← hown] at hov
    rw [← hpln] at hpv
    obtain ⟨V, hV⟩ : ∃ V, V = Sa.visit bs (f + 1) b p s := ⟨_, rfl⟩
    rw [← hV]
    have HV : Hid (V = Sa.visits bs f own (bs.getD b Sa.bl0).succs (s.on b p)) := by show V = _; rw [hV, Sa.visit, Int.toNat_natCast, hown]
    have c1 := hL.k.cell (i := 1) rfl
    have c2 := hL.k.cell (i := 2) rfl
    have cR := hL.r.cell hb
    have fR := hL.r.frozen b
    rw [hov] at c1
    obtain ⟨W2, hW2⟩ : ∃ W2, W2 = w.setCell ⟨RB, b, none⟩ (.int .i64 (own : Int)) := ⟨_, rfl⟩
    have hC2 : Ch w W2 [RB] := by rw [hW2]; exact Ch.one (grown_set _ _ _ _) (by simp)
    have HB2 : Hid (viB W2 WB (.slice a bs.length k) (.slice (some ⟨RB, 0, none⟩) bs.length bs.length) ov pv) := hL.k.ch hC2 (by simp; exact fun e => hL.a3 e.symm)
    have HO2 : Hid (OwnZ W2 N ov s.order) := hL.o.ch hC2 (fun q hq => by have := (hL.a1 q hq).2; simpa using this)
    have HP2 : Hid (OwnZ W2 N pv s.parent) := hL.p.ch hC2 (fun q hq => by have := (hL.a2 q hq).2.1; simpa using this)
    have HR2 : Hid (OwnN W2 N (.slice (some ⟨RB, 0, none⟩) bs.length bs.length) bs.length (s.on b p).rank) := by
      show OwnN W2 N _ _ (setF s.rank (b : Int).toNat s.order.length)
      rw [Int.toNat_natCast, hW2, ← hown]
      exact hL.r.set hb own
    have hRlo : N ≤ RB := hL.r.base _ rfl
    have hRlt : RB < w.heap.size := hL.r.lt _ rfl
    have hWlt : WB < w.heap.size := hL.k.lt
    have hsz2 : w.heap.size ≤ W2.heap.size := hC2.size
    have HSz : Hid (RB < W2.heap.size) := Nat.lt_of_lt_of_le hRlt hsz2
    have HBel2 : Hid (Below N w W2) := hC2.below hN (by simp; exact hRlo)
    have hS : ViS N W2.heap.size WB ov pv := ⟨by omega, hL.lo, fun q hq => ⟨by have := hL.o.lt q hq; omega, (hL.a1 q hq).1⟩, fun q hq => ⟨by have := hL.p.lt q hq; omega, (hL.a2 q hq).1, (hL.a2 q hq).2.2⟩⟩
    have HS : Hid (ViS N W2.heap.size WB ov pv) := hS
    have HoR : Hid (∀ q, ov.ownBlock = some q → N ≤ q ∧ q ≠ RB) := fun q hq => ⟨hL.o.base q hq, (hL.a1 q hq).2⟩
    have HpR : Hid (∀ q, pv.ownBlock = some q → N ≤ q ∧ q ≠ RB) := fun q hq => ⟨hL.p.base q hq, (hL.a2 q hq).2.1⟩
    have HW3 : Hid (RB ≠ WB ∧ N ≤ WB) := ⟨hL.a3, hL.lo⟩
    have HI1 : Hid (Sa.WkI bs.length (s.on b p)) := hI.on hb hr hp
    have HBL : Hid (∀ W, Below N w W → BlL (· < N) W a k bs) := fun W g => hBL.below g
    have HF : Hid (bs.length ≤ f + (s.on b p).order.length) := by show bs.length ≤ f + (s.order ++ [(b : Int)]).length; rw [List.length_append, List.length_singleton]; omega
    have hol : s.order.length ≤ 2000000 := by omega
    have hpl : s.parent.length ≤ 2000000 := by omega
    have HOwn : Hid (own < (s.on b p).order.length) := by show own < (s.order ++ [(b : Int)]).length; rw [List.length_append, List.length_singleton]; omega
    clear hown hpln hV hL hC2 hS hRlt hWlt hI hBL hf hr hp ho1 ho2 ho3 hp1 hp2 hp3 hplen hsz2 hRlo
    go_enter Try.func60, Try.ntmps60
    go_wp2_with fail
    rw [← hW2]
    clear hW2 c1 c2 cR fR
    obtain ⟨s1, hs1⟩ : ∃ s1, s1 = s.on b p := ⟨_, rfl⟩
    have he1 : s.order ++ [(b : Int)] = s1.order := by rw [hs1]; rfl
    have he2 : s.parent ++ [p] = s1.parent := by rw [hs1]; rfl
    have HE1 : Hid (s.order ++ [(b : Int)] = s1.order) := he1
    have HE2 : Hid (s.parent ++ [p] = s1.parent) := he2
    rw [← hs1] at HV HR2 HI1 HF HOwn
    clear hs1 he1 he2
    refine region_lf (fun i w9 => Ch W2.drew w9 (viL WB ov pv) ∧ viK N WB (.slice a bs.length k) ov (.slice (some ⟨RB, 0, none⟩) bs.length bs.length) pv s.order s.parent i w9) (viT WB ov pv) (viP N W2.heap.size WB (.slice a bs.length k) ov (.slice (some ⟨RB, 0, none⟩) bs.length bs.length) pv s.order s.parent b p W2.drew) 22 rfl (fun i V V' w9 hi h1 h2 h3 => viP_cong h1 (fun h8 => h2 8 (by rcases h8 with rfl | rfl <;> kernel_rfl)) (fun h9 => h2 15 (by subst h9; kernel_rfl)) h3)
      (fun i j w9 w8 hi hj hne hc hT hK => ⟨hK.1.trans (viT_ch hT), viK_keep HS.out hne (fun e e5 => by subst e e5; exact deps_one (by kernel_rfl) hc) (fun e e5 => by subst e e5; exact deps_one (by kernel_rfl) hc) hT hK.2⟩)
      (fun i j V w9 w8 hi hj hne hc hT hP => viP_keep HS.out hne hT hP)
      (by kernel_rfl) (by kernel_rfl) (by kernel_rfl) (by kernel_rfl) (by kernel_rfl) (fun i hi => ⟨Ch.refl _ _, viK0 (HB2.out.grow (grown_drew (World.grownBy.refl _ _))) (HO2.out.grow (grown_drew (World.grownBy.refl _ _))) (HP2.out.grow (grown_drew (World.grownBy.refl _ _))) i⟩) (fun U => ?_)
    refine lfl_cons 1 rfl (fun w9 hK hd => ?_) ?_
    · exact stepF_val rfl rfl (v := .pointer (some ⟨WB, 0, none⟩)) (w' := w9) (by simp [go_sem]) (World.grownBy.refl _ _) (upV_at U 0 _)
    simp only [Act.put, List.setIfInBounds_toArray, List.set_cons_succ, List.set_cons_zero]
    refine lfl_cons 2 rfl (fun w9 hK hd => ?_) ?_
    · exact stepF_val rfl rfl (v := .pointer (some ⟨WB, 0, none⟩)) (w' := w9) (by simp [go_sem]) (World.grownBy.refl _ _) (upV_at U 1 _)
    simp only [Act.put, List.setIfInBounds_toArray, List.set_cons_succ, List.set_cons_zero]
    refine lfl_cons 3 rfl (fun w9 hK hd => ?_) ?_
    · exact stepF_val rfl rfl (v := .pointer (some ⟨WB, 0, none⟩)) (w' := w9) (by simp [go_sem]) (World.grownBy.refl _ _) (upV_at U 2 _)
    simp only [Act.put, List.setIfInBounds_toArray, List.set_cons_succ, List.set_cons_zero]
    refine lfl_cons 4 rfl (fun w9 hK hd => ?_) ?_
    · have e2 : U 2 = .pointer (some ⟨WB, 0, none⟩) := hd 2 (by kernel_rfl)
      exact stepF_val rfl rfl (v := .pointer (some ⟨WB, 0, none⟩)) (w' := w9) (by simp [go_sem, e2]) (World.grownBy.refl _ _) (upV_at U 3 _)
    simp only [Act.put, List.setIfInBounds_toArray, List.set_cons_succ, List.set_cons_zero]
    refine lfl_cons 5 rfl (fun w9 hK hd => ?_) ?_
    · have e3 : U 3 = .pointer (some ⟨WB, 0, none⟩) := hd 3 (by kernel_rfl)
      exact stepF_val rfl rfl (v := .pointer (some ⟨WB, 1, none⟩)) (w' := w9) (by simp [go_sem, e3]) (World.grownBy.refl _ _) (upV_at U 4 _)
    simp only [Act.put, List.setIfInBounds_toArray, List.set_cons_succ, List.set_cons_zero]
    refine lfl_cons 6 rfl (fun w9 hK hd => ?_) ?_
    · have e4 : U 4 = .pointer (some ⟨WB, 1, none⟩) := hd 4 (by kernel_rfl)
      obtain ⟨y, hB⟩ := hK.2
      have c9 := Bk.cell hB (i := 1) rfl
      exact stepF_val rfl rfl (v := ov) (w' := w9) (by simp [go_sem, e4, c9]) (World.grownBy.refl _ _) (upV_at U 5 _)
    simp only [Act.put, List.setIfInBounds_toArray, List.set_cons_succ, List.set_cons_zero]
    refine lfl_cons 7 rfl (fun w9 hK hd => ?_) ?_
    · exact stepF_val rfl rfl (v := .int .i64 (b : Int)) (w' := w9) (by simp [go_sem]) (World.grownBy.refl _ _) (upV_at U 6 _)
    simp only [Act.put, List.setIfInBounds_toArray, List.set_cons_succ, List.set_cons_zero]
    refine lfl_cons 8 rfl (fun w9 hK hd => ?_) ?_
    · have e6 : U 6 = .int .i64 (b : Int) := hd 6 (by kernel_rfl)
      refine stepF_val rfl rfl (v := .slice (some ⟨w9.heap.size, 0, none⟩) 1 1) (w' := w9.alloc (.cells #[(.int .i64 (b : Int))] 3)) (by simp [go_sem, e6]) (World.grownBy_alloc _ _ _) ⟨w9.heap.size, upV_at U 7 _, by have := hK.1.size; simpa using this, ?_⟩
      exact (Bk.new w9 3 [(.int .i64 (b : Int))]).cell (i := 0) rfl
    simp only [Act.put, List.setIfInBounds_toArray, List.set_cons_succ, List.set_cons_zero]
    refine lfl_cons 9 rfl (fun w9 hK hd => ?_) ?_
    · have e5 : U 5 = ov := hd 5 (by kernel_rfl)
      obtain ⟨q9, e7, hq9, c9⟩ := hd 7 (by kernel_rfl)
      have hO := hK.2
      have hsz := hK.1.size
      obtain ⟨v9, w8, hr9, h1, h2, h3⟩ := run_appZ1 hO c9 hol (by have := HW3.out.2; have := HS.out.w; simp at hsz; omega) 24
      refine stepF_val rfl rfl (v := v9) (w' := w8) (run_app_op (.tmp 26) (.tmp 28) rfl (by simp [Act.eval, e5]) (by simp [Act.eval, e7]) hr9) h2 ⟨by rw [upV_at]; exact h1, fun q hq => ?_⟩
      rw [upV_at] at hq
      rcases h3 with h3 | h3
      · exact .inl (h3 ▸ hq)
      · rw [h3] at hq; simp at hq hsz; exact .inr (by omega)
    simp only [Act.put, List.setIfInBounds_toArray, List.set_cons_succ, List.set_cons_zero]
    refine lfl_cons 10 rfl (fun w9 hK hd => ?_) ?_
    · exact stepF_val rfl rfl (v := .pointer (some ⟨WB, 0, none⟩)) (w' := w9) (by simp [go_sem]) (World.grownBy.refl _ _) (upV_at U 9 _)
    simp only [Act.put, List.setIfInBounds_toArray, List.set_cons_succ, List.set_cons_zero]
    refine lfl_cons 11 rfl (fun w9 hK hd => ?_) ?_
    · have e9 : U 9 = .pointer (some ⟨WB, 0, none⟩) := hd 9 (by kernel_rfl)
      exact stepF_val rfl rfl (v := .pointer (some ⟨WB, 0, none⟩)) (w' := w9) (by simp [go_sem, e9]) (World.grownBy.refl _ _) (upV_at U 10 _)
    simp only [Act.put, List.setIfInBounds_toArray, List.set_cons_succ, List.set_cons_zero]
    refine lfl_cons 12 rfl (fun w9 hK hd => ?_) ?_
    · have e10 : U 10 = .pointer (some ⟨WB, 0, none⟩) := hd 10 (by kernel_rfl)
      exact stepF_val rfl rfl (v := .pointer (some ⟨WB, 3, none⟩)) (w' := w9) (by simp [go_sem, e10]) (World.grownBy.refl _ _) (upV_at U 11 _)
    simp only [Act.put, List.setIfInBounds_toArray, List.set_cons_succ, List.set_cons_zero]
    refine lfl_cons 13 rfl (fun w9 hK hd => ?_) ?_
    · have e11 : U 11 = .pointer (some ⟨WB, 3, none⟩) := hd 11 (by kernel_rfl)
      obtain ⟨y, hB⟩ := hK.2
      have c9 := Bk.cell hB (i := 3) rfl
      exact stepF_val rfl rfl (v := pv) (w' := w9) (by simp [go_sem, e11, c9]) (World.grownBy.refl _ _) (upV_at U 12 _)
    simp only [Act.put, List.setIfInBounds_toArray, List.set_cons_succ, List.set_cons_zero]
    refine lfl_cons 14 rfl (fun w9 hK hd => ?_) ?_
    · exact stepF_val rfl rfl (v := .int .i64 p) (w' := w9) (by simp [go_sem]) (World.grownBy.refl _ _) (upV_at U 13 _)
    simp only [Act.put, List.setIfInBounds_toArray, List.set_cons_succ, List.set_cons_zero]
    refine lfl_cons 15 rfl (fun w9 hK hd => ?_) ?_
    · have e13 : U 13 = .int .i64 p := hd 13 (by kernel_rfl)
      refine stepF_val rfl rfl (v := .slice (some ⟨w9.heap.size, 0, none⟩) 1 1) (w' := w9.alloc (.cells #[(.int .i64 p)] 3)) (by simp [go_sem, e13]) (World.grownBy_alloc _ _ _) ⟨w9.heap.size, upV_at U 14 _, by have := hK.1.size; simpa using this, ?_⟩
      exact (Bk.new w9 3 [(.int .i64 p)]).cell (i := 0) rfl
    simp only [Act.put, List.setIfInBounds_toArray, List.set_cons_succ, List.set_cons_zero]
    refine lfl_cons 16 rfl (fun w9 hK hd => ?_) ?_
    · have e12 : U 12 = pv := hd 12 (by kernel_rfl)
      obtain ⟨q9, e14, hq9, c9⟩ := hd 14 (by kernel_rfl)
      have hO := hK.2
      have hsz := hK.1.size
      obtain ⟨v9, w8, hr9, h1, h2, h3⟩ := run_appZ1 hO c9 hpl (by have := HW3.out.2; have := HS.out.w; simp at hsz; omega) 24
      obtain ⟨o8, b8⟩ := hd 8 (by kernel_rfl)
      refine stepF_val rfl rfl (v := v9) (w' := w8) (run_app_op (.tmp 33) (.tmp 35) rfl (by simp [Act.eval, e12]) (by simp [Act.eval, e14]) hr9) h2 ⟨by rw [upV_at]; exact h1, fun q hq => ?_⟩
      rw [upV_at] at hq
      rw [upV_ne (by decide)]
      rcases h3 with h3 | h3
      · rw [h3] at hq
        refine ⟨.inl hq, fun h8 => ?_⟩
        rcases b8 q h8 with h7 | h7
        · exact (HS.out.p q hq).2.2 h7
        · have := (HS.out.p q hq).1; omega
      · rw [h3] at hq
        simp at hq hsz
        refine ⟨.inr (by omega), fun h8 => ?_⟩
        have := o8.lt q h8
        omega
    simp only [Act.put, List.setIfInBounds_toArray, List.set_cons_succ, List.set_cons_zero]
    refine lfl_cons 17 rfl (fun w9 hK hd => ?_) ?_
    · have e0 : U 0 = .pointer (some ⟨WB, 0, none⟩) := hd 0 (by kernel_rfl)
      exact stepF_val rfl rfl (v := .pointer (some ⟨WB, 0, none⟩)) (w' := w9) (by simp [go_sem, e0]) (World.grownBy.refl _ _) (upV_at U 16 _)
    simp only [Act.put, List.setIfInBounds_toArray, List.set_cons_succ, List.set_cons_zero]
    refine lfl_cons 18 rfl (fun w9 hK hd => ?_) ?_
    · have e16 : U 16 = .pointer (some ⟨WB, 0, none⟩) := hd 16 (by kernel_rfl)
      exact stepF_val rfl rfl (v := .pointer (some ⟨WB, 1, none⟩)) (w' := w9) (by simp [go_sem, e16]) (World.grownBy.refl _ _) (upV_at U 17 _)
    simp only [Act.put, List.setIfInBounds_toArray, List.set_cons_succ, List.set_cons_zero]
    refine lfl_cons 19 rfl (fun w9 hK hd => ?_) ?_
    · have e17 : U 17 = .pointer (some ⟨WB, 1, none⟩) := hd 17 (by kernel_rfl)
      obtain ⟨x9, y9, hB⟩ := hK.2
      have c9 := Bk.cell hB (i := 1) rfl
      have f9 := Bk.frozen hB 1
      obtain ⟨o8, _⟩ := hd 8 (by kernel_rfl)
      obtain ⟨a8, k8, e8, _⟩ := o8.slice
      exact stepF_skip rfl (w' := w9.setCell ⟨WB, 1, none⟩ (U 8)) (by simp [go_sem, e17, e8, c9, f9]) ⟨_, rfl⟩ ⟨y9, by rw [upV_ne (by decide)]; exact Bk.set hB 1 _⟩
    simp only [Act.put]
    refine lfl_cons 20 rfl (fun w9 hK hd => ?_) ?_
    · have e1 : U 1 = .pointer (some ⟨WB, 0, none⟩) := hd 1 (by kernel_rfl)
      exact stepF_val rfl rfl (v := .pointer (some ⟨WB, 0, none⟩)) (w' := w9) (by simp [go_sem, e1]) (World.grownBy.refl _ _) (upV_at U 19 _)
    simp only [Act.put, List.setIfInBounds_toArray, List.set_cons_succ, List.set_cons_zero]
    refine lfl_cons 21 rfl (fun w9 hK hd => ?_) ?_
    · have e19 : U 19 = .pointer (some ⟨WB, 0, none⟩) := hd 19 (by kernel_rfl)
      exact stepF_val rfl rfl (v := .pointer (some ⟨WB, 3, none⟩)) (w' := w9) (by simp [go_sem, e19]) (World.grownBy.refl _ _) (upV_at U 20 _)
    simp only [Act.put, List.setIfInBounds_toArray, List.set_cons_succ, List.set_cons_zero]
    refine lfl_cons 22 rfl (fun w9 hK hd => ?_) ?_
    · have e20 : U 20 = .pointer (some ⟨WB, 3, none⟩) := hd 20 (by kernel_rfl)
      obtain ⟨x9, y9, hB⟩ := hK.2
      have c9 := Bk.cell hB (i := 3) rfl
      have f9 := Bk.frozen hB 3
      obtain ⟨o8, _⟩ := hd 15 (by kernel_rfl)
      obtain ⟨a8, k8, e8, _⟩ := o8.slice
      exact stepF_skip rfl (w' := w9.setCell ⟨WB, 3, none⟩ (U 15)) (by simp [go_sem, e20, e8, c9, f9]) ⟨_, rfl⟩ ⟨⟨x9, by rw [upV_ne (by decide)]; exact Bk.set hB 3 _⟩, hK.1.trans (Ch.one (grown_set _ _ _ _) (by simp [viL]))⟩
    simp only [Act.put]
    refine lfl_nil fun W4 hall => ?_
    have p8 := hall 8 (by decide)
    have p15 := hall 15 (by decide)
    have p18 := hall 18 (by decide)
    have p21 := hall 21 (by decide)
    obtain ⟨o8, b8⟩ := p8
    obtain ⟨o15, b15⟩ := p15
    obtain ⟨y9, hB18⟩ := p18
    obtain ⟨⟨x9, hB21⟩, hCh⟩ := p21
    have hB4 : viB W4 WB (.slice a bs.length k) (.slice (some ⟨RB, 0, none⟩) bs.length bs.length) (U 8) (U 15) := by
      have e9 : U 15 = y9 := by
        have h1 := Bk.cell hB18 (i := 3) rfl
        have h2 := Bk.cell hB21 (i := 3) rfl
        rw [h1] at h2
        injection h2 with h2
        exact h2.symm
      rw [e9]; exact hB18
    have hRv : RB ∉ viL WB ov pv := by
      unfold viL
      intro hm
      simp only [List.mem_cons, List.mem_append, Option.mem_toList] at hm
      rcases hm with hm | hm | hm
      · exact HW3.out.1 hm
      · exact (HoR.out _ hm).2 rfl
      · exact (HpR.out _ hm).2 rfl
    have hC4 : Ch W2 W4 (viL WB ov pv) := (Ch.of (grown_drew (World.grownBy.refl _ _))).trans hCh
    have hBel4 : Below N W2 W4 := hC4.below (by have := HS.out.w; have := HS.out.n; omega) (by
      unfold viL
      intro q hm
      simp only [List.mem_cons, List.mem_append, Option.mem_toList] at hm
      rcases hm with hm | hm | hm
      · subst hm; exact HW3.out.2
      · exact (HoR.out _ hm).1
      · exact (HpR.out _ hm).1)
    have HA4 : Hid (WkAt N W4 WB RB bs.length (.slice a bs.length k) s1) := by
      rw [HE1.out] at o8
      rw [HE2.out] at o15
      refine ⟨U 8, U 15, hB4, HW3.out.2, o8, o15, HR2.out.ch hC4 (by intro q hq; injection hq with hq; subst hq; exact hRv), fun q hq => ?_, fun q hq => ?_, HW3.out.1⟩
      · rcases b8 q hq with h1 | h1
        · exact ⟨(HS.out.o q h1).2, (HoR.out q h1).2⟩
        · have h2 := HS.out.w; have h3 := HSz.out; exact ⟨by omega, by omega⟩
      · obtain ⟨h0, h9⟩ := b15 q hq
        rcases h0 with h1 | h1
        · exact ⟨(HS.out.p q h1).2.1, (HpR.out q h1).2, h9⟩
        · have h2 := HS.out.w; have h3 := HSz.out; exact ⟨by omega, by omega, h9⟩
    have HBel4 : Hid (Below N w W4) := HBel2.out.trans hBel4
    have c0 := Bk.cell hB4 (i := 0) rfl
    clear hall b8 o8 b15 o15 hB18 hB21 hCh hB4 hRv hC4 hBel4 HB2 HO2 HP2 HR2 HS HSz HoR HpR HE1 HE2 HBel2
    obtain ⟨bb, bo, b1, b2, b3, b4, m1, m2, m3, m4, hba, hbb, hbl⟩ := (HBL.out W4 HBel4.out).num hb
    obtain ⟨cs, hcs⟩ : ∃ cs, cs = (bs.getD b Sa.bl0).succs := ⟨_, rfl⟩
    have hSu : ∀ x, x ∈ cs → 0 ≤ x ∧ x < (bs.length : Int) := by rw [hcs]; exact hsd b hb
    have HSu : Hid (∀ x, x ∈ cs → 0 ≤ x ∧ x < (bs.length : Int)) := hSu
    have cS := hbl.c4
    have hSl := hbl.succs
    rw [← hcs] at cS hSl HV
    have hsle := hSl.le
    have hsmx := hSl.max
    unfold maxLen at hsmx
    have HSn : Hid (∀ W, Below N W4 W → NumL (· < N) W b3 m3 cs) := fun W g => NumL.ch hSl (Ch.ofBelow g) (fun q hq hm => by have := (List.mem_range'_1.1 hm).1; omega) (fun _ h => h)
    rw [hba] at c0
    clear hbl hcs hSl hSu
    go_wp2_with fail
    clear c0 cS hba
    go_loopw [50] (fun ix wr => ∃ (i : Nat) (s9 : Sa.Wk), ix = .int .i64 i ∧ i ≤ cs.length ∧ WkAt N wr WB RB bs.length (.slice a bs.length k) s9 ∧ Sa.WkI bs.length s9 ∧ bs.length ≤ f + s9.order.length ∧ own < s9.order.length ∧ V = Sa.visits bs f own (cs.drop i) s9 ∧ Below N W4 wr) (fun ix _ => cs.length - (intOf ix).toNat)
    case atStart => exact ⟨0, s1, rfl, Nat.zero_le _, HA4.out, HI1.out, HF.out, HOwn.out, by rw [List.drop_zero]; exact HV.out, Below.refl _ _⟩
    case round =>
      obtain ⟨i, s9, rfl, hi, hA, hI, hf9, ho9, hv9, hg⟩ := hrel
      have HB9 : Hid (Below N W4 wr) := hg
      have HA9 : Hid (WkAt N wr WB RB bs.length (.slice a bs.length k) s9) := hA
      have HI9 : Hid (Sa.WkI bs.length s9) := hI
      have HF9 : Hid (bs.length ≤ f + s9.order.length) := hf9
      have HO9 : Hid (own < s9.order.length) := ho9
      have HV9 : Hid (V = Sa.visits bs f own (cs.drop i) s9) := hv9
      clear hf9 ho9 hv9 hg hI HA4 HI1 HF HOwn HV
      by_cases hil : i < cs.length
      case neg =>
        obtain rfl : i = cs.length := by omega
        have HR : Hid (V = s9) := by show V = _; rw [HV9.out, List.drop_length, Sa.visits]
        clear HV9 hA
        go_wp2
        go_end0
        exact ⟨rfl, by rw [HR.out]; exact HA9.out, HBel4.out.trans HB9.out⟩
      have hilI : (i : Int) < (cs.length : Int) := by omega
      obtain ⟨pa, po, rfl, _, hz⟩ := (HSn.out wr HB9.out).at hil
      unfold NumQ at hz
      rw [Nat.mul_one] at hz
      obtain ⟨q0, q1⟩ := HSu.out _ (List.getElem_mem hil)
      obtain ⟨q, hq⟩ : ∃ q : Nat, cs[i] = (q : Int) := ⟨(cs[i]).toNat, by omega⟩
      have hql : q < bs.length := by omega
      have hqI : (q : Int) < (bs.length : Int) := by omega
      have HDr : Hid (cs.drop i = (q : Int) :: cs.drop (i + 1)) := by show cs.drop i = _; rw [List.drop_eq_getElem_cons hil, hq]
      rw [hq] at hz
      obtain ⟨ov9, pv9, hL9⟩ := hA
      have c2 := hL9.k.cell (i := 2) rfl
      have cR := hL9.r.cell hql
      have hN9 : N ≤ wr.heap.size := by have := hL9.k.lt; have := hL9.lo; omega
      clear hL9 q0 q1 hq
      cases e1 : (s9.rank q == (-1 : Int)) with
      | true =>
        have hr9 : s9.rank q = -1 := beq_iff_eq.1 e1
        have HIh : Hid (Calls Try.prog 60 #[.pointer (some ⟨WB, 0, none⟩), .int .i64 (q : Int), .int .i64 (own : Int)] wr fun r w' => r = .returned (.tuple #[]) ∧ WkAt N w' WB RB bs.length (.slice a bs.length k) (Sa.visit bs f q own s9) ∧ Below N wr w') := saVisit_any hsd hble f HF9.out hql hr9 ⟨by omega, by have := HO9.out; omega, by omega⟩ HI9.out hN9 (HBL.out wr (HBel4.out.trans HB9.out)) HA9.out
        have hk := Sa.visit_keeps hsd f q own s9 hql hr9 ⟨by omega, by have := HO9.out; omega, by omega⟩ HI9.out
        have HK1 : Hid (Sa.WkI bs.length (Sa.visit bs f q own s9)) := hk.1
        have HK2 : Hid (s9.order.length ≤ (Sa.visit bs f q own s9).order.length) := hk.2.len
        have HN : Hid (V = Sa.visits bs f own (cs.drop (i + 1)) (Sa.visit bs f q own s9)) := by show V = _; rw [HV9.out, HDr.out, Sa.visits, Int.toNat_natCast, if_pos hr9]
        rw [hr9] at cR
        clear hk hr9 e1 hN9 HV9 HDr
        generalize Sa.visit bs f q own s9 = s8 at *
        go_wp2_with (go_at_call 60; refine HIh.out.mono ?_; rintro e w5 ⟨rfl, hA5, hB5⟩; have HA5 : Hid (WkAt N w5 WB RB bs.length (.slice a bs.length k) s8) := hA5; have HB5 : Hid (Below N wr w5) := hB5; clear hA5 hB5)
        go_roundw
        case rel => exact ⟨i + 1, s8, by go_num, by omega, HA5.out, HK1.out, by have := HF9.out; have := HK2.out; omega, by have := HO9.out; have := HK2.out; omega, HN.out, HB9.out.trans HB5.out⟩
        case measure => simp [intOf]; omega
      | false =>
        have hr9 : ¬ s9.rank q = -1 := fun e => by rw [e] at e1; simp at e1
        have HN : Hid (V = Sa.visits bs f own (cs.drop (i + 1)) s9) := by show V = _; rw [HV9.out, HDr.out, Sa.visits, Int.toNat_natCast, if_neg hr9]
        clear hr9 HV9 HDr hN9
        generalize s9.rank q = rz at *
        go_wp2
        go_roundw
        case rel => exact ⟨i + 1, s9, by go_num, by omega, HA9.out, HI9.out, HF9.out, HO9.out, HN.out, HB9.out⟩
        case measure => simp [intOf]; omega
theorem belowNone {w w' : World} (h : Below w.heap.size w w') : w.grownBy w' none := ⟨h.os, h.tape, h.output, h.size, fun k hk _ => h.block k hk⟩
theorem BlL.wide {N M : Nat} {w : World} {a : Option Addr} {k : Nat} {bs : List Sa.Bl} (h : BlL (· < N) w a k bs) (hN : N ≤ M) : BlL (· < M) w a k bs := BlL.ch h (Ch.refl w []) (by simp) (fun q hq => Nat.lt_of_lt_of_le hq hN)
theorem saNewWalk_any {NN : Nat} {bs : List Sa.Bl} {w : World} {a : Option Addr} {k : Nat} (hN : NN ≤ w.heap.size) (h : BlL (· < NN) w a k bs) (hsd : Sa.Leads bs) (h0 : 0 < bs.length) (hble : bs.length ≤ 4096) : Calls Try.prog 51 #[.slice a bs.length k] w fun r w' => ∃ WB RB, r = .returned (.pointer (some ⟨WB, 0, none⟩)) ∧ WkAt w.heap.size w' WB RB bs.length (.slice a bs.length k) (Sa.walk bs) ∧ w.grownBy w' none := by
  have HRp : Hid (Calls Try.prog 31 #[.slice (some ⟨w.heap.size, 0, none⟩) 1 1, .int .i64 (bs.length : Int)] (w.alloc (Obj.cells #[.int .i64 (-1)] 3)) fun r w' => ∃ T, r = .returned (.slice (some ⟨T, 0, none⟩) bs.length bs.length) ∧ OwnN w' (w.alloc (Obj.cells #[.int .i64 (-1)] 3)).heap.size (.slice (some ⟨T, 0, none⟩) bs.length bs.length) bs.length (fun _ => -1) ∧ (w.alloc (Obj.cells #[.int .i64 (-1)] 3)).grownBy w' none) := saRep_any bs.length (by omega) ((Bk.new w 3 [.int .i64 (-1)]).cell (i := 0) rfl) (Nat.le_refl _) (by unfold maxLen; omega)
  have HGa : Hid (w.grownBy (w.alloc (Obj.cells #[.int .i64 (-1)] 3)) none) := World.grownBy_alloc _ _ _
  have HBl : Hid (BlL (· < w.heap.size) w a k bs) := h.wide hN
  have HVi : Hid (∀ W WB RB, w.grownBy W none → WkAt w.heap.size W WB RB bs.length (.slice a bs.length k) Sa.wk0 → Calls Try.prog 60 #[.pointer (some ⟨WB, 0, none⟩), .int .i64 0, .int .i64 (-1)] W fun r w' => r = .returned (.tuple #[]) ∧ WkAt w.heap.size w' WB RB bs.length (.slice a bs.length k) (Sa.walk bs) ∧ Below w.heap.size W w') := fun W WB RB g hA => saVisit_any hsd hble bs.length (s := Sa.wk0) (b := 0) (p := -1) (by simp) h0 rfl ⟨by omega, by simp [Sa.wk0], by simp [Sa.wk0]⟩ (Sa.wk0_ok _) g.size (BlL.grow HBl.out g) hA
  clear h
  go_enter Try.func51, Try.ntmps51
  go_wp2_with (first
    | (go_at_call 31; refine HRp.out.mono ?_; rintro e w1 ⟨H, rfl, ho1, hg1⟩; have HO1 : Hid (OwnN w1 w.heap.size (.slice (some ⟨H, 0, none⟩) bs.length bs.length) bs.length (fun _ => -1)) := ho1.low HGa.out.size; have HG1 : Hid (w.grownBy w1 none) := grown_trans HGa.out hg1; clear ho1 hg1)
    | (go_at_call 60; refine (HVi.out _ w1.heap.size H (grown_trans HG1.out (World.grownBy_alloc _ _ _)) ⟨.slice none 0 0, .slice none 0 0, Bk.new w1 _ [.slice a bs.length k, .slice none 0 0, .slice (some ⟨H, 0, none⟩) bs.length bs.length, .slice none 0 0], HG1.out.size, World.ownsRow_nil _ _ _ _, World.ownsRow_nil _ _ _ _, HO1.out.grow (World.grownBy_alloc _ _ _), by simp [Value.ownBlock], by simp [Value.ownBlock], by have := HO1.out.lt H rfl; omega⟩).mono ?_; rintro e w5 ⟨rfl, hA5, hB5⟩; have HA5 : Hid (WkAt w.heap.size w5 w1.heap.size H bs.length (.slice a bs.length k) (Sa.walk bs)) := hA5; have HB5 : Hid (Below w.heap.size w w5) := (⟨HG1.out.os, HG1.out.tape, HG1.out.output, HG1.out.size, fun q hq => HG1.out.block q hq (by simp)⟩ : Below w.heap.size w w1).trans ((⟨(World.grownBy_alloc w1 _ none).os, (World.grownBy_alloc w1 _ none).tape, (World.grownBy_alloc w1 _ none).output, (World.grownBy_alloc w1 _ none).size, fun q hq => (World.grownBy_alloc w1 _ none).block q (Nat.lt_of_lt_of_le hq HG1.out.size) (by simp)⟩ : Below w.heap.size w1 _).trans hB5); clear hA5 hB5))
  go_ret
  exact ⟨w1.heap.size, H, rfl, HA5.out, belowNone HB5.out⟩
theorem snilN_eq (w : World) : (binOp .eql 24 (.slice none 0 0) (.slice none 0 0)).run Try.prog w = .ok (.bool true) w := by kernel_rfl
theorem snilN_ne (ad : Addr) (n cap : Nat) (w : World) : (binOp .eql 24 (.slice (some ad) n cap) (.slice none 0 0)).run Try.prog w = .ok (.bool false) w := by kernel_rfl
theorem saClone_any {w : World} {base : Nat} {v : Value} {l : List Int} (h : OwnZ w base v l) (hl : l.length ≤ 2000000) : Calls Try.prog 30 #[v] w fun e w' => ∃ u, e = .returned u ∧ OwnZ w' w.heap.size u l ∧ w.grownBy w' none := by
  have e1 := snilN_eq
  have e2 := snilN_ne
  rcases h.2 with ⟨rfl, h0⟩ | ⟨g, cap, cur, rfl, hb, hg, hn, hm, hs, ht⟩
  · have : l = [] := List.eq_nil_of_length_eq_zero h0
    subst this
    clear h h0
    go_enter Try.func30, Try.ntmps30
    go_wp2
    go_ret
    exact ⟨_, rfl, World.ownsRow_nil _ _ _ _, World.grownBy.refl _ _⟩
  · have HL : Hid (OwnZ (w.alloc (.cells #[] 3)) w.heap.size (.slice (some ⟨w.heap.size, 0, none⟩) 0 0) []) := World.ownsRow_lit (base := w.heap.size) (e := 3) (size := 1) w #[] 0 (Nat.le_refl _) (by unfold maxLen; omega) (by simp)
    have HS : Hid (OwnZ (w.alloc (.cells #[] 3)) base (.slice (some ⟨g, 0, none⟩) l.length cap) l) := h.grow (World.grownBy_alloc _ _ _)
    clear h hg ht hs
    go_enter Try.func30, Try.ntmps30
    go_wp2_with (at_builtin; refine wp_appZs rfl _ _ rfl w.heap.size _ _ [] l base rfl HL.out rfl HS.out (by simp) hl (by simp) ?_; intro v' w2 ho2 hg2; rw [List.nil_append] at ho2; have HO2 : Hid (OwnZ w2 w.heap.size v' l) := ho2; have HG2 : Hid (w.grownBy w2 none) := (Ch.of (l := []) (World.grownBy_alloc w (.cells #[] 3) none)).newL (Ch.one (l := [w.heap.size]) hg2 (by simp)) (by simp) |>.nil (by simp); clear ho2 hg2)
    go_ret
    exact ⟨_, rfl, HO2.out, HG2.out⟩
end Go.Proofs.Ytbpdggdpgohilaa
namespace Go.Proofs.Ytbpdggdpgohilaa
open Go.RowKit
set_option linter.unusedVariables false
set_option maxRecDepth 100000
set_option maxHeartbeats 4000000
theorem assert_sa (x : Int) (w : World) : (Instr.typeAssert (.iface 84 (.agg #[.int .i64 x])) 20 84 true).run Try.prog w = .ok (.tuple #[.agg #[.int .i64 x], .bool true]) w := by kernel_rfl
theorem saCaught (EB : Nat) (x : Int) (z : Value) (older : List PanicEntry) (w : World) (he : Bk w EB 32 [z]) :
    CallsD Try.prog 45 #[.pointer (some ⟨EB, 0, none⟩)] (.panicking ({ v := .iface 84 (.agg #[.int .i64 x]), recovered := false } :: older)) w fun e u' w' => e = .returned (.tuple #[]) ∧ u' = .panicking ({ v := .iface 84 (.agg #[.int .i64 x]), recovered := true } :: older) ∧ Bk w' EB 32 [.int .i64 x] ∧ Ch w w' [EB] := by
  refine callsD_of_wpS Try.func45 rfl fun c₀ cs hu => ?_
  apply wpS_seq
  apply wpS_region
  simp [wpOpsS, go_sem, recoverD, hu, Try.ntmps45, Exit.thenS]
  refine wpS_of_wp ?_
  have ht : #[Value.pointer (some ⟨EB, 0, none⟩)] ++
          ((Array.replicate 16 undef).setIfInBounds 3 (Value.iface 84 (Value.agg #[Value.int IntKind.i64 x]))).setIfInBounds 0 (Value.iface 84 (Value.agg #[Value.int IntKind.i64 x]))
      = #[.pointer (some ⟨EB, 0, none⟩), .iface 84 (.agg #[.int .i64 x]), undef, undef, .iface 84 (.agg #[.int .i64 x]), undef, undef, undef, undef, undef, undef, undef, undef, undef, undef, undef, undef] := by kernel_rfl
  rw [ht]
  clear ht
  have ha := assert_sa x
  have hel : EB < w.heap.size := he.lt
  have HE : Hid (Bk w EB 32 [z]) := he
  have c2 := he.cell (i := 0) rfl
  have f2 := he.frozen 0
  clear he
  go_wp2_with fail
  have E3 : Bk ((w.setCell ⟨EB, 0, none⟩ (.int .i64 x)).alloc (.cells #[.int .i64 x] 84)) EB 32 [.int .i64 x] := (HE.out.set 0 _).grow (World.grownBy_alloc _ _ _)
  have G3 : Ch w ((w.setCell ⟨EB, 0, none⟩ (.int .i64 x)).alloc (.cells #[.int .i64 x] 84)) [EB] := (Ch.one (grown_set _ _ _ _) (by simp)).trans (Ch.of (World.grownBy_alloc _ _ _))
  simp [bodyPostS, results, Try.results45]
  exact ⟨E3, G3⟩
theorem saIdle (pe : Addr) (w : World) :
    CallsD Try.prog 45 #[.pointer (some pe)] .returning w fun e u' w' => e = .returned (.tuple #[]) ∧ u' = .returning ∧ ∃ d, w' = w.drewN d := by
  refine callsD_of_wpS Try.func45 rfl fun c₀ cs hu => ?_
  apply wpS_seq
  apply wpS_region
  simp [wpOpsS, go_sem, recoverD, hu, Try.ntmps45, Exit.thenS]
  refine wpS_of_wp ?_
  have ht : #[Value.pointer (some pe)] ++
          ((Array.replicate 16 undef).setIfInBounds 3 Value.nilIface).setIfInBounds 0 Value.nilIface
      = #[.pointer (some pe), .nilIface, undef, undef, .nilIface, undef, undef, undef, undef, undef, undef, undef, undef, undef, undef, undef, undef] := by kernel_rfl
  rw [ht]
  clear ht
  go_wp2
  cases c₀
  simp_all [bodyPostS, results, Try.results45]
  exact ⟨0, rfl⟩
/-- what a list of questions ends with -/
def saX : Except Int Unit → Ending
  | .ok _ => .returned (.tuple #[])
  | .error e => saF e
/-- the number that is told -/
def Sa.num : Except Int Unit → Int
  | .ok _ => 0
  | .error e => e
end Go.Proofs.Ytbpdggdpgohilaa
namespace Go.Proofs.Ytbpdggdpgohilaa
open Go.RowKit
set_option linter.unusedVariables false
set_option maxRecDepth 100000
set_option maxHeartbeats 8000000
/-- a value's block is one, or none -/
def Sa.Ls.rng (m : Nat) (s : Sa.Ls) : Prop := ∀ n, s.home n = -1 ∨ (0 ≤ s.home n ∧ s.home n < (m : Int))
theorem Sa.lsIn_rng {c : Sa.Cd} {b m : Nat} (hb : b < m) : ∀ {l : List Int} {i : Nat} {ph : Bool} {s : Sa.Ls}, s.rng m → (Sa.lsIn c b l i ph s).2.rng m
  | [], _, _, _, h => h
  | n :: l, i, ph, s, h => by
    rw [Sa.lsIn]
    split
    · refine Sa.lsIn_rng hb fun k => ?_
      show setF s.home n.toNat (b : Int) k = -1 ∨ (0 ≤ setF s.home n.toNat (b : Int) k ∧ setF s.home n.toNat (b : Int) k < (m : Int))
      unfold setF
      split
      · exact .inr ⟨by omega, by omega⟩
      · exact h k
    · exact h
theorem Sa.lsAll_rng {c : Sa.Cd} {m : Nat} : ∀ {l : List Sa.Bl} {b : Nat} {s : Sa.Ls}, b + l.length ≤ m → s.rng m → (Sa.lsAll c l b s).2.rng m
  | [], _, _, _, h => h
  | x :: l, b, s, hl, h => by
    rw [Sa.lsAll]
    rw [List.length_cons] at hl
    split
    · exact Sa.lsAll_rng (by omega) (Sa.lsIn_rng (by omega) h)
    · exact h
theorem Sa.lists_rng (c : Sa.Cd) : (Sa.lists c).2.rng c.blocks.length := Sa.lsAll_rng (by omega) (fun _ => .inl rfl)
theorem Sa.valsB_step {u : Sa.Un} {c : Sa.Cd} {s : Sa.Ls} {l : List Sa.Vl} {k : Nat} (hk : k < l.length) : Sa.valsB u c s (l.drop k) k = (Sa.valB u c s k l[k] && Sa.valsB u c s (l.drop (k + 1)) (k + 1)) := by
  rw [List.drop_eq_getElem_cons hk]
  rfl
theorem Sa.valsB_all {u : Sa.Un} {c : Sa.Cd} {s : Sa.Ls} (h : Sa.valsB u c s c.values 0 = true) : ∀ k, k < c.values.length → Sa.valB u c s k (c.v k) = true := by
  have key : ∀ k, k ≤ c.values.length → Sa.valsB u c s (c.values.drop k) k = true := by
    intro k
    induction k with
    | zero => intro _; exact h
    | succ k ih =>
      intro hk
      have h9 := ih (by omega)
      rw [Sa.valsB_step (by omega), Bool.and_eq_true] at h9
      exact h9.2
  intro k hk
  have h9 := key k (by omega)
  rw [Sa.valsB_step hk, Bool.and_eq_true] at h9
  rw [show c.v k = c.values[k] by unfold Sa.Cd.v; simp [List.getD_eq_getElem?_getD, hk]]
  exact h9.1
theorem Sa.valB_in {u : Sa.Un} {c : Sa.Cd} {s : Sa.Ls} {k : Nat} {v : Sa.Vl} (h : Sa.valB u c s k v = true) : Sa.inVals c v.args ∧ (v.op = 0 ∨ Sa.hasArgs u c s k v = true) ∧ (v.op ≠ 0 → s.home k ≠ -1) := by
  unfold Sa.valB at h
  split at h
  · rename_i e
    rw [Bool.and_eq_true] at h
    have : v.args = [] := List.length_eq_zero_iff.1 (beq_iff_eq.1 h.2)
    rw [this]
    exact ⟨fun x hx => by simp at hx, .inl e, fun h9 => absurd e h9⟩
  · rename_i e
    rw [Bool.and_eq_true, Bool.and_eq_true, Bool.and_eq_true, Bool.and_eq_true] at h
    exact ⟨Sa.areVals_in h.1.1.1.2, .inr h.1.1.2, fun _ => by simpa using h.1.1.1.1⟩
theorem Sa.calls_num {u : Sa.Un} {c : Sa.Cd} {s : Sa.Ls} (h : Sa.valsB u c s c.values 0 = true) : ∀ q : Int, (c.v q).op = 14 → Sa.isNum u.codes.length (c.v q).n = true := fun q hq => by
  by_cases hl : q.toNat < c.values.length
  · have h9 := (Sa.valB_in (Sa.valsB_all h q.toNat hl)).2.1
    have e : c.v (q.toNat : Int) = c.v q := by unfold Sa.Cd.v; rw [Int.toNat_natCast]
    rw [e] at h9
    exact ((Sa.hasArgs_len (h9.resolve_left (by omega))).2.2.2.1 hq).1
  · have e : c.v q = Sa.vl0 := by unfold Sa.Cd.v; rw [List.getD_eq_getElem?_getD, List.getElem?_eq_none (by omega)]; rfl
    rw [e] at hq
    exact absurd hq (by decide)
theorem Sa.endB_in {c : Sa.Cd} {b : Sa.Bl} (h : Sa.endB c b = true) : Sa.inVals c b.args ∧ (b.kind = 3 → 0 < b.args.length) := by
  unfold Sa.endB at h
  rw [Bool.and_eq_true, Bool.and_eq_true, Bool.and_eq_true] at h
  refine ⟨Sa.areVals_in h.1.2.2, fun e => ?_⟩
  have := beq_iff_eq.1 h.1.2.1
  unfold Sa.endArgs at this
  rw [if_neg (by omega), if_pos e] at this
  omega
/-- where the reader's own rows lie -/
structure SaTd (N : Nat) (w : World) (c : Sa.Cd) (A : RdA) (s : Sa.Ls) (t : Sa.Tr) (H S F Z : Nat) : Prop where
  hm : A.hm = .slice (some ⟨H, 0, none⟩) c.values.length c.values.length
  sp : A.sp = .slice (some ⟨S, 0, none⟩) c.values.length c.values.length
  tf : A.tf = .slice (some ⟨F, 0, none⟩) c.blocks.length c.blocks.length
  ts : A.ts = .slice (some ⟨Z, 0, none⟩) c.blocks.length c.blocks.length
  h : OwnN w N A.hm c.values.length s.home
  s : OwnN w N A.sp c.values.length s.spot
  f : OwnN w N A.tf c.blocks.length t.first
  z : OwnN w N A.ts c.blocks.length t.size
  r : ∀ i, i < c.blocks.length → 0 ≤ t.first i ∧ t.first i ≤ 100000000 ∧ 0 ≤ t.size i ∧ t.size i ≤ 100000000
theorem SaTd.grow {N : Nat} {w w' : World} {c : Sa.Cd} {A : RdA} {s : Sa.Ls} {t : Sa.Tr} {H S F Z : Nat} (h : SaTd N w c A s t H S F Z) (g : w.grownBy w' none) : SaTd N w' c A s t H S F Z := ⟨h.hm, h.sp, h.tf, h.ts, h.h.grow g, h.s.grow g, h.f.grow g, h.z.grow g, h.r⟩
theorem range_all {p : Nat → Bool} {k : Nat} : (List.range (k + 1)).all p = ((List.range k).all p && p k) := by rw [List.range_succ, List.all_append]; simp
theorem range_all_no {p : Nat → Bool} {n k : Nat} (hk : k < n) (h : p k = false) : (List.range n).all p = false := by
  rw [Bool.eq_false_iff]
  intro h8
  have := List.all_eq_true.1 h8 k (List.mem_range.2 hk)
  rw [h] at this
  cases this
theorem Sa.ways_num {bs : List Sa.Bl} (h : Sa.waysB bs = true) {b : Sa.Bl} (hb : b ∈ bs) : (∀ x, x ∈ b.preds → 0 ≤ x ∧ x < (bs.length : Int)) ∧ (∀ x, x ∈ b.succs → 0 ≤ x ∧ x < (bs.length : Int)) := by
  unfold Sa.waysB at h
  rw [Bool.and_eq_true] at h
  have h9 := List.all_eq_true.1 h.2 b hb
  unfold Sa.wayB at h9
  simp only [Bool.and_eq_true] at h9
  have key : ∀ l, Sa.areBlks bs l = true → ∀ x, x ∈ l → 0 ≤ x ∧ x < (bs.length : Int) := fun l hl x hx => by
    have h8 := List.all_eq_true.1 hl x hx
    unfold Sa.isBlk at h8
    rw [Bool.and_eq_true] at h8
    exact Sa.isNum_iff.1 h8.1
  exact ⟨key _ h9.2.1, key _ h9.2.2⟩
theorem Sa.used {u : Sa.Un} {c : Sa.Cd} {s : Sa.Ls} (hv : ∀ k, k < c.values.length → Sa.valB u c s k (c.v k) = true) (hr : s.rng c.blocks.length) {a : Int} (h : Sa.isVal c a = true) : ∃ q : Nat, a = (q : Int) ∧ q < c.values.length ∧ 0 ≤ s.home q ∧ s.home q < (c.blocks.length : Int) := by
  obtain ⟨⟨h0, h1⟩, h2⟩ := Sa.isVal_iff.1 h
  refine ⟨a.toNat, by omega, by omega, ?_⟩
  have h9 := (Sa.valB_in (hv a.toNat (by omega))).2.2 (by rw [show ((a.toNat : Nat) : Int) = a by omega]; exact h2)
  exact (hr a.toNat).resolve_left h9
theorem Sa.valB_args {u : Sa.Un} {c : Sa.Cd} {s : Sa.Ls} {k : Nat} {v : Sa.Vl} (h : Sa.valB u c s k v = true) : Sa.areVals c v.args = true := by
  unfold Sa.valB at h
  split at h
  · rw [Bool.and_eq_true] at h
    have : v.args = [] := List.length_eq_zero_iff.1 (beq_iff_eq.1 h.2)
    rw [this]
    rfl
  · rw [Bool.and_eq_true, Bool.and_eq_true, Bool.and_eq_true, Bool.and_eq_true] at h
    exact h.1.1.1.2
theorem Sa.beginIn_step {c : Sa.Cd} {l : List Int} {i : Nat} {m : Int} (hi : i < l.length) : Sa.beginIn c (l.drop i) m = (if (c.v l[i]).op = 9 ∨ ((c.v l[i]).op = 6 ∧ (c.v l[i]).kind = 12) then (if m = -1 then Sa.beginIn c (l.drop (i + 1)) l[i] else (false, m)) else Sa.beginIn c (l.drop (i + 1)) m) := by
  rw [List.drop_eq_getElem_cons hi]
  rfl
/-- a number told, or a fault -/
abbrev saN (r : Bool × Int) (e : Int) : Ending := bif r.1 then .returned (.int .i64 r.2) else saF e
theorem Sa.chainIn_step {c : Sa.Cd} {l : List Int} {i : Nat} {m : Int} (hi : i < l.length) : Sa.chainIn c (l.drop i) m = (if (c.v l[i]).op = 8 then (if (c.v l[i]).args.getLastD 0 = m then Sa.chainIn c (l.drop (i + 1)) m else (false, m)) else if (c.v l[i]).op = 10 ∨ (c.v l[i]).op = 11 ∨ (c.v l[i]).op = 13 ∨ (c.v l[i]).op = 14 then (if (c.v l[i]).args.getLastD 0 = m then Sa.chainIn c (l.drop (i + 1)) l[i] else (false, m)) else Sa.chainIn c (l.drop (i + 1)) m) := by
  rw [List.drop_eq_getElem_cons hi]
  rfl
end Go.Proofs.Ytbpdggdpgohilaa
