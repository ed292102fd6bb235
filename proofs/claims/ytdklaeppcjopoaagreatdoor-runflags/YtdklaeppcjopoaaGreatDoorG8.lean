/- The program's machine: what an instruction that both targets have does, by the plain machine. -/
import Derived.Test.YtdklaeppcjopoaaGreatDoorRuQa
import Derived.Test.YtdklaeppcjopoaaGreatDoorRuQb
namespace Go.Proofs.YtdklaeppcjopoaaGreatDoor
open Go.RowKit
set_option linter.unusedVariables false

/-- behind an instruction: the plain machine's state; or stuck -/
def BoP (h : Pd) (w : World) (rv : Value) (t : Ru.St) (r : Ending) (w' : World) : Prop :=
  ((t.e ≠ 5 ∧ r = .returned rv ∧ IsC w' h t) ∨ (t.e = 5 ∧ r = .panicked stk ∧ ∃ s', IsC w' h s')) ∧ Mc h w w'
theorem BoP.ok {P : Program} {f : FuncId} {args : Array Value} {h : Pd} {w : World} {rv : Value} {t t' : Ru.St} (e : t = t') (he : t'.e ≠ 5)
    (c : Calls P f args w fun r w' => r = .returned rv ∧ IsC w' h t' ∧ Mc h w w') : Calls P f args w (BoP h w rv t) :=
  c.mono fun r w' ⟨h1, h2, h3⟩ => ⟨.inl ⟨by rw [e]; exact he, h1, by rw [e]; exact h2⟩, h3⟩
theorem BoP.no {P : Program} {f : FuncId} {args : Array Value} {h : Pd} {w : World} {rv : Value} {t : Ru.St} (e : t.e = 5)
    (c : Calls P f args w fun r w' => r = .panicked stk ∧ (∃ s', IsC w' h s') ∧ Mc h w w') : Calls P f args w (BoP h w rv t) :=
  c.mono fun r w' ⟨h1, h2, h3⟩ => ⟨.inr ⟨e, h1, h2⟩, h3⟩
theorem BoP.toOk {P : Program} {f : FuncId} {args : Array Value} {h : Pd} {w : World} {rv : Value} {t : Ru.St} (c : Calls P f args w (BoP h w rv t)) (he : t.e ≠ 5) :
    Calls P f args w fun r w' => r = .returned rv ∧ IsC w' h t ∧ Mc h w w' :=
  c.mono fun r w' ⟨h1, h3⟩ => by
    rcases h1 with ⟨_, h1, h2⟩ | ⟨h1, _⟩
    · exact ⟨h1, h2, h3⟩
    · exact absurd h1 he
theorem BoP.toNo {P : Program} {f : FuncId} {args : Array Value} {h : Pd} {w : World} {rv : Value} {t : Ru.St} (c : Calls P f args w (BoP h w rv t)) (he : t.e = 5) :
    Calls P f args w fun r w' => r = .panicked stk ∧ (∃ s', IsC w' h s') ∧ Mc h w w' :=
  c.mono fun r w' ⟨h1, h3⟩ => by
    rcases h1 with ⟨h1, _⟩ | ⟨_, h1, h2⟩
    · exact absurd he h1
    · exact ⟨h1, h2, h3⟩
namespace Ru
theorem stop_e {s : St} (he : s.e = 0) (e n : Int) : s.stop e n = { s with e := e, n := n } := by unfold St.stop; rw [if_pos he]
theorem stop5 {s : St} (he : s.e = 0) (n : Int) : (s.stop 5 n).e = 5 := by rw [stop_e he]
theorem put_e {s : St} (he : s.e = 0) (a x : Int) : (s.put a x).e ≠ 5 := by show s.e ≠ 5; rw [he]; decide
theorem goto_e {s : St} (he : s.e = 0) (p : Int) : (s.goto p).e ≠ 5 := by show s.e ≠ 5; rw [he]; decide
theorem st_e {s : St} (he : s.e = 0) : s.e ≠ 5 := by rw [he]; decide
theorem set_ok (s : St) (a v e : Int) (h : e = 0) : s.set a v e = s.put a v := by unfold St.set; rw [if_pos h]
theorem set_no (s : St) (a v e : Int) (h : e ≠ 0) : s.set a v e = s.stop 5 0 := by unfold St.set; rw [if_neg h]
theorem adr0 (s : St) (op a : Int) (b c : Nat) (k sub imm lb : Int) : s.adr ⟨op, a, b, c, k, sub, 0, imm, lb⟩ = wr (s.r b + imm) := by
  unfold St.adr St.reg
  rw [Int.mul_zero, Int.add_zero, Int.toNat_natCast]
theorem lay_e {s : St} (he : s.e = 0) {S : Nat} {a k x : Int} (h : Mm.lE S k a = 0) : (s.lay S a k x).e ≠ 5 := by
  unfold St.lay; rw [if_pos h]; show s.e ≠ 5; rw [he]; decide
end Ru
theorem bne0 {e : Int} (h : e ≠ 0) : (e != 0) = true := by simpa using h
set_option maxHeartbeats 1000000 in
theorem both_any {w : World} {h : Pd} {s : Ru.St} (x : IsC w h s) (he : s.e = 0) (op : Int) (a b c : Nat) (a16 : a < 16) (b16 : b < 16) (c16 : c < 16) (k sub sc lb imm : Int)
    (ho : op = 1 ∨ op = 3 ∨ op = 8 ∨ op = 11 ∨ op = 13 ∨ op = 19 ∨ op = 23 ∨ op = 24 ∨ op = 25 ∨ op = 26 ∨ op = 27 ∨ op = 28 ∨ op = 29) (hsc : op = 11 ∨ op = 13 → sc = 0) :
    Calls Tryz.prog 145 #[.pointer (some ⟨h.B, 0, none⟩), .agg #[.int .i64 op, .int .i64 a, .int .i64 b, .int .i64 c, .int .i64 k, .int .i64 sub, .int .i64 sc, .int .i64 imm, .int .i64 lb]] w (BoP h w (.tuple #[]) (Ru.exec h.im ⟨op, a, b, c, k, sub, sc, imm, lb⟩ s)) := by
  rcases ho with rfl | rfl | rfl | rfl | rfl | rfl | rfl | rfl | rfl | rfl | rfl | rfl | rfl
  · exact BoP.ok rfl (Ru.put_e he _ _) (pb1 x a b c a16 b16 c16 k sub sc lb imm)
  · exact BoP.ok rfl (Ru.put_e he _ _) (pb3 x a b c a16 b16 c16 k sub sc lb imm)
  · obtain ⟨F, hF⟩ : ∃ F, Fl.convA sub k (Wd.canon sub (s.r b)) = F := ⟨_, rfl⟩
    have hE : Ru.exec h.im ⟨8, a, b, c, k, sub, sc, imm, lb⟩ s = s.set a F.1 F.2 := by rw [← hF]; rfl
    obtain ⟨v, e⟩ := F
    by_cases h0 : e = 0
    · subst h0
      exact BoP.ok (hE.trans (Ru.set_ok _ _ _ _ rfl)) (Ru.put_e he _ _) (pb8 x a b c a16 b16 c16 k sub sc lb imm v hF)
    · exact BoP.no (by rw [hE, Ru.set_no _ _ _ _ h0]; exact Ru.stop5 he 0) (pb8n x a b c a16 b16 c16 k sub sc lb imm v e hF (bne0 h0))
  · obtain rfl := hsc (.inl rfl)
    have hE : Ru.exec h.im ⟨11, a, b, c, k, sub, 0, imm, lb⟩ s = s.set a (Mm.lV h.S s.m k (s.adr ⟨11, a, b, c, k, sub, 0, imm, lb⟩)) (Mm.lE h.S k (s.adr ⟨11, a, b, c, k, sub, 0, imm, lb⟩)) := rfl
    rw [Ru.adr0] at hE
    by_cases h0 : Mm.lE h.S k (Ru.wr (s.r b + imm)) = 0
    · exact BoP.ok (hE.trans (Ru.set_ok _ _ _ _ h0)) (Ru.put_e he _ _) (pb11 x a b c a16 b16 c16 k sub 0 lb imm _ rfl h0)
    · exact BoP.no (by rw [hE, Ru.set_no _ _ _ _ h0]; exact Ru.stop5 he 0) (pb11n x a b c a16 b16 c16 k sub 0 lb imm (bne0 h0))
  · obtain rfl := hsc (.inr rfl)
    have hE : Ru.exec h.im ⟨13, a, b, c, k, sub, 0, imm, lb⟩ s = s.lay h.S (s.adr ⟨13, a, b, c, k, sub, 0, imm, lb⟩) k (s.r a) := rfl
    rw [Ru.adr0] at hE
    by_cases h0 : Mm.lE h.S k (Ru.wr (s.r b + imm)) = 0
    · exact BoP.ok hE (Ru.lay_e he h0) (pb13 x a b c a16 b16 c16 k sub 0 lb imm h0)
    · exact BoP.no (by rw [hE]; unfold Ru.St.lay; rw [if_neg h0]; exact Ru.stop5 he 0) (pb13n x a b c a16 b16 c16 k sub 0 lb imm (bne0 h0))
  · exact BoP.ok rfl (Ru.goto_e he _) (pb19 x a b c a16 b16 c16 k sub sc lb imm)
  · have hE : Ru.exec h.im ⟨23, a, b, c, k, sub, sc, imm, lb⟩ s = s.call h.im imm := rfl
    unfold Ru.St.call at hE
    by_cases hl : Ru.wr (s.r 15 - 8) < (h.S : Int) - 4096
    · rw [if_pos (show Ru.wr (s.reg 15 - 8) < h.im.lim from hl), Ru.stop_e (s := s.put 15 _) he] at hE
      exact BoP.ok hE (show (4 : Int) ≠ 5 by decide) (pb23f x a b c a16 b16 c16 k sub sc lb imm hl)
    · rw [if_neg (show ¬ Ru.wr (s.reg 15 - 8) < h.im.lim from hl)] at hE
      by_cases h0 : Mm.lE h.S 9 (Ru.wr (s.r 15 - 8)) = 0
      · exact BoP.ok hE (Ru.lay_e (s := s.put 15 _) he h0) (pb23 x a b c a16 b16 c16 k sub sc lb imm (by omega) h0)
      · refine BoP.no ?_ (pb23n x a b c a16 b16 c16 k sub sc lb imm (by omega) (bne0 h0))
        rw [hE]
        show (Ru.St.lay _ _ _ _ _).e = 5
        unfold Ru.St.lay
        rw [if_neg (show ¬ Mm.lE h.im.S 9 (Ru.wr (s.reg 15 - 8)) = 0 from h0)]
        exact Ru.stop5 (s := s.put 15 _) he 0
  · have hE : Ru.exec h.im ⟨24, a, b, c, k, sub, sc, imm, lb⟩ s = s.ret h.im := rfl
    unfold Ru.St.ret at hE
    by_cases h0 : Mm.lE h.S 9 (s.r 15) = 0
    · rw [if_pos (show Mm.lE h.im.S 9 (s.reg 15) = 0 from h0)] at hE
      exact BoP.ok hE (Ru.goto_e (s := s.put 15 _) he _) (pb24 x a b c a16 b16 c16 k sub sc lb imm _ rfl h0)
    · rw [if_neg (show ¬ Mm.lE h.im.S 9 (s.reg 15) = 0 from h0)] at hE
      exact BoP.no (by rw [hE]; exact Ru.stop5 he 0) (pb24n x a b c a16 b16 c16 k sub sc lb imm (bne0 h0))
  · have hE : Ru.exec h.im ⟨25, a, b, c, k, sub, sc, imm, lb⟩ s = if s.r 15 < Ru.wr (h.S - 4096 + imm) then s.stop 4 0 else s := rfl
    by_cases hl : s.r 15 < Ru.wr (h.S - 4096 + imm)
    · rw [if_pos hl, Ru.stop_e he] at hE
      exact BoP.ok hE (show (4 : Int) ≠ 5 by decide) (pb25t x a b c a16 b16 c16 k sub sc lb imm hl)
    · rw [if_neg hl] at hE
      exact BoP.ok hE (Ru.st_e he) (pb25f x a b c a16 b16 c16 k sub sc lb imm hl)
  · refine BoP.ok (t' := s.alloc h.im a (s.r b)) rfl ?_ (pb26 x a b c a16 b16 c16 k sub sc lb imm he)
    unfold Ru.St.alloc
    repeat' split
    all_goals first | (rw [Ru.stop_e he]; show (4 : Int) ≠ 5; decide) | (show s.e ≠ 5; rw [he]; decide)
  · refine BoP.ok (t' := { s with out := s.out ++ [s.r a] }) rfl (Ru.st_e he) ((pb27 x a b c a16 b16 c16 k sub sc lb imm).mono ?_)
    rintro r w' ⟨h1, h2, h3⟩
    exact ⟨h1, h2.out _, h3⟩
  · exact BoP.ok (Ru.stop_e he _ _) (show (1 : Int) ≠ 5 by decide) (pb28 x a b c a16 b16 c16 k sub sc lb imm)
  · exact BoP.ok (Ru.stop_e he _ _) (show (2 : Int) ≠ 5 by decide) (pb29 x a b c a16 b16 c16 k sub sc lb imm)
end Go.Proofs.YtdklaeppcjopoaaGreatDoor
