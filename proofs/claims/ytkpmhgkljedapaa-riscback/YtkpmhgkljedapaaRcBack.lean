/- RiscBack: the walk. -/
import Derived.Test.YtkpmhgkljedapaaRcArgs
import Derived.Test.YtkpmhgkljedapaaRcL
namespace Go.Proofs.Ytkpmhgkljedapaa
open Go.RowKit
set_option linter.unusedVariables false

namespace Rc
/-- an instruction's bytes, and three behind them -/
def tl (v : InV) (j : Nat) : Int := if j < 8 then enc v j else if j = 8 then 1 else if j = 9 then 2 else 3
theorem tl_bytes (v : InV) : bytesL 11 (tl v) = bytesL 8 (enc v) ++ [.int .u8 1, .int .u8 2, .int .u8 3] := rfl
theorem tl_fit (v : InV) : Mm.Fit (tl v) := by
  intro i; unfold tl
  repeat' split
  all_goals first | exact enc_fit v i | omega
theorem tl_rd {v : InV} (h : mayB v = true) : rd (tl v) = v ∧ okB (tl v) = true := by
  have e := rd_congr (g := tl v) (g' := enc v) fun i hi => by unfold tl; rw [if_pos hi]
  rw [e.1, e.2]
  exact ⟨(back v h).1, ok_enc v h⟩
end Rc
theorem decode_back {v : InV} (hm : Rc.mayB v = true) {T cap base : Nat} {w : World} (ho : OwnB w base (.slice (some ⟨T, 0, none⟩) 11 cap) 11 (Rc.tl v)) (hc : 11 ≤ cap) :
    Calls Try.prog 14 #[.slice (some ⟨T, 0, none⟩) 11 cap] w fun e w' => e = .returned (.tuple #[.agg #[.int .i64 v.op, .int .i64 v.a, .int .i64 v.b, .int .i64 v.c, .int .i64 v.k, .int .i64 v.sub, .int .i64 v.scale, .int .i64 v.imm, .int .i64 v.label], .int .i64 8, .int .i64 0]) ∧ w.grownBy w' none := by
  have h := decode_ok T 0 11 cap (Rc.tl v) w (by decide) hc (Rc.tl_fit v) (fun i hi => by rw [Nat.zero_add]; exact ho.cellAt hi) (Rc.tl_rd hm).2
  rw [(Rc.tl_rd hm).1] at h
  exact h
theorem own_slice {w : World} {base n : Nat} {x : Value} {g : Nat → Int} (h : OwnB w base x n g) (hn : 0 < n) : ∃ T cap, x = .slice (some ⟨T, 0, none⟩) n cap ∧ n ≤ cap ∧ base ≤ T := by
  rcases h.2 with ⟨_, h0⟩ | ⟨T, cap, cur, rfl, hb, _, hc, _⟩
  · omega
  · exact ⟨T, cap, rfl, hc, hb⟩

set_option maxRecDepth 100000 in
set_option maxHeartbeats 8000000 in
theorem riscBack_walk (a0 : Option Addr) (len cap : Nat) (V : Nat → InV) (w : World) (hop : IsInsts w a0 len cap V) :
    Calls Try.prog 5 #[.slice a0 len cap] w fun e w' => e = .returned (.bool true) ∧ Below w.heap.size w w' := by
  obtain ⟨hlc, hcm, hop⟩ := hop
  obtain ⟨ti, hti, hz0, hz1, hz2⟩ := info_parts info_u8
  have hcap : (len : Int) ≤ 9223372036854775807 := by unfold maxLen at hcm; omega
  have HO : Hid (len = 0 ∨ ∃ b off, a0 = some ⟨b, off, none⟩ ∧ b < w.heap.size ∧ ∀ i, i < len → InAt w b (off + i * 9) (V i) ∧ InFit (V i)) := hop
  clear hop hcm hlc
  go_enter Try.func5, Try.ntmps5
  go_wp2
  go_loopw [3] (fun s wr => ∃ i : Nat, s = .int .i64 i ∧ i ≤ 100 ∧ Below w.heap.size w wr) (fun s _ => 100 - (intOf s).toNat)
  case atStart => exact ⟨0, rfl, by omega, Below.refl _ _⟩
  case round =>
    obtain ⟨i, rfl, hi, hbel⟩ := hrel
    obtain ⟨wo, rfl⟩ : ∃ wo, wo = wr := ⟨wr, rfl⟩
    by_cases hlt : i < len
    · by_cases h100 : (i : Int) < 100
      · rcases HO.out with h0 | ⟨b, off, rfl, hbb, HV⟩
        · omega
        obtain ⟨o1, f1⟩ := HV i hlt
        have O2 : Hid (InAt wo b (off + i * 9) (V i)) := o1.below hbel hbb
        have HF : Hid (InFit (V i)) := f1
        have HVV : Hid (∀ i, i < len → InAt w b (off + i * 9) (V i) ∧ InFit (V i)) := HV
        clear o1 f1 HV HO
        obtain ⟨c0, c1, c2, c3, c4, c5, c6, c7, c8⟩ := O2.out
        cases hm : Rc.mayB (V i)
        · go_wp2_with (first
            | (go_at_call 6; refine (encode_no (V i) _ HF.out.i1 HF.out.i2 hm).mono ?_; rintro e w1 ⟨rfl, hg1⟩)
            | (go_at_call 8; refine (num_any _ _).mono ?_; rintro e w3 ⟨rfl, rfl⟩))
          go_roundw
          case rel => exact ⟨i + 1, by go_num, by omega, hbel.grown hg1 hbel.size (by simp)⟩
          case measure => simp [intOf]; omega
        · go_wp2_with (first
            | (go_at_call 6; refine (encode_ok (V i) _ HF.out.i1 HF.out.i2 hm).mono ?_; rintro e w1 ⟨T, rfl, ho1, hg1⟩)
            | (go_at_call 8; refine (num_any _ _).mono ?_; rintro e w3 ⟨rfl, rfl⟩)
            | (go_at_call 13; refine (copyB 8 8 (some ⟨T, 0, none⟩) (Rc.enc (V i)) _ (by decide) (fun h => by cases h) (.inr ⟨T, 0, rfl, fun j hj => by rw [Nat.zero_add]; exact ho1.cellAt hj⟩)).mono ?_; rintro e w4 ⟨x4, rfl, ho4, hg4⟩; obtain ⟨T4, cap4, rfl, hc4, hb4⟩ := own_slice ho4 (by omega))
            | (at_builtin; refine wpList_append_own _ rfl _ _ 23 rfl w3.heap.size 5 ti (.int .u8 0) 1 1 Try.underlying23 hti hz0 hz1 hz2 rfl (by decide) _ 8 (bytesL 8 (Rc.enc (V i))) rfl (World.ownsRow.alloc ho4 _) ⟨w4.heap.size, 0, none⟩ 3 3 [.int .u8 1, .int .u8 2, .int .u8 3] rfl rfl (by intro j u hj; match j, hj with | 0, hj => simp at hj; subst hj; simp [Addr.add] | 1, hj => simp at hj; subst hj; simp [Addr.add] | 2, hj => simp at hj; subst hj; simp [Addr.add]) (by intro u hu; simp at hu; rcases hu with rfl | rfl | rfl <;> rfl) (by decide) (by omega) (by have := hg4.size; simp; omega) ?_; intro x5 w5 ho5 hg5 hv5; rw [← Rc.tl_bytes] at ho5; obtain ⟨T5, cap5, rfl, hc5, hb5⟩ := own_slice ho5 (by omega)))
          have G5 := grown_two (ga hg4 _) hg5 hb4
          refine (decode_back hm ho5 hc5).mono ?_
          rintro e w6 ⟨rfl, hg6⟩
          go_wp2_with fail
          refine (encode_ok (V i) _ HF.out.i1 HF.out.i2 hm).mono ?_
          rintro e w7 ⟨T7, rfl, ho7, hg7⟩
          have G7 := grown_trans (grown_trans G5 hg6) (grown_trans (World.grownBy_alloc _ _ _) hg7)
          obtain ⟨d0, d1, d2, d3, d4, d5, d6, d7, d8⟩ := O2.out.kept (grown_trans hg1 G7) (by simp)
          have X7 := (InstAt.new w6 (V i)).kept hg7 (by simp)
          obtain ⟨x0, x1, x2, x3, x4, x5, x6, x7, x8, xz⟩ := X7
          have dd0 : ∀ x : Gw w7, x.w.cell? ⟨b, off + i * 9, none⟩ = some (.int .i64 (V i).op) := fun x => x.h.cell d0 (by simp)
          have dd1 : ∀ x : Gw w7, x.w.cell? ⟨b, off + i * 9 + 1, none⟩ = some (.int .i64 (V i).a) := fun x => x.h.cell d1 (by simp)
          have dd2 : ∀ x : Gw w7, x.w.cell? ⟨b, off + i * 9 + 2, none⟩ = some (.int .i64 (V i).b) := fun x => x.h.cell d2 (by simp)
          have dd3 : ∀ x : Gw w7, x.w.cell? ⟨b, off + i * 9 + 3, none⟩ = some (.int .i64 (V i).c) := fun x => x.h.cell d3 (by simp)
          have dd4 : ∀ x : Gw w7, x.w.cell? ⟨b, off + i * 9 + 4, none⟩ = some (.int .i64 (V i).k) := fun x => x.h.cell d4 (by simp)
          have dd5 : ∀ x : Gw w7, x.w.cell? ⟨b, off + i * 9 + 5, none⟩ = some (.int .i64 (V i).sub) := fun x => x.h.cell d5 (by simp)
          have dd6 : ∀ x : Gw w7, x.w.cell? ⟨b, off + i * 9 + 6, none⟩ = some (.int .i64 (V i).scale) := fun x => x.h.cell d6 (by simp)
          have dd7 : ∀ x : Gw w7, x.w.cell? ⟨b, off + i * 9 + 7, none⟩ = some (.int .i64 (V i).imm) := fun x => x.h.cell d7 (by simp)
          have dd8 : ∀ x : Gw w7, x.w.cell? ⟨b, off + i * 9 + 8, none⟩ = some (.int .i64 (V i).label) := fun x => x.h.cell d8 (by simp)
          have xx0 : ∀ x : Gw w7, x.w.cell? ⟨w6.heap.size, 0, none⟩ = some (.int .i64 (V i).op) := fun x => x.h.cell x0 (by simp)
          have xx1 : ∀ x : Gw w7, x.w.cell? ⟨w6.heap.size, 1, none⟩ = some (.int .i64 (V i).a) := fun x => x.h.cell x1 (by simp)
          have xx2 : ∀ x : Gw w7, x.w.cell? ⟨w6.heap.size, 2, none⟩ = some (.int .i64 (V i).b) := fun x => x.h.cell x2 (by simp)
          have xx3 : ∀ x : Gw w7, x.w.cell? ⟨w6.heap.size, 3, none⟩ = some (.int .i64 (V i).c) := fun x => x.h.cell x3 (by simp)
          have xx4 : ∀ x : Gw w7, x.w.cell? ⟨w6.heap.size, 4, none⟩ = some (.int .i64 (V i).k) := fun x => x.h.cell x4 (by simp)
          have xx5 : ∀ x : Gw w7, x.w.cell? ⟨w6.heap.size, 5, none⟩ = some (.int .i64 (V i).sub) := fun x => x.h.cell x5 (by simp)
          have xx6 : ∀ x : Gw w7, x.w.cell? ⟨w6.heap.size, 6, none⟩ = some (.int .i64 (V i).scale) := fun x => x.h.cell x6 (by simp)
          have xx7 : ∀ x : Gw w7, x.w.cell? ⟨w6.heap.size, 7, none⟩ = some (.int .i64 (V i).imm) := fun x => x.h.cell x7 (by simp)
          have xx8 : ∀ x : Gw w7, x.w.cell? ⟨w6.heap.size, 8, none⟩ = some (.int .i64 (V i).label) := fun x => x.h.cell x8 (by simp)
          have ne : Nonempty (Gw w7) := ⟨⟨w7, World.grownBy.refl _ _⟩⟩
          have o8 := ho1.kept G7 (.inr (by simp [Value.ownBlock]))
          have HQ : Hid (∀ x : Gw w7, Calls Try.prog 9 #[.slice (some ⟨T, 0, none⟩) 8 8, .slice (some ⟨T7, 0, none⟩) 8 8] x.w fun e w' => e = .returned (.bool true) ∧ x.w.grownBy w' none) :=
            fun x => (eq_own_true (by decide) (o8.kept x.h (.inr (by simp [Value.ownBlock]))) (ho7.kept x.h (.inr (by simp [Value.ownBlock]))) (fun _ _ => rfl)).mono fun e w' ⟨h1, d, h2⟩ => ⟨h1, by rw [h2]; exact grown_drewN (World.grownBy.refl _ _) d⟩
          have HN : Hid (∀ (x : Gw w7) (y : Int), Calls Try.prog 8 #[.int .i64 y] x.w fun e w' => e = .returned (.int .i64 y) ∧ x.w.grownBy w' none) :=
            fun x y => (num_any y x.w).mono fun e w' ⟨h1, h2⟩ => ⟨h1, by rw [h2]; exact World.grownBy.refl _ _⟩
          clear d0 x0 d1 x1 d2 x2 d3 x3 d4 x4 d5 x5 d6 x6 d7 x7 d8 x8 xz
          go_wp2_with fail
          refine region_grown (by kernel_rfl) (by kernel_rfl) ?_
          repeat (go_big_quiet_step ((first
            | (go_at_call 8; exact Gw.call (HN.out _ _))
            | (go_at_call 9; exact Gw.call (HQ.out _)))))
          refine wpQuiet_nil ?_
          rintro _ ⟨x, rfl⟩
          have GX := grown_trans (grown_trans hg1 G7) x.h
          have hbX := hbel.grown GX hbel.size (by simp)
          have oX := o8.kept x.h (.inr (by simp [Value.ownBlock]))
          clear c0 dd0 xx0 c1 dd1 xx1 c2 dd2 xx2 c3 dd3 xx3 c4 dd4 xx4 c5 dd5 xx5 c6 dd6 xx6 c7 dd7 xx7 c8 dd8 xx8 HQ HN ne
          go_wp2_with fail
          go_loopw [11] (fun s wr => ∃ k : Nat, s = .int .i64 k ∧ k ≤ i ∧ Below w.heap.size w wr ∧ OwnB wr wo.heap.size (.slice (some ⟨T, 0, none⟩) 8 8) 8 (Rc.enc (V i))) (fun s _ => i - (intOf s).toNat)
          case atStart => exact ⟨0, rfl, Nat.zero_le _, hbX, oX⟩
          case round =>
            obtain ⟨k, rfl, hk, hbk, ok⟩ := hrel
            clear hbX oX GX
            by_cases hki : k < i
            · have hkl : k < len := by omega
              have hkl' : (k : Int) < (len : Int) := by omega
              have hki' : (k : Int) < (i : Int) := by omega
              have PK : Hid (InAt wr b (off + k * 9) (V k)) := (HVV.out k hkl).1.below hbk hbb
              have PI : Hid (InAt wr b (off + i * 9) (V i)) := (HVV.out i hlt).1.below hbk hbb
              have PF : Hid (InFit (V k)) := (HVV.out k hkl).2
              obtain ⟨c0, c1, c2, c3, c4, c5, c6, c7, c8⟩ := PK.out
              cases hmk : Rc.mayB (V k)
              · go_wp2_with fail
                refine (encode_no (V k) _ PF.out.i1 PF.out.i2 hmk).mono ?_
                rintro e w9 ⟨rfl, hg9⟩
                have hb9 := hbk.grown hg9 hbk.size (by simp)
                have o9 := ok.kept hg9 (.inr (by simp [Value.ownBlock]))
                have HN : Hid (∀ (x : Gw w9) (y : Int), Calls Try.prog 8 #[.int .i64 y] x.w fun e w' => e = .returned (.int .i64 y) ∧ x.w.grownBy w' none) :=
                  fun x y => (num_any y x.w).mono fun e w' ⟨h1, h2⟩ => ⟨h1, by rw [h2]; exact World.grownBy.refl _ _⟩
                have ne : Nonempty (Gw w9) := ⟨⟨w9, World.grownBy.refl _ _⟩⟩
                clear c0 c1 c2 c3 c4 c5 c6 c7 c8
                go_wp2_with fail
                refine region_grown (by kernel_rfl) (by kernel_rfl) ?_
                repeat (go_big_quiet_step ((first
                  | (go_at_call 8; exact Gw.call (HN.out _ _)))))
                refine wpQuiet_nil ?_
                rintro _ ⟨x, rfl⟩
                go_wp2
                go_roundw
                case rel => exact ⟨k + 1, by go_num, by omega, hb9.grown x.h hb9.size (by simp), o9.kept x.h (.inr (by simp [Value.ownBlock]))⟩
                case measure => simp [intOf]; omega
              · go_wp2_with fail
                refine (encode_ok (V k) _ PF.out.i1 PF.out.i2 hmk).mono ?_
                rintro e w9 ⟨T9, rfl, ho9, hg9⟩
                have hb9 := hbk.grown hg9 hbk.size (by simp)
                have o9 := ok.kept hg9 (.inr (by simp [Value.ownBlock]))
                have QI : Hid (InAt w9 b (off + i * 9) (V i)) := PI.out.kept hg9 (by simp)
                have QK : Hid (InAt w9 b (off + k * 9) (V k)) := PK.out.kept hg9 (by simp)
                have HN : Hid (∀ (x : Gw w9) (y : Int), Calls Try.prog 8 #[.int .i64 y] x.w fun e w' => e = .returned (.int .i64 y) ∧ x.w.grownBy w' none) :=
                  fun x y => (num_any y x.w).mono fun e w' ⟨h1, h2⟩ => ⟨h1, by rw [h2]; exact World.grownBy.refl _ _⟩
                have ne : Nonempty (Gw w9) := ⟨⟨w9, World.grownBy.refl _ _⟩⟩
                have dd0 : ∀ x : Gw w9, x.w.cell? ⟨b, off + i * 9, none⟩ = some (.int .i64 (V i).op) := fun x => (QI.out.kept x.h (by simp)).c0
                have dd1 : ∀ x : Gw w9, x.w.cell? ⟨b, off + i * 9 + 1, none⟩ = some (.int .i64 (V i).a) := fun x => (QI.out.kept x.h (by simp)).c1
                have dd2 : ∀ x : Gw w9, x.w.cell? ⟨b, off + i * 9 + 2, none⟩ = some (.int .i64 (V i).b) := fun x => (QI.out.kept x.h (by simp)).c2
                have dd3 : ∀ x : Gw w9, x.w.cell? ⟨b, off + i * 9 + 3, none⟩ = some (.int .i64 (V i).c) := fun x => (QI.out.kept x.h (by simp)).c3
                have dd4 : ∀ x : Gw w9, x.w.cell? ⟨b, off + i * 9 + 4, none⟩ = some (.int .i64 (V i).k) := fun x => (QI.out.kept x.h (by simp)).c4
                have dd5 : ∀ x : Gw w9, x.w.cell? ⟨b, off + i * 9 + 5, none⟩ = some (.int .i64 (V i).sub) := fun x => (QI.out.kept x.h (by simp)).c5
                have dd6 : ∀ x : Gw w9, x.w.cell? ⟨b, off + i * 9 + 6, none⟩ = some (.int .i64 (V i).scale) := fun x => (QI.out.kept x.h (by simp)).c6
                have dd7 : ∀ x : Gw w9, x.w.cell? ⟨b, off + i * 9 + 7, none⟩ = some (.int .i64 (V i).imm) := fun x => (QI.out.kept x.h (by simp)).c7
                have dd8 : ∀ x : Gw w9, x.w.cell? ⟨b, off + i * 9 + 8, none⟩ = some (.int .i64 (V i).label) := fun x => (QI.out.kept x.h (by simp)).c8
                have kk0 : ∀ x : Gw w9, x.w.cell? ⟨b, off + k * 9, none⟩ = some (.int .i64 (V k).op) := fun x => (QK.out.kept x.h (by simp)).c0
                have kk1 : ∀ x : Gw w9, x.w.cell? ⟨b, off + k * 9 + 1, none⟩ = some (.int .i64 (V k).a) := fun x => (QK.out.kept x.h (by simp)).c1
                have kk2 : ∀ x : Gw w9, x.w.cell? ⟨b, off + k * 9 + 2, none⟩ = some (.int .i64 (V k).b) := fun x => (QK.out.kept x.h (by simp)).c2
                have kk3 : ∀ x : Gw w9, x.w.cell? ⟨b, off + k * 9 + 3, none⟩ = some (.int .i64 (V k).c) := fun x => (QK.out.kept x.h (by simp)).c3
                have kk4 : ∀ x : Gw w9, x.w.cell? ⟨b, off + k * 9 + 4, none⟩ = some (.int .i64 (V k).k) := fun x => (QK.out.kept x.h (by simp)).c4
                have kk5 : ∀ x : Gw w9, x.w.cell? ⟨b, off + k * 9 + 5, none⟩ = some (.int .i64 (V k).sub) := fun x => (QK.out.kept x.h (by simp)).c5
                have kk6 : ∀ x : Gw w9, x.w.cell? ⟨b, off + k * 9 + 6, none⟩ = some (.int .i64 (V k).scale) := fun x => (QK.out.kept x.h (by simp)).c6
                have kk7 : ∀ x : Gw w9, x.w.cell? ⟨b, off + k * 9 + 7, none⟩ = some (.int .i64 (V k).imm) := fun x => (QK.out.kept x.h (by simp)).c7
                have kk8 : ∀ x : Gw w9, x.w.cell? ⟨b, off + k * 9 + 8, none⟩ = some (.int .i64 (V k).label) := fun x => (QK.out.kept x.h (by simp)).c8
                clear c0 c1 c2 c3 c4 c5 c6 c7 c8
                by_cases he : V i = V k
                · have heF : eqF 8 (Rc.enc (V i)) (Rc.enc (V k)) = true := by rw [he]; exact eqF_true fun _ _ => rfl
                  have HQ : Hid (∀ x : Gw w9, Calls Try.prog 9 #[.slice (some ⟨T, 0, none⟩) 8 8, .slice (some ⟨T9, 0, none⟩) 8 8] x.w fun e w' => e = .returned (.bool true) ∧ x.w.grownBy w' none) := fun x => by
                    rw [← heF]
                    exact (eq_own (by decide) (o9.kept x.h (.inr (by simp [Value.ownBlock]))) (ho9.kept x.h (.inr (by simp [Value.ownBlock])))).mono fun e w' ⟨h1, d, h2⟩ => ⟨h1, by rw [h2]; exact grown_drewN (World.grownBy.refl _ _) d⟩
                  have HEQ : Hid (V i = V k) := he
                  clear he heF
                  go_wp2_with fail
                  refine region_grown (by kernel_rfl) (by kernel_rfl) ?_
                  have y0 : (V i).op = (V k).op := by rw [HEQ.out]
                  have y1 : (V i).a = (V k).a := by rw [HEQ.out]
                  have y2 : (V i).b = (V k).b := by rw [HEQ.out]
                  have y3 : (V i).c = (V k).c := by rw [HEQ.out]
                  have y4 : (V i).k = (V k).k := by rw [HEQ.out]
                  have y5 : (V i).sub = (V k).sub := by rw [HEQ.out]
                  have y6 : (V i).scale = (V k).scale := by rw [HEQ.out]
                  have y7 : (V i).imm = (V k).imm := by rw [HEQ.out]
                  have y8 : (V i).label = (V k).label := by rw [HEQ.out]
                  repeat (go_big_quiet_step ((first
                    | (go_at_call 8; exact Gw.call (HN.out _ _))
                    | (go_at_call 9; exact Gw.call (HQ.out _)))))
                  refine wpQuiet_nil ?_
                  rintro _ ⟨x, rfl⟩
                  clear y0 y1 y2 y3 y4 y5 y6 y7 y8
                  go_wp2
                  go_roundw
                  case rel => exact ⟨k + 1, by go_num, by omega, hb9.grown x.h hb9.size (by simp), o9.kept x.h (.inr (by simp [Value.ownBlock]))⟩
                  case measure => simp [intOf]; omega
                · have heF : eqF 8 (Rc.enc (V i)) (Rc.enc (V k)) = false := by
                    cases e : eqF 8 (Rc.enc (V i)) (Rc.enc (V k))
                    · rfl
                    · exact absurd (Rc.inj hm hmk (of_decide_eq_true e)) he
                  have hne : ((V i).op = (V k).op ∧ (V i).a = (V k).a ∧ (V i).b = (V k).b ∧ (V i).c = (V k).c ∧ (V i).k = (V k).k ∧ (V i).sub = (V k).sub ∧ (V i).scale = (V k).scale ∧ (V i).imm = (V k).imm ∧ (V i).label = (V k).label) = False := by
                    refine _root_.eq_false fun h => he ?_
                    obtain ⟨h0, h1, h2, h3, h4, h5, h6, h7, h8⟩ := h
                    generalize V i = p at *
                    generalize V k = q at *
                    obtain ⟨_, _, _, _, _, _, _, _, _⟩ := p
                    obtain ⟨_, _, _, _, _, _, _, _, _⟩ := q
                    dsimp only at h0 h1 h2 h3 h4 h5 h6 h7 h8
                    subst h0 h1 h2 h3 h4 h5 h6 h7 h8
                    rfl
                  have HQ : Hid (∀ x : Gw w9, Calls Try.prog 9 #[.slice (some ⟨T, 0, none⟩) 8 8, .slice (some ⟨T9, 0, none⟩) 8 8] x.w fun e w' => e = .returned (.bool false) ∧ x.w.grownBy w' none) := fun x => by
                    rw [← heF]
                    exact (eq_own (by decide) (o9.kept x.h (.inr (by simp [Value.ownBlock]))) (ho9.kept x.h (.inr (by simp [Value.ownBlock])))).mono fun e w' ⟨h1, d, h2⟩ => ⟨h1, by rw [h2]; exact grown_drewN (World.grownBy.refl _ _) d⟩
                  have hite : ∀ (p q : Prop) [Decidable p] [Decidable q] (x y : Result Next), (if p then if q then x else y else y) = if p ∧ q then x else y := fun p q _ _ x y => by by_cases hp : p <;> by_cases hq : q <;> simp [hp, hq]
                  clear he heF
                  go_wp2_with fail
                  refine region_grown (by kernel_rfl) (by kernel_rfl) ?_
                  repeat (go_big_quiet_step ((first
                    | (go_at_call 8; exact Gw.call (HN.out _ _))
                    | (go_at_call 9; exact Gw.call (HQ.out _)))))
                  refine wpQuiet_nil ?_
                  rintro _ ⟨x, rfl⟩
                  go_wp2
                  go_roundw
                  case rel => exact ⟨k + 1, by go_num, by omega, hb9.grown x.h hb9.size (by simp), o9.kept x.h (.inr (by simp [Value.ownBlock]))⟩
                  case measure => simp [intOf]; omega
            · obtain rfl : k = i := by omega
              go_wp2
              go_roundw
              case rel => exact ⟨k + 1, by go_num, by omega, hbk⟩
              case measure => simp [intOf]; omega
      · clear HO
        go_wp2_with (go_at_call 12; refine (wakes_any _).mono ?_; rintro e w7 ⟨rfl, hg7⟩)
        go_ret
        exact ⟨rfl, hbel.grown hg7 hbel.size (by simp)⟩
    · clear HO
      go_wp2_with (go_at_call 12; refine (wakes_any _).mono ?_; rintro e w7 ⟨rfl, hg7⟩)
      go_ret
      exact ⟨rfl, hbel.grown hg7 hbel.size (by simp)⟩

end Go.Proofs.Ytkpmhgkljedapaa
