/- CiscBack: the walk. -/
import Derived.Test.YtbghjlamedlchaaDoorCeIns
namespace Go.Proofs.YtbghjlamedlchaaDoor
open Go.RowKit
set_option linter.unusedVariables false

/-- three bytes more -/
theorem wp_app3 {ops : Array Oper} {rest : List Oper} {o : Oper} {a : Act} {Q : Exit → Act → World → Prop} {W : World} (hgd : o.guard = none) (s x : Operand)
    (ho : o.op = .call { callee := .builtin .append, args := #[s, x], argTypes := #[23, 23] }) (base : Nat) (v : Value) (l : List Int) (X Y Z : Int) (hs : a.eval s = v) (hown : OwnL W base v l)
    (hx : a.eval x = .slice (some ⟨W.heap.size, 0, none⟩) 3 3) (hl : l.length ≤ 1000) (hb : base ≤ W.heap.size)
    (h : ∀ v' w', OwnL w' base v' (l ++ [X, Y, Z]) → W.grownBy w' v.ownBlock → wpList Tryd.prog ops Q rest (a.put o.dst v') w') : wpList Tryd.prog ops Q (o :: rest) a (W.alloc (Obj.cells #[.int .u8 X, .int .u8 Y, .int .u8 Z] 5)) := by
  obtain ⟨i, hi, hz0, hz1, hz2⟩ := info_parts info_u8
  refine wpList_append_own _ hgd s x 23 ho base 5 i (.int .u8 0) 1 1 Tryd.underlying23 hi hz0 hz1 hz2 rfl (by decide) v l.length (l.map (Value.int .u8)) hs (World.ownsRow.alloc hown _) ⟨W.heap.size, 0, none⟩ 3 3 [.int .u8 X, .int .u8 Y, .int .u8 Z] hx rfl
    (by intro j u hj; match j, hj with | 0, hj => simp at hj; subst hj; simp [Addr.add] | 1, hj => simp at hj; subst hj; simp [Addr.add] | 2, hj => simp at hj; subst hj; simp [Addr.add]) (by intro u hu; simp at hu; rcases hu with rfl | rfl | rfl <;> rfl) (by unfold maxLen; omega) (by omega) (by simp; omega) ?_
  intro v' w2 ho2 hg2 _
  exact h v' w2 (OwnL.app (m := [X, Y, Z]) ho2) (grown_trans (grown_noneR _ (World.grownBy_alloc _ _ _)) hg2)
theorem OwnB.bsIn {w : World} {base n : Nat} {v : Value} {g : Nat → Int} (h : OwnB w base v n g) (hf : Mm.Fit g) : ∃ ao cap, v = .slice ao n cap ∧ BsIn w ao n cap g := by
  obtain ⟨ao, cap, rfl, h1, h2, h3, h4⟩ := h.shape
  refine ⟨ao, cap, rfl, ⟨h1, h2, h3, hf, h4, fun b off h0 e => ?_⟩⟩
  subst e
  exact (h.lt b rfl).2
namespace Cc
theorem enc_len (v : InV) : (enc v).length ≤ 33 := by
  have h : ∀ s : List Int, (s.flatMap (letB v)).length ≤ 8 * s.length := by
    intro s
    induction s with
    | nil => exact Nat.le_refl _
    | cons l s ih =>
      have : (letB v l).length ≤ 8 := by
        have hc := cnt_c (z := size v.imm)
        unfold letB
        repeat' split
        all_goals first | (rw [low_len]; omega) | (simp only [List.length_cons, List.length_nil]; omega)
      rw [List.flatMap_cons, List.length_append, List.length_cons]
      omega
  have h2 := h (row v.op)
  have h3 : (row v.op).length ≤ 4 := by
    rcases ops v.op with h | h | h | h | h | h | h | h | h | h | h | h | h | h | h | h | h | h | h | h | h | h | h | h | h | h
    case inr.inr.inr.inr.inr.inr.inr.inr.inr.inr.inr.inr.inr.inr.inr.inr.inr.inr.inr.inr.inr.inr.inr.inr.inr =>
      rw [(row_none h).1]; decide
    all_goals (rw [h]; decide)
  unfold enc
  rw [List.length_cons]
  omega
theorem byt_app {l m : List Int} (h : Byt l) (k : Byt m) : Byt (l ++ m) := fun x hx => by
  rcases List.mem_append.mp hx with e | e
  · exact h x e
  · exact k x e
theorem byt_123 : Byt [1, 2, 3] := by
  intro x hx
  simp only [List.mem_cons, List.not_mem_nil, or_false] at hx
  omega
theorem tail_dec {v : InV} (hm : mayB v = true) (i1 : -9223372036854775808 ≤ v.imm) (i2 : v.imm ≤ 9223372036854775807) : dec (enc v ++ [1, 2, 3]).length (fun i => (enc v ++ [1, 2, 3]).getD i 0) = (v, ((enc v).length : Int), 0) := by
  refine dec_enc hm i1 i2 (by rw [List.length_append]; omega) fun i hi => ?_
  rw [List.getD_eq_getElem?_getD, List.getD_eq_getElem?_getD, List.getElem?_append_left hi]
theorem cut_dec {v : InV} (hm : mayB v = true) (i1 : -9223372036854775808 ≤ v.imm) (i2 : v.imm ≤ 9223372036854775807) {k : Nat} (hk : k < (enc v).length) {g : Nat → Int} (hg : ∀ i, i < k → g i = (enc v).getD i 0) : dec k g = (zero, 0, 41) := dec_cut hm i1 i2 hk hg
end Cc

set_option maxRecDepth 100000 in
set_option maxHeartbeats 8000000 in
theorem ciscBack_walk (a0 : Option Addr) (len cap : Nat) (V : Nat → InV) (w : World) (hT : TabAt w) (hop : IsInsts4 w a0 len cap V) :
    Calls Tryd.prog 5 #[.slice a0 len cap] w fun e w' => e = .returned (.bool true) ∧ Below w.heap.size w w' := by
  obtain ⟨hlc, hcm, hop⟩ := hop
  have hcap : (len : Int) ≤ 9223372036854775807 := by unfold maxLen at hcm; omega
  have HO : Hid (len = 0 ∨ ∃ b off, a0 = some ⟨b, off, none⟩ ∧ b < w.heap.size ∧ ∀ i, i < len → InAt w b (off + i * 9) (V i) ∧ InRng (V i)) := hop
  have HT : Hid (TabAt w) := hT
  clear hop hcm hlc hT
  go_enter Tryd.func5, Tryd.ntmps5
  go_wp2
  go_loopw [3] (fun s wr => ∃ i : Nat, s = .int .i64 i ∧ i ≤ 100 ∧ Below w.heap.size w wr) (fun s _ => 100 - (intOf s).toNat)
  case atStart => exact ⟨0, rfl, by omega, Below.refl _ _⟩
  case round =>
    obtain ⟨i, rfl, hi, hbel⟩ := hrel
    obtain ⟨wo, rfl⟩ : ∃ wo, wo = wr := ⟨wr, rfl⟩
    have HT2 : Hid (TabAt wo) := HT.out.below hbel rfl
    by_cases hlt : i < len
    · by_cases h100 : (i : Int) < 100
      · rcases HO.out with h0 | ⟨b, off, rfl, hbb, HV⟩
        · omega
        obtain ⟨o1, f1⟩ := HV i hlt
        have O2 : Hid (InAt wo b (off + i * 9) (V i)) := o1.below hbel hbb
        have HF : Hid (InRng (V i)) := f1
        clear o1 f1 HV HO
        generalize hv : V i = v at *
        clear hv
        obtain ⟨c0, c1, c2, c3, c4, c5, c6, c7, c8⟩ := O2.out
        cases hm : Cc.mayB v
        · go_wp2_with (first
            | (go_at_call 7; refine (cencode_no v _ HT2.out HF.out hm).mono ?_; rintro e w1 ⟨rfl, hg1⟩)
            | (go_at_call 9; refine (cnum_any _ _).mono ?_; rintro e w3 ⟨rfl, rfl⟩))
          go_roundw
          case rel => exact ⟨i + 1, by go_num, by omega, hbel.grown hg1 hbel.size (by simp)⟩
          case measure => simp [intOf]; omega
        · have HL := Cc.enc_len v
          have HP := Cc.enc_pos v
          have HB : Hid (Cc.Byt (Cc.enc v)) := Cc.byt_enc v
          have HD : Hid (Cc.dec (Cc.enc v ++ [1, 2, 3]).length (fun i => (Cc.enc v ++ [1, 2, 3]).getD i 0) = (v, ((Cc.enc v).length : Int), 0)) := Cc.tail_dec hm HF.out.i1 HF.out.i2
          have HE : Hid (∀ W, TabAt W → Calls Tryd.prog 7 #[.agg #[.int .i64 v.op, .int .i64 v.a, .int .i64 v.b, .int .i64 v.c, .int .i64 v.k, .int .i64 v.sub, .int .i64 v.scale, .int .i64 v.imm, .int .i64 v.label]] W fun e w' => ∃ x, e = .returned (.tuple #[x, .int .i64 0]) ∧ OwnL w' W.heap.size x (Cc.enc v) ∧ W.grownBy w' none) := fun W hW => cencode_ok v W hW HF.out hm
          have HK : Hid (∀ k, k < (Cc.enc v).length → ∀ g : Nat → Int, (∀ i, i < k → g i = (Cc.enc v).getD i 0) → Cc.dec k g = (Cc.zero, 0, 41)) := fun k hk g hg => Cc.cut_dec hm HF.out.i1 HF.out.i2 hk hg
          clear hm
          generalize Cc.enc v = S at *
          go_wp2_with (first
            | (go_at_call 7; refine (HE.out _ HT2.out).mono ?_; rintro e w1 ⟨x, rfl, ho1, hg1⟩; obtain ⟨T, cp, rfl, hc1, hT1⟩ := own_slice ho1.toB HP)
            | (go_at_call 9; refine (cnum_any _ _).mono ?_; rintro e w3 ⟨rfl, rfl⟩)
            | (go_at_call 14; refine (copyB S.length cp (some ⟨T, 0, none⟩) (fun i => S.getD i 0) _ (by omega) (fun h => by cases h) (.inr ⟨T, 0, rfl, fun j hj => by rw [Nat.zero_add]; exact ho1.toB.cellAt hj⟩)).mono ?_; rintro e w4 ⟨x4, rfl, ho4, hg4⟩; obtain ⟨ao4, cp4, rfl, _⟩ := ho4.shape; have hl4 : OwnL w4 w3.heap.size (.slice ao4 S.length cp4) S := by unfold OwnL; rw [← bytesL_list]; exact ho4)
            | (at_builtin; refine wp_app3 rfl _ _ rfl w3.heap.size (.slice ao4 S.length cp4) S 1 2 3 rfl hl4 rfl (by omega) hg4.size ?_; intro x5 w5 ho5 hg5; obtain ⟨ao5, cp5, rfl, hb5⟩ := ho5.bsIn (Cc.byt_app HB.out Cc.byt_123)))
          have e3 : (S ++ [1, 2, 3]).length = S.length + 3 := by simp
          have HD5 := HD.out
          rw [e3] at hb5 HD5
          have G5 : w3.grownBy w5 none := below_grown (((Below.refl w3.heap.size w3).grown hg4 (Nat.le_refl _) (by simp)).grown hg5 hg4.size hl4.base)
          have hC := cdecode_any hb5
          rw [HD5] at hC
          refine hC.mono ?_
          rintro e w6 ⟨rfl, hg6⟩
          clear hC HD5
          have GX6 : w3.grownBy (w6.alloc (Obj.cells #[.int .i64 v.op, .int .i64 v.a, .int .i64 v.b, .int .i64 v.c, .int .i64 v.k, .int .i64 v.sub, .int .i64 v.scale, .int .i64 v.imm, .int .i64 v.label] 28)) none := ga (grown_trans G5 hg6) _
          have T6 : TabAt (w6.alloc (Obj.cells #[.int .i64 v.op, .int .i64 v.a, .int .i64 v.b, .int .i64 v.c, .int .i64 v.k, .int .i64 v.sub, .int .i64 v.scale, .int .i64 v.imm, .int .i64 v.label] 28)) := (HT2.out.kept hg1 (by simp)).kept GX6 (by simp)
          go_wp2_with fail
          refine (HE.out _ T6).mono ?_
          rintro e w7 ⟨x7, rfl, ho7, hg7⟩
          have G7 := grown_trans GX6 hg7
          have Q7 : Hid (InAt w7 b (off + i * 9) v) := O2.out.kept (grown_trans hg1 G7) (by simp)
          have X7 : Hid (InstAt w7 w6.heap.size v) := (InstAt.new w6 v).kept hg7 (by simp)
          have dd0 : ∀ x : Gw w7, x.w.cell? ⟨b, off + i * 9, none⟩ = some (.int .i64 v.op) := fun x => (Q7.out.kept x.h (by simp)).c0
          have dd1 : ∀ x : Gw w7, x.w.cell? ⟨b, off + i * 9 + 1, none⟩ = some (.int .i64 v.a) := fun x => (Q7.out.kept x.h (by simp)).c1
          have dd2 : ∀ x : Gw w7, x.w.cell? ⟨b, off + i * 9 + 2, none⟩ = some (.int .i64 v.b) := fun x => (Q7.out.kept x.h (by simp)).c2
          have dd3 : ∀ x : Gw w7, x.w.cell? ⟨b, off + i * 9 + 3, none⟩ = some (.int .i64 v.c) := fun x => (Q7.out.kept x.h (by simp)).c3
          have dd4 : ∀ x : Gw w7, x.w.cell? ⟨b, off + i * 9 + 4, none⟩ = some (.int .i64 v.k) := fun x => (Q7.out.kept x.h (by simp)).c4
          have dd5 : ∀ x : Gw w7, x.w.cell? ⟨b, off + i * 9 + 5, none⟩ = some (.int .i64 v.sub) := fun x => (Q7.out.kept x.h (by simp)).c5
          have dd6 : ∀ x : Gw w7, x.w.cell? ⟨b, off + i * 9 + 6, none⟩ = some (.int .i64 v.scale) := fun x => (Q7.out.kept x.h (by simp)).c6
          have dd7 : ∀ x : Gw w7, x.w.cell? ⟨b, off + i * 9 + 7, none⟩ = some (.int .i64 v.imm) := fun x => (Q7.out.kept x.h (by simp)).c7
          have dd8 : ∀ x : Gw w7, x.w.cell? ⟨b, off + i * 9 + 8, none⟩ = some (.int .i64 v.label) := fun x => (Q7.out.kept x.h (by simp)).c8
          have xx0 : ∀ x : Gw w7, x.w.cell? ⟨w6.heap.size, 0, none⟩ = some (.int .i64 v.op) := fun x => (X7.out.kept x.h (by simp)).c0
          have xx1 : ∀ x : Gw w7, x.w.cell? ⟨w6.heap.size, 1, none⟩ = some (.int .i64 v.a) := fun x => (X7.out.kept x.h (by simp)).c1
          have xx2 : ∀ x : Gw w7, x.w.cell? ⟨w6.heap.size, 2, none⟩ = some (.int .i64 v.b) := fun x => (X7.out.kept x.h (by simp)).c2
          have xx3 : ∀ x : Gw w7, x.w.cell? ⟨w6.heap.size, 3, none⟩ = some (.int .i64 v.c) := fun x => (X7.out.kept x.h (by simp)).c3
          have xx4 : ∀ x : Gw w7, x.w.cell? ⟨w6.heap.size, 4, none⟩ = some (.int .i64 v.k) := fun x => (X7.out.kept x.h (by simp)).c4
          have xx5 : ∀ x : Gw w7, x.w.cell? ⟨w6.heap.size, 5, none⟩ = some (.int .i64 v.sub) := fun x => (X7.out.kept x.h (by simp)).c5
          have xx6 : ∀ x : Gw w7, x.w.cell? ⟨w6.heap.size, 6, none⟩ = some (.int .i64 v.scale) := fun x => (X7.out.kept x.h (by simp)).c6
          have xx7 : ∀ x : Gw w7, x.w.cell? ⟨w6.heap.size, 7, none⟩ = some (.int .i64 v.imm) := fun x => (X7.out.kept x.h (by simp)).c7
          have xx8 : ∀ x : Gw w7, x.w.cell? ⟨w6.heap.size, 8, none⟩ = some (.int .i64 v.label) := fun x => (X7.out.kept x.h (by simp)).c8
          have ne : Nonempty (Gw w7) := ⟨⟨w7, World.grownBy.refl _ _⟩⟩
          have o8 : Hid (OwnL w7 wo.heap.size (.slice (some ⟨T, 0, none⟩) S.length cp) S) := OwnL.grow ho1 G7
          have HQ : Hid (∀ x : Gw w7, Calls Tryd.prog 10 #[.slice (some ⟨T, 0, none⟩) S.length cp, x7] x.w fun e w' => e = .returned (.bool true) ∧ x.w.grownBy w' none) :=
            fun x => (eq_ownL (by omega) (o8.out.grow x.h) (ho7.grow x.h)).mono fun e w' ⟨h1, d, h2⟩ => ⟨h1, by rw [h2]; exact grown_drewN (World.grownBy.refl _ _) d⟩
          have HN : Hid (∀ (x : Gw w7) (y : Int), Calls Tryd.prog 9 #[.int .i64 y] x.w fun e w' => e = .returned (.int .i64 y) ∧ x.w.grownBy w' none) :=
            fun x y => (cnum_any y x.w).mono fun e w' ⟨h1, h2⟩ => ⟨h1, by rw [h2]; exact World.grownBy.refl _ _⟩
          go_wp2_with fail
          refine region_grown (by kernel_rfl) (by kernel_rfl) ?_
          repeat (go_big_quiet_step ((first
            | (go_at_call 9; exact Gw.call (HN.out _ _))
            | (go_at_call 10; exact Gw.call (HQ.out _)))))
          refine wpQuiet_nil ?_
          rintro _ ⟨x, rfl⟩
          have GX := grown_trans (grown_trans hg1 G7) x.h
          have hbX := hbel.grown GX hbel.size (by simp)
          have oX : OwnL x.w wo.heap.size (.slice (some ⟨T, 0, none⟩) S.length cp) S := o8.out.grow x.h
          clear c0 dd0 xx0 c1 dd1 xx1 c2 dd2 xx2 c3 dd3 xx3 c4 dd4 xx4 c5 dd5 xx5 c6 dd6 xx6 c7 dd7 xx7 c8 dd8 xx8 HQ HN ne
          go_wp2_with fail
          go_loopw [11] (fun s wr => ∃ k : Nat, s = .int .i64 k ∧ k ≤ S.length ∧ Below w.heap.size w wr ∧ OwnL wr wo.heap.size (.slice (some ⟨T, 0, none⟩) S.length cp) S) (fun s _ => S.length - (intOf s).toNat)
          case atStart => exact ⟨0, rfl, Nat.zero_le _, hbX, oX⟩
          case round =>
            obtain ⟨k, rfl, hk, hbk, ok0⟩ := hrel
            have ok : Hid (OwnL wr wo.heap.size (.slice (some ⟨T, 0, none⟩) S.length cp) S) := ok0
            clear hbX oX GX ok0
            by_cases hki : k < S.length
            · have hki' : (k : Int) < (S.length : Int) := by omega
              have hkc : (k : Int) ≤ cp := by omega
              go_wp2_with (first
                | (go_at_call 14; refine (copyB k cp (some ⟨T, 0, none⟩) (fun i => S.getD i 0) _ (by omega) (fun h => by cases h) (.inr ⟨T, 0, rfl, fun j hj => by rw [Nat.zero_add]; exact ok.out.toB.cellAt (by omega)⟩)).mono ?_; rintro e w9 ⟨x9, rfl, ho9, hg9⟩; obtain ⟨ao9, cp9, rfl, hb9⟩ := ho9.bsIn (Cc.byt_fit HB.out))
                | (go_at_call 15; refine (cdecode_any hb9).mono ?_; rw [HK.out k hki _ (fun _ _ => rfl)]; rintro e w10 ⟨rfl, hg10⟩)
                | (go_at_call 9; refine (cnum_any _ _).mono ?_; rintro e w11 ⟨rfl, rfl⟩))
              have G10 := ga (grown_trans hg9 hg10) (Obj.cells #[.int .i64 Cc.zero.op, .int .i64 Cc.zero.a, .int .i64 Cc.zero.b, .int .i64 Cc.zero.c, .int .i64 Cc.zero.k, .int .i64 Cc.zero.sub, .int .i64 Cc.zero.scale, .int .i64 Cc.zero.imm, .int .i64 Cc.zero.label] 28)
              exact ⟨⟨k + 1, by go_num, by omega, hbk.grown G10 hbk.size (by simp), ok.out.grow G10⟩, by simp [intOf]; omega⟩
            · obtain rfl : k = S.length := by omega
              go_wp2
              go_roundw
              case rel => exact ⟨i + 1, by go_num, by omega, hbk⟩
              case measure => simp [intOf]; omega
      · clear HO
        go_wp2_with (go_at_call 13; refine (cwakes_any _ HT2.out).mono ?_; rintro e w7 ⟨rfl, hg7⟩)
        go_ret
        exact ⟨rfl, hbel.grown hg7 hbel.size (by simp)⟩
    · clear HO
      go_wp2_with (go_at_call 13; refine (cwakes_any _ HT2.out).mono ?_; rintro e w7 ⟨rfl, hg7⟩)
      go_ret
      exact ⟨rfl, hbel.grown hg7 hbel.size (by simp)⟩
end Go.Proofs.YtbghjlamedlchaaDoor
