/- CiscRows: the walk. -/
import Derived.Test.YtbghjlamedlchaaDoorCeOwnI
namespace Go.Proofs.YtbghjlamedlchaaDoor
open Go.RowKit
set_option linter.unusedVariables false

namespace Cc
/-- instructions' bytes, one behind the other -/
def row9 (l : List InV) : List Int := l.flatMap enc
theorem row9_app (l : List InV) (v : InV) : row9 (l ++ [v]) = row9 l ++ enc v := by unfold row9; rw [List.flatMap_append]; simp
theorem row9_len (l : List InV) : (row9 l).length ≤ 33 * l.length := by
  induction l with
  | nil => exact Nat.le_refl _
  | cons v l ih =>
    have := enc_len v
    unfold row9 at ih ⊢
    rw [List.flatMap_cons, List.length_append, List.length_cons]; omega
theorem byt_row9 (l : List InV) : Byt (row9 l) := by
  intro x hx
  obtain ⟨v, _, hv⟩ := List.mem_flatMap.mp hx
  exact byt_enc v x hv
theorem row9_cut {l : List InV} {i : Nat} (hi : i < l.length) : row9 l = row9 (l.take i) ++ (enc l[i] ++ row9 (l.drop (i + 1))) := by
  unfold row9
  conv => lhs; rw [← List.take_append_drop i l, List.flatMap_append, List.drop_eq_getElem_cons hi, List.flatMap_cons]
theorem row9_next {l : List InV} {i : Nat} (hi : i < l.length) : (row9 (l.take (i + 1))).length = (row9 (l.take i)).length + (enc l[i]).length := by
  rw [List.take_succ_eq_append_getElem hi, row9_app, List.length_append]
/-- each is read where the one ahead of it ends -/
theorem row9_dec {l : List InV} {i : Nat} (hi : i < l.length) (hm : mayB l[i] = true) (hr : InRng l[i]) {n : Nat} (hn : (row9 l).length = (row9 (l.take i)).length + n) {g : Nat → Int} (hg : ∀ j, j < n → g j = (row9 l).getD ((row9 (l.take i)).length + j) 0) :
    dec n g = (l[i], ((enc l[i]).length : Int), 0) := by
  have hc := row9_cut hi
  have hl : (enc l[i]).length ≤ n := by
    rw [hc, List.length_append, List.length_append] at hn
    omega
  refine dec_enc hm hr.i1 hr.i2 hl fun j hj => ?_
  rw [hg j (by omega), hc, List.getD_eq_getElem?_getD, List.getD_eq_getElem?_getD, List.getElem?_append_right (by omega), Nat.add_sub_cancel_left, List.getElem?_append_left hj]
theorem row9_le {l : List InV} {i : Nat} (hi : i ≤ l.length) : (row9 (l.take i)).length ≤ (row9 l).length := by
  have : row9 l = row9 (l.take i) ++ row9 (l.drop i) := by
    unfold row9
    rw [← List.flatMap_append, List.take_append_drop]
  rw [this, List.length_append]; omega
end Cc

set_option maxRecDepth 100000 in
set_option maxHeartbeats 8000000 in
theorem ciscRows_walk (a0 : Option Addr) (len cap : Nat) (V : Nat → InV) (w : World) (hT : TabAt w) (hop : IsInsts4 w a0 len cap V) :
    Calls Tryd.prog 6 #[.slice a0 len cap] w fun e w' => e = .returned (.bool true) ∧ Below w.heap.size w w' := by
  obtain ⟨hlc, hcm, hop⟩ := hop
  have hcap : (len : Int) ≤ 9223372036854775807 := by unfold maxLen at hcm; omega
  have HO : Hid (len = 0 ∨ ∃ b off, a0 = some ⟨b, off, none⟩ ∧ b < w.heap.size ∧ ∀ i, i < len → InAt w b (off + i * 9) (V i) ∧ InRng (V i)) := hop
  have HT : Hid (TabAt w) := hT
  clear hop hcm hlc hT
  go_enter Tryd.func6, Tryd.ntmps6
  go_wp2
  go_loopw [3, 4, 5] (fun ua uw s wr => ∃ (i : Nat) (ws : List InV), s = .int .i64 i ∧ i ≤ 100 ∧ ws.length ≤ i ∧ (∀ v ∈ ws, Cc.mayB v = true ∧ InRng v) ∧ OwnL wr w.heap.size ua (Cc.row9 ws) ∧ OwnI wr w.heap.size uw ws ∧ Below w.heap.size w wr) (fun _ _ s _ => 100 - (intOf s).toNat)
  case atStart => exact ⟨0, [], rfl, by omega, by simp, by intro v h; simp at h, OwnL.nil _ _, OwnI.nil _ _, Below.refl _ _⟩
  case round =>
    obtain ⟨i, ws, rfl, hi, hwl, hws, hA0, hI0, hbel⟩ := hrel
    obtain ⟨wo, rfl⟩ : ∃ wo, wo = wr := ⟨wr, rfl⟩
    have HT2 : Hid (TabAt wo) := HT.out.below hbel rfl
    have HWS : Hid (∀ v ∈ ws, Cc.mayB v = true ∧ InRng v) := hws
    have hrl := Cc.row9_len ws
    have hBy : Hid (Cc.Byt (Cc.row9 ws)) := Cc.byt_row9 ws
    obtain ⟨aa, ca, rfl, haa, hca, hma, _⟩ := hA0.toB.shape
    obtain ⟨aw, cw, rfl, hcw, haw⟩ := hI0.slice
    have hA : Hid (OwnL wo w.heap.size (.slice aa (Cc.row9 ws).length ca) (Cc.row9 ws)) := hA0
    have hI : Hid (OwnI wo w.heap.size (.slice aw ws.length cw) ws) := hI0
    clear hA0 hI0 hws
    by_cases hlt : i < len ∧ (i : Int) < 100
    · obtain ⟨hlt, h100⟩ := hlt
      rcases HO.out with h0 | ⟨b, off, rfl, hbb, HV⟩
      · omega
      obtain ⟨o1, f1⟩ := HV i hlt
      have O2 : Hid (InAt wo b (off + i * 9) (V i)) := o1.below hbel hbb
      have HF : Hid (InRng (V i)) := f1
      clear o1 f1 HV HO
      generalize hv : V i = v at *
      clear hv
      obtain ⟨c0, c1, c2, c3, c4, c5, c6, c7, c8⟩ := O2.out
      cases hm : Cc.mayB v
      · go_wp2_with (first
          | (go_at_call 7; refine (cencode_no v _ HT2.out HF.out hm).mono ?_; rintro e w1 ⟨rfl, hg1⟩)
          | (go_at_call 9; refine (cnum_any _ _).mono ?_; rintro e w3 ⟨rfl, rfl⟩))
        exact ⟨⟨i + 1, ws, by go_num, by omega, by omega, HWS.out, hA.out.grow hg1, hI.out.grow hg1, hbel.grown hg1 hbel.size (by simp)⟩, by simp [intOf]; omega⟩
      · have HL := Cc.enc_len v
        have HP := Cc.enc_pos v
        have HE : Hid (∀ W, TabAt W → Calls Tryd.prog 7 #[.agg #[.int .i64 v.op, .int .i64 v.a, .int .i64 v.b, .int .i64 v.c, .int .i64 v.k, .int .i64 v.sub, .int .i64 v.scale, .int .i64 v.imm, .int .i64 v.label]] W fun e w' => ∃ x, e = .returned (.tuple #[x, .int .i64 0]) ∧ OwnL w' W.heap.size x (Cc.enc v) ∧ W.grownBy w' none) := fun W hW => cencode_ok v W hW HF.out hm
        have HM : Hid (Cc.mayB v = true) := hm
        have HR : Hid (Cc.row9 (ws ++ [v]) = Cc.row9 ws ++ Cc.enc v) := Cc.row9_app ws v
        clear hm
        generalize Cc.enc v = S at *
        have hbs : w.heap.size ≤ wo.heap.size := hbel.size
        generalize hRW : Cc.row9 ws = RW at *
        go_wp2_with (first
          | (go_at_call 7; refine (HE.out _ HT2.out).mono ?_; rintro e w1 ⟨x, rfl, ho1, hg1⟩; obtain ⟨T, cp, rfl, hc1, hT1⟩ := own_slice ho1.toB HP)
          | (go_at_call 9; refine (cnum_any _ _).mono ?_; rintro e w3 ⟨rfl, rfl⟩)
          | (at_builtin; refine wp_appS rfl _ _ rfl w.heap.size (.slice aa RW.length ca) RW S T cp wo.heap.size rfl (hA.out.grow hg1) rfl ho1 (by omega) (by omega) (Nat.le_trans hbs hg1.size) ?_; intro v4 w4 ho4 hg4; have hI4 := (hI.out.grow hg1).kept hg4 (own_apart (hA.out.grow hg1) (hI.out.grow hg1)).2; have P4 := ((O2.out.kept hg1 (by simp)).kept hg4 (by intro e; have := (hA.out.grow hg1).base b e.symm; omega)); obtain ⟨d0, d1, d2, d3, d4, d5, d6, d7, d8⟩ := P4)
          | (at_builtin; refine wp_appI rfl _ _ rfl w.heap.size (.slice aw ws.length cw) ws v rfl hI4 rfl (by omega) (Nat.le_trans hbs (Nat.le_trans hg1.size hg4.size)) ?_; intro v5 w5 ho5 hg5))
        refine ⟨⟨i + 1, ws ++ [v], by go_num, by omega, by simp; omega, ?_, ?_, ho5, ?_⟩, by simp [intOf]; omega⟩
        · intro u hu
          rcases List.mem_append.mp hu with hu | hu
          · exact HWS.out u hu
          · rw [List.mem_singleton] at hu
            subst hu
            exact ⟨HM.out, HF.out⟩
        · rw [HR.out]
          exact ho4.kept hg5 (own_apart ho4 hI4).1
        · exact ((hbel.grown hg1 hbel.size (by simp)).grown hg4 (Nat.le_trans hbs hg1.size) (hA.out.grow hg1).base).grown hg5 (Nat.le_trans hbs (Nat.le_trans hg1.size hg4.size)) hI4.base
    · have hrl2 : (Cc.row9 ws).length ≤ 3300 := by omega
      have hwo : w.heap.size ≤ wo.heap.size := hbel.size
      by_cases hl : i < len
      · have h100 : ¬ (i : Int) < 100 := fun h => hlt ⟨hl, h⟩
        clear hlt HO
        go_wp2_with fail
        go_loopw [8, 9] (fun sa s wr => ∃ j : Nat, s = .int .i64 j ∧ j ≤ ws.length ∧ sa = .int .i64 ((Cc.row9 (ws.take j)).length : Nat) ∧ OwnL wr w.heap.size (.slice aa (Cc.row9 ws).length ca) (Cc.row9 ws) ∧ OwnI wr w.heap.size (.slice aw ws.length cw) ws ∧ Below w.heap.size w wr) (fun _ s _ => ws.length - (intOf s).toNat)
        case atStart => exact ⟨0, rfl, Nat.zero_le _, rfl, hA.out, hI.out, hbel⟩
        case round =>
          obtain ⟨j, rfl, hj, rfl, hA0, hI0, hbk⟩ := hrel
          have hA2 : Hid (OwnL wr w.heap.size (.slice aa (Cc.row9 ws).length ca) (Cc.row9 ws)) := hA0
          have hI2 : Hid (OwnI wr w.heap.size (.slice aw ws.length cw) ws) := hI0
          have HT3 : Hid (TabAt wr) := HT.out.below hbk rfl
          have hPL := Cc.row9_le hj
          clear hA0 hI0
          by_cases hjl : j < ws.length
          · have hjl' : (j : Int) < (ws.length : Int) := by omega
            obtain ⟨TW, rfl, _⟩ := haw (by omega)
            have hmr := HWS.out ws[j] (List.getElem_mem hjl)
            have hnx := Cc.row9_next hjl
            have hpos := Cc.enc_pos ws[j]
            have hcut : (Cc.row9 (ws.take j)).length < (Cc.row9 ws).length := by
              have := Cc.row9_le (show j + 1 ≤ ws.length from hjl)
              omega
            have HD : Hid (∀ (n : Nat) (g : Nat → Int), (Cc.row9 ws).length = (Cc.row9 (ws.take j)).length + n → (∀ k, k < n → g k = (Cc.row9 ws).getD ((Cc.row9 (ws.take j)).length + k) 0) → Cc.dec n g = (ws[j], ((Cc.enc ws[j]).length : Int), 0)) := fun n g hn hg => Cc.row9_dec hjl hmr.1 hmr.2 hn hg
            have HIN : Hid (InAt wr TW (0 + j * 9) ws[j]) := hI2.out.inAt rfl hjl
            have HFT : Hid (∀ p : Nat, Mm.Fit (fun k => (Cc.row9 ws).getD (p + k) 0)) := fun p k => Cc.byt_fit hBy.out (p + k)
            clear hmr
            generalize ws[j] = v at *
            generalize hEL : (Cc.enc v).length = EL at *
            obtain ⟨n, hn⟩ : ∃ n, (Cc.row9 ws).length = (Cc.row9 (ws.take j)).length + n := ⟨(Cc.row9 ws).length - (Cc.row9 (ws.take j)).length, by omega⟩
            have HD2 := HD.out n (fun k => (Cc.row9 ws).getD ((Cc.row9 (ws.take j)).length + k) 0) hn (fun _ _ => rfl)
            have HF2 := HFT.out (Cc.row9 (ws.take j)).length
            obtain ⟨TA, ca', e1, _, _⟩ := own_slice hA2.out.toB (by omega)
            injection e1 with e1 _ e3
            subst e1 e3
            have HCE : Hid (∀ k, k < n → wr.cell? ⟨TA, (Cc.row9 (ws.take j)).length + k, none⟩ = some (.int .u8 ((Cc.row9 ws).getD ((Cc.row9 (ws.take j)).length + k) 0))) := fun k hk => hA2.out.toB.cellAt (by omega)
            generalize hP : (Cc.row9 (ws.take j)).length = P at *
            generalize hG : (fun k => (Cc.row9 ws).getD (P + k) 0) = g at *
            have HCE : Hid (∀ k, k < n → wr.cell? ⟨TA, P + k, none⟩ = some (.int .u8 (g k))) := fun k hk => by rw [← hG]; exact HCE.out k hk
            have hLi : ((Cc.row9 ws).length : Int) = (P : Int) + n := by omega
            have hPc : (P : Int) ≤ ca := by omega
            generalize hRL : (Cc.row9 ws).length = RL at *
            go_wp2_with (first
              | (go_at_call 14; refine (copyB n (ca - P) (some ⟨TA, P, none⟩) g _ (by omega) (fun h => by cases h) (.inr ⟨TA, P, rfl, HCE.out⟩)).mono ?_; rintro e w4 ⟨x4, rfl, ho4, hg4⟩; obtain ⟨ao4, cp4, rfl, hb4⟩ := ho4.bsIn HF2)
              | (go_at_call 15; refine (cdecode_any hb4).mono ?_; rw [HD2]; rintro e w5 ⟨rfl, hg5⟩))
            have G7 : wr.grownBy (w5.alloc (Obj.cells #[.int .i64 v.op, .int .i64 v.a, .int .i64 v.b, .int .i64 v.c, .int .i64 v.k, .int .i64 v.sub, .int .i64 v.scale, .int .i64 v.imm, .int .i64 v.label] 28)) none := ga (grown_trans hg4 hg5) _
            have Q7 : Hid (InAt (w5.alloc (Obj.cells #[.int .i64 v.op, .int .i64 v.a, .int .i64 v.b, .int .i64 v.c, .int .i64 v.k, .int .i64 v.sub, .int .i64 v.scale, .int .i64 v.imm, .int .i64 v.label] 28)) TW (0 + j * 9) v) := HIN.out.kept G7 (by simp)
            have X7 : Hid (InstAt (w5.alloc (Obj.cells #[.int .i64 v.op, .int .i64 v.a, .int .i64 v.b, .int .i64 v.c, .int .i64 v.k, .int .i64 v.sub, .int .i64 v.scale, .int .i64 v.imm, .int .i64 v.label] 28)) w5.heap.size v) := InstAt.new w5 v
            obtain ⟨W7, hW7⟩ : ∃ W7, W7 = w5.alloc (Obj.cells #[.int .i64 v.op, .int .i64 v.a, .int .i64 v.b, .int .i64 v.c, .int .i64 v.k, .int .i64 v.sub, .int .i64 v.scale, .int .i64 v.imm, .int .i64 v.label] 28) := ⟨_, rfl⟩
            rw [← hW7] at G7 Q7 X7
            rw [← hW7]
            clear hW7
            have dd0 : ∀ x : Gw W7, x.w.cell? ⟨TW, j * 9, none⟩ = some (.int .i64 v.op) := fun x => by have := (Q7.out.kept x.h (by simp)).c0; rwa [Nat.zero_add] at this
            have dd1 : ∀ x : Gw W7, x.w.cell? ⟨TW, j * 9 + 1, none⟩ = some (.int .i64 v.a) := fun x => by have := (Q7.out.kept x.h (by simp)).c1; rwa [Nat.zero_add] at this
            have dd2 : ∀ x : Gw W7, x.w.cell? ⟨TW, j * 9 + 2, none⟩ = some (.int .i64 v.b) := fun x => by have := (Q7.out.kept x.h (by simp)).c2; rwa [Nat.zero_add] at this
            have dd3 : ∀ x : Gw W7, x.w.cell? ⟨TW, j * 9 + 3, none⟩ = some (.int .i64 v.c) := fun x => by have := (Q7.out.kept x.h (by simp)).c3; rwa [Nat.zero_add] at this
            have dd4 : ∀ x : Gw W7, x.w.cell? ⟨TW, j * 9 + 4, none⟩ = some (.int .i64 v.k) := fun x => by have := (Q7.out.kept x.h (by simp)).c4; rwa [Nat.zero_add] at this
            have dd5 : ∀ x : Gw W7, x.w.cell? ⟨TW, j * 9 + 5, none⟩ = some (.int .i64 v.sub) := fun x => by have := (Q7.out.kept x.h (by simp)).c5; rwa [Nat.zero_add] at this
            have dd6 : ∀ x : Gw W7, x.w.cell? ⟨TW, j * 9 + 6, none⟩ = some (.int .i64 v.scale) := fun x => by have := (Q7.out.kept x.h (by simp)).c6; rwa [Nat.zero_add] at this
            have dd7 : ∀ x : Gw W7, x.w.cell? ⟨TW, j * 9 + 7, none⟩ = some (.int .i64 v.imm) := fun x => by have := (Q7.out.kept x.h (by simp)).c7; rwa [Nat.zero_add] at this
            have dd8 : ∀ x : Gw W7, x.w.cell? ⟨TW, j * 9 + 8, none⟩ = some (.int .i64 v.label) := fun x => by have := (Q7.out.kept x.h (by simp)).c8; rwa [Nat.zero_add] at this
            have xx0 : ∀ x : Gw W7, x.w.cell? ⟨w5.heap.size, 0, none⟩ = some (.int .i64 v.op) := fun x => (X7.out.kept x.h (by simp)).c0
            have xx1 : ∀ x : Gw W7, x.w.cell? ⟨w5.heap.size, 1, none⟩ = some (.int .i64 v.a) := fun x => (X7.out.kept x.h (by simp)).c1
            have xx2 : ∀ x : Gw W7, x.w.cell? ⟨w5.heap.size, 2, none⟩ = some (.int .i64 v.b) := fun x => (X7.out.kept x.h (by simp)).c2
            have xx3 : ∀ x : Gw W7, x.w.cell? ⟨w5.heap.size, 3, none⟩ = some (.int .i64 v.c) := fun x => (X7.out.kept x.h (by simp)).c3
            have xx4 : ∀ x : Gw W7, x.w.cell? ⟨w5.heap.size, 4, none⟩ = some (.int .i64 v.k) := fun x => (X7.out.kept x.h (by simp)).c4
            have xx5 : ∀ x : Gw W7, x.w.cell? ⟨w5.heap.size, 5, none⟩ = some (.int .i64 v.sub) := fun x => (X7.out.kept x.h (by simp)).c5
            have xx6 : ∀ x : Gw W7, x.w.cell? ⟨w5.heap.size, 6, none⟩ = some (.int .i64 v.scale) := fun x => (X7.out.kept x.h (by simp)).c6
            have xx7 : ∀ x : Gw W7, x.w.cell? ⟨w5.heap.size, 7, none⟩ = some (.int .i64 v.imm) := fun x => (X7.out.kept x.h (by simp)).c7
            have xx8 : ∀ x : Gw W7, x.w.cell? ⟨w5.heap.size, 8, none⟩ = some (.int .i64 v.label) := fun x => (X7.out.kept x.h (by simp)).c8
            have ne : Nonempty (Gw W7) := ⟨⟨W7, World.grownBy.refl _ _⟩⟩
            have HN : Hid (∀ (x : Gw W7) (y : Int), Calls Tryd.prog 9 #[.int .i64 y] x.w fun e w' => e = .returned (.int .i64 y) ∧ x.w.grownBy w' none) :=
              fun x y => (cnum_any y x.w).mono fun e w' ⟨h1, h2⟩ => ⟨h1, by rw [h2]; exact World.grownBy.refl _ _⟩
            have hEp : ¬ (EL : Int) ≤ 0 := by omega
            have hEq : ((EL : Int) ≤ 0) = False := _root_.eq_false hEp
            have hEd : decide ((EL : Int) ≤ 0) = false := by simpa using hEp
            have HNX : Hid ((Cc.row9 (ws.take (j + 1))).length = P + EL) := hnx
            have HRN : Hid (P + n = RL) := by show P + n = RL; omega
            have HPE : Hid (P + EL ≤ 100000) := by have := Cc.row9_le (show j + 1 ≤ ws.length from hjl); show P + EL ≤ 100000; omega
            clear haw hEL hcut hPL hn hP hG hRL hLi hPc HD2 HF2 hb4 ho4 hnx
            refine region_grown (by kernel_rfl) (by kernel_rfl) ?_
            repeat (go_big_quiet_step ((first
              | (go_at_call 9; exact Gw.call (HN.out _ _)))))
            refine wpQuiet_nil ?_
            rintro _ ⟨x, rfl⟩
            have GX := grown_trans G7 x.h
            clear dd0 xx0 dd1 xx1 dd2 xx2 dd3 xx3 dd4 xx4 dd5 xx5 dd6 xx6 dd7 xx7 dd8 xx8 HN ne
            go_wp2
            have hpe := HPE.out
            have hwr : wrap64 ((P : Int) + EL) = (((Cc.row9 (ws.take (j + 1))).length : Nat) : Int) := by rw [HNX.out]; unfold wrap64; omega
            exact ⟨⟨_, _, _, ⟨j + 1, by go_num, hjl, by rw [hwr], hA2.out.grow GX, hI2.out.grow GX, hbk.grown GX hbk.size (by simp)⟩, rfl, HRN.out, rfl, rfl⟩, by simp [intOf]; omega⟩
          · obtain rfl : j = ws.length := by omega
            have HLL : Hid ((Cc.row9 (ws.take ws.length)).length = (Cc.row9 ws).length) := by rw [List.take_length]; exact rfl
            generalize (Cc.row9 (ws.take ws.length)).length = P at *
            obtain rfl : P = (Cc.row9 ws).length := HLL.out
            go_wp2_with (go_at_call 13; refine (cwakes_any _ HT3.out).mono ?_; rintro e w7 ⟨rfl, hg7⟩)
            go_ret
            exact ⟨rfl, hbk.grown hg7 hbk.size (by simp)⟩
      · clear hlt HO
        go_wp2_with fail
        go_loopw [8, 9] (fun sa s wr => ∃ j : Nat, s = .int .i64 j ∧ j ≤ ws.length ∧ sa = .int .i64 ((Cc.row9 (ws.take j)).length : Nat) ∧ OwnL wr w.heap.size (.slice aa (Cc.row9 ws).length ca) (Cc.row9 ws) ∧ OwnI wr w.heap.size (.slice aw ws.length cw) ws ∧ Below w.heap.size w wr) (fun _ s _ => ws.length - (intOf s).toNat)
        case atStart => exact ⟨0, rfl, Nat.zero_le _, rfl, hA.out, hI.out, hbel⟩
        case round =>
          obtain ⟨j, rfl, hj, rfl, hA0, hI0, hbk⟩ := hrel
          have hA2 : Hid (OwnL wr w.heap.size (.slice aa (Cc.row9 ws).length ca) (Cc.row9 ws)) := hA0
          have hI2 : Hid (OwnI wr w.heap.size (.slice aw ws.length cw) ws) := hI0
          have HT3 : Hid (TabAt wr) := HT.out.below hbk rfl
          have hPL := Cc.row9_le hj
          clear hA0 hI0
          by_cases hjl : j < ws.length
          · have hjl' : (j : Int) < (ws.length : Int) := by omega
            obtain ⟨TW, rfl, _⟩ := haw (by omega)
            have hmr := HWS.out ws[j] (List.getElem_mem hjl)
            have hnx := Cc.row9_next hjl
            have hpos := Cc.enc_pos ws[j]
            have hcut : (Cc.row9 (ws.take j)).length < (Cc.row9 ws).length := by
              have := Cc.row9_le (show j + 1 ≤ ws.length from hjl)
              omega
            have HD : Hid (∀ (n : Nat) (g : Nat → Int), (Cc.row9 ws).length = (Cc.row9 (ws.take j)).length + n → (∀ k, k < n → g k = (Cc.row9 ws).getD ((Cc.row9 (ws.take j)).length + k) 0) → Cc.dec n g = (ws[j], ((Cc.enc ws[j]).length : Int), 0)) := fun n g hn hg => Cc.row9_dec hjl hmr.1 hmr.2 hn hg
            have HIN : Hid (InAt wr TW (0 + j * 9) ws[j]) := hI2.out.inAt rfl hjl
            have HFT : Hid (∀ p : Nat, Mm.Fit (fun k => (Cc.row9 ws).getD (p + k) 0)) := fun p k => Cc.byt_fit hBy.out (p + k)
            clear hmr
            generalize ws[j] = v at *
            generalize hEL : (Cc.enc v).length = EL at *
            obtain ⟨n, hn⟩ : ∃ n, (Cc.row9 ws).length = (Cc.row9 (ws.take j)).length + n := ⟨(Cc.row9 ws).length - (Cc.row9 (ws.take j)).length, by omega⟩
            have HD2 := HD.out n (fun k => (Cc.row9 ws).getD ((Cc.row9 (ws.take j)).length + k) 0) hn (fun _ _ => rfl)
            have HF2 := HFT.out (Cc.row9 (ws.take j)).length
            obtain ⟨TA, ca', e1, _, _⟩ := own_slice hA2.out.toB (by omega)
            injection e1 with e1 _ e3
            subst e1 e3
            have HCE : Hid (∀ k, k < n → wr.cell? ⟨TA, (Cc.row9 (ws.take j)).length + k, none⟩ = some (.int .u8 ((Cc.row9 ws).getD ((Cc.row9 (ws.take j)).length + k) 0))) := fun k hk => hA2.out.toB.cellAt (by omega)
            generalize hP : (Cc.row9 (ws.take j)).length = P at *
            generalize hG : (fun k => (Cc.row9 ws).getD (P + k) 0) = g at *
            have HCE : Hid (∀ k, k < n → wr.cell? ⟨TA, P + k, none⟩ = some (.int .u8 (g k))) := fun k hk => by rw [← hG]; exact HCE.out k hk
            have hLi : ((Cc.row9 ws).length : Int) = (P : Int) + n := by omega
            have hPc : (P : Int) ≤ ca := by omega
            generalize hRL : (Cc.row9 ws).length = RL at *
            go_wp2_with (first
              | (go_at_call 14; refine (copyB n (ca - P) (some ⟨TA, P, none⟩) g _ (by omega) (fun h => by cases h) (.inr ⟨TA, P, rfl, HCE.out⟩)).mono ?_; rintro e w4 ⟨x4, rfl, ho4, hg4⟩; obtain ⟨ao4, cp4, rfl, hb4⟩ := ho4.bsIn HF2)
              | (go_at_call 15; refine (cdecode_any hb4).mono ?_; rw [HD2]; rintro e w5 ⟨rfl, hg5⟩))
            have G7 : wr.grownBy (w5.alloc (Obj.cells #[.int .i64 v.op, .int .i64 v.a, .int .i64 v.b, .int .i64 v.c, .int .i64 v.k, .int .i64 v.sub, .int .i64 v.scale, .int .i64 v.imm, .int .i64 v.label] 28)) none := ga (grown_trans hg4 hg5) _
            have Q7 : Hid (InAt (w5.alloc (Obj.cells #[.int .i64 v.op, .int .i64 v.a, .int .i64 v.b, .int .i64 v.c, .int .i64 v.k, .int .i64 v.sub, .int .i64 v.scale, .int .i64 v.imm, .int .i64 v.label] 28)) TW (0 + j * 9) v) := HIN.out.kept G7 (by simp)
            have X7 : Hid (InstAt (w5.alloc (Obj.cells #[.int .i64 v.op, .int .i64 v.a, .int .i64 v.b, .int .i64 v.c, .int .i64 v.k, .int .i64 v.sub, .int .i64 v.scale, .int .i64 v.imm, .int .i64 v.label] 28)) w5.heap.size v) := InstAt.new w5 v
            obtain ⟨W7, hW7⟩ : ∃ W7, W7 = w5.alloc (Obj.cells #[.int .i64 v.op, .int .i64 v.a, .int .i64 v.b, .int .i64 v.c, .int .i64 v.k, .int .i64 v.sub, .int .i64 v.scale, .int .i64 v.imm, .int .i64 v.label] 28) := ⟨_, rfl⟩
            rw [← hW7] at G7 Q7 X7
            rw [← hW7]
            clear hW7
            have dd0 : ∀ x : Gw W7, x.w.cell? ⟨TW, j * 9, none⟩ = some (.int .i64 v.op) := fun x => by have := (Q7.out.kept x.h (by simp)).c0; rwa [Nat.zero_add] at this
            have dd1 : ∀ x : Gw W7, x.w.cell? ⟨TW, j * 9 + 1, none⟩ = some (.int .i64 v.a) := fun x => by have := (Q7.out.kept x.h (by simp)).c1; rwa [Nat.zero_add] at this
            have dd2 : ∀ x : Gw W7, x.w.cell? ⟨TW, j * 9 + 2, none⟩ = some (.int .i64 v.b) := fun x => by have := (Q7.out.kept x.h (by simp)).c2; rwa [Nat.zero_add] at this
            have dd3 : ∀ x : Gw W7, x.w.cell? ⟨TW, j * 9 + 3, none⟩ = some (.int .i64 v.c) := fun x => by have := (Q7.out.kept x.h (by simp)).c3; rwa [Nat.zero_add] at this
            have dd4 : ∀ x : Gw W7, x.w.cell? ⟨TW, j * 9 + 4, none⟩ = some (.int .i64 v.k) := fun x => by have := (Q7.out.kept x.h (by simp)).c4; rwa [Nat.zero_add] at this
            have dd5 : ∀ x : Gw W7, x.w.cell? ⟨TW, j * 9 + 5, none⟩ = some (.int .i64 v.sub) := fun x => by have := (Q7.out.kept x.h (by simp)).c5; rwa [Nat.zero_add] at this
            have dd6 : ∀ x : Gw W7, x.w.cell? ⟨TW, j * 9 + 6, none⟩ = some (.int .i64 v.scale) := fun x => by have := (Q7.out.kept x.h (by simp)).c6; rwa [Nat.zero_add] at this
            have dd7 : ∀ x : Gw W7, x.w.cell? ⟨TW, j * 9 + 7, none⟩ = some (.int .i64 v.imm) := fun x => by have := (Q7.out.kept x.h (by simp)).c7; rwa [Nat.zero_add] at this
            have dd8 : ∀ x : Gw W7, x.w.cell? ⟨TW, j * 9 + 8, none⟩ = some (.int .i64 v.label) := fun x => by have := (Q7.out.kept x.h (by simp)).c8; rwa [Nat.zero_add] at this
            have xx0 : ∀ x : Gw W7, x.w.cell? ⟨w5.heap.size, 0, none⟩ = some (.int .i64 v.op) := fun x => (X7.out.kept x.h (by simp)).c0
            have xx1 : ∀ x : Gw W7, x.w.cell? ⟨w5.heap.size, 1, none⟩ = some (.int .i64 v.a) := fun x => (X7.out.kept x.h (by simp)).c1
            have xx2 : ∀ x : Gw W7, x.w.cell? ⟨w5.heap.size, 2, none⟩ = some (.int .i64 v.b) := fun x => (X7.out.kept x.h (by simp)).c2
            have xx3 : ∀ x : Gw W7, x.w.cell? ⟨w5.heap.size, 3, none⟩ = some (.int .i64 v.c) := fun x => (X7.out.kept x.h (by simp)).c3
            have xx4 : ∀ x : Gw W7, x.w.cell? ⟨w5.heap.size, 4, none⟩ = some (.int .i64 v.k) := fun x => (X7.out.kept x.h (by simp)).c4
            have xx5 : ∀ x : Gw W7, x.w.cell? ⟨w5.heap.size, 5, none⟩ = some (.int .i64 v.sub) := fun x => (X7.out.kept x.h (by simp)).c5
            have xx6 : ∀ x : Gw W7, x.w.cell? ⟨w5.heap.size, 6, none⟩ = some (.int .i64 v.scale) := fun x => (X7.out.kept x.h (by simp)).c6
            have xx7 : ∀ x : Gw W7, x.w.cell? ⟨w5.heap.size, 7, none⟩ = some (.int .i64 v.imm) := fun x => (X7.out.kept x.h (by simp)).c7
            have xx8 : ∀ x : Gw W7, x.w.cell? ⟨w5.heap.size, 8, none⟩ = some (.int .i64 v.label) := fun x => (X7.out.kept x.h (by simp)).c8
            have ne : Nonempty (Gw W7) := ⟨⟨W7, World.grownBy.refl _ _⟩⟩
            have HN : Hid (∀ (x : Gw W7) (y : Int), Calls Tryd.prog 9 #[.int .i64 y] x.w fun e w' => e = .returned (.int .i64 y) ∧ x.w.grownBy w' none) :=
              fun x y => (cnum_any y x.w).mono fun e w' ⟨h1, h2⟩ => ⟨h1, by rw [h2]; exact World.grownBy.refl _ _⟩
            have hEp : ¬ (EL : Int) ≤ 0 := by omega
            have hEq : ((EL : Int) ≤ 0) = False := _root_.eq_false hEp
            have hEd : decide ((EL : Int) ≤ 0) = false := by simpa using hEp
            have HNX : Hid ((Cc.row9 (ws.take (j + 1))).length = P + EL) := hnx
            have HRN : Hid (P + n = RL) := by show P + n = RL; omega
            have HPE : Hid (P + EL ≤ 100000) := by have := Cc.row9_le (show j + 1 ≤ ws.length from hjl); show P + EL ≤ 100000; omega
            clear haw hEL hcut hPL hn hP hG hRL hLi hPc HD2 HF2 hb4 ho4 hnx
            refine region_grown (by kernel_rfl) (by kernel_rfl) ?_
            repeat (go_big_quiet_step ((first
              | (go_at_call 9; exact Gw.call (HN.out _ _)))))
            refine wpQuiet_nil ?_
            rintro _ ⟨x, rfl⟩
            have GX := grown_trans G7 x.h
            clear dd0 xx0 dd1 xx1 dd2 xx2 dd3 xx3 dd4 xx4 dd5 xx5 dd6 xx6 dd7 xx7 dd8 xx8 HN ne
            go_wp2
            have hpe := HPE.out
            have hwr : wrap64 ((P : Int) + EL) = (((Cc.row9 (ws.take (j + 1))).length : Nat) : Int) := by rw [HNX.out]; unfold wrap64; omega
            exact ⟨⟨_, _, _, ⟨j + 1, by go_num, hjl, by rw [hwr], hA2.out.grow GX, hI2.out.grow GX, hbk.grown GX hbk.size (by simp)⟩, rfl, HRN.out, rfl, rfl⟩, by simp [intOf]; omega⟩
          · obtain rfl : j = ws.length := by omega
            have HLL : Hid ((Cc.row9 (ws.take ws.length)).length = (Cc.row9 ws).length) := by rw [List.take_length]; exact rfl
            generalize (Cc.row9 (ws.take ws.length)).length = P at *
            obtain rfl : P = (Cc.row9 ws).length := HLL.out
            go_wp2_with (go_at_call 13; refine (cwakes_any _ HT3.out).mono ?_; rintro e w7 ⟨rfl, hg7⟩)
            go_ret
            exact ⟨rfl, hbk.grown hg7 hbk.size (by simp)⟩
end Go.Proofs.YtbghjlamedlchaaDoor
