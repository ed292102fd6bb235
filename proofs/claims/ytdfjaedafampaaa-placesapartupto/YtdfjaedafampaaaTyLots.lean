/- gantryref7.lots. -/
import Derived.Test.YtdfjaedafampaaaG7
import Derived.Test.YtdfjaedafampaaaG8
namespace Go.Proofs.Ytdfjaedafampaaa
open Go.RowKit
set_option linter.unusedVariables false

namespace Ty
/-- the first seventeen, field by field, word by word -/
def pre (x : TyV) (L : Nat → Li) (V : Nat → List (Int × Int)) (q : Nat) : List (Int × Int) := (cat x L V q).take 17
def prj (x : TyV) (L : Nat → Li) (V : Nat → List (Int × Int)) (q j : Nat) : List (Int × Int) := (cat x L V q ++ sh (bg x L q) (((V (x.F q).toNat).take 17).take j)).take 17
theorem prj_zero (x : TyV) (L : Nat → Li) (V : Nat → List (Int × Int)) (q : Nat) : prj x L V q 0 = pre x L V q := by simp [prj, pre, sh]
theorem prj_len (x : TyV) (L : Nat → Li) (V : Nat → List (Int × Int)) (q j : Nat) : (prj x L V q j).length ≤ 17 := by simp [prj]; omega
theorem prj_succ {x : TyV} {L : Nat → Li} {V : Nat → List (Int × Int)} {q j : Nat} (hj : j < ((V (x.F q).toNat).take 17).length) (hl : (prj x L V q j).length ≤ 16) :
    prj x L V q (j + 1) = prj x L V q j ++ [((((V (x.F q).toNat).take 17).getD j (0, 0)).1, bg x L q + (((V (x.F q).toNat).take 17).getD j (0, 0)).2)] := by
  unfold prj at *
  generalize (V (x.F q).toNat).take 17 = Y at *
  have e1 : (cat x L V q ++ sh (bg x L q) (Y.take j)).take 17 = cat x L V q ++ sh (bg x L q) (Y.take j) := by
    rw [List.length_take] at hl
    exact List.take_of_length_le (by omega)
  rw [e1] at hl ⊢
  have e2 : Y.take (j + 1) = Y.take j ++ [Y.getD j (0, 0)] := by
    rw [List.take_add_one, List.getElem?_eq_getElem hj, List.getD_eq_getElem?_getD, List.getElem?_eq_getElem hj]
    rfl
  rw [e2, sh_app, ← List.append_assoc]
  have e3 : sh (bg x L q) [Y.getD j (0, 0)] = [((Y.getD j (0, 0)).1, bg x L q + (Y.getD j (0, 0)).2)] := rfl
  rw [e3]
  exact List.take_of_length_le (by rw [List.length_append, List.length_singleton]; omega)
theorem prj_end {x : TyV} {L : Nat → Li} {V : Nat → List (Int × Int)} {q j : Nat} (h : ((V (x.F q).toNat).take 17).length ≤ j ∨ 16 < (prj x L V q j).length) : prj x L V q j = pre x L V (q + 1) := by
  unfold prj pre at *
  rw [cat]
  rcases h with h | h
  · rw [List.take_of_length_le h, List.take_append, List.take_append]
    congr 1
    unfold sh
    rw [← List.map_take, ← List.map_take, List.take_take]
    congr 2
    omega
  · have hp : cat x L V q ++ sh (bg x L q) (V (x.F q).toNat) = (cat x L V q ++ sh (bg x L q) (((V (x.F q).toNat).take 17).take j)) ++ sh (bg x L q) ((V (x.F q).toNat).drop (min j 17)) := by
      rw [List.append_assoc, ← sh_app, List.take_take, List.take_append_drop]
    rw [List.length_take] at h
    rw [hp]
    exact (List.take_append_of_le_length (by omega)).symm
end Ty
theorem Ty.Row.mem {s d : Int} {l : List (Int × Int)} (h : Ty.Row s d l) : ∀ p ∈ l, s ≤ p.2 ∧ p.2 ≤ d := by
  induction h with
  | nil h => intro p hp; cases hp
  | @cons s d k o l h1 h2 h3 h4 h ih =>
    have hp1 := (Ty.by_al h1 h2).pos
    have hle := h.le
    intro p hp
    rcases List.mem_cons.1 hp with rfl | hp
    · exact ⟨h3, by show o ≤ d; omega⟩
    · have := ih p hp; omega
theorem OwnZ.notLot {w : World} {base Y : Nat} {v : Value} {l : List Int} {cs : Array Value} (h : OwnZ w base v l) (hY : w.heap[Y]? = some (.cells cs 81 (0, 0))) : v.ownBlock ≠ some Y := by
  intro e
  rcases h.2 with ⟨rfl, _⟩ | ⟨g, c, cur, rfl, _, hg, _⟩
  · cases e
  · simp [Value.ownBlock] at e
    subst e
    rw [hg] at hY
    simp at hY
theorem k1_app (l m : List (Int × Int)) : Ty.k1 (l ++ m) = Ty.k1 l ++ Ty.k1 m := List.map_append
theorem k2_app (l m : List (Int × Int)) : Ty.k2 (l ++ m) = Ty.k2 l ++ Ty.k2 m := List.map_append
theorem atF_k1 {l : List (Int × Int)} {j : Nat} (h : j < l.length) : atF (Ty.k1 l) j = (l.getD j (0, 0)).1 := by simp [atF, Ty.k1, List.getD_eq_getElem?_getD, List.getElem?_eq_getElem h]
theorem atF_k2 {l : List (Int × Int)} {j : Nat} (h : j < l.length) : atF (Ty.k2 l) j = (l.getD j (0, 0)).2 := by simp [atF, Ty.k2, List.getD_eq_getElem?_getD, List.getElem?_eq_getElem h]
/-- the first operations tell vals; then a new row of one number is made -/
def psiT (vals : List Value) (X : Int) (base : Nat) (i : Nat) (v : Value) (w : World) : Prop :=
  if i < vals.length then v = vals.getD i undef else ∃ T, v = .slice (some ⟨T, 0, none⟩) 1 1 ∧ OwnZ w base (.slice (some ⟨T, 0, none⟩) 1 1) [X]
theorem psiT_f {vals : List Value} {X : Int} {base i : Nat} {v : Value} {w : World} (h : psiT vals X base i v w) (hi : i < vals.length) : v = vals.getD i undef := by unfold psiT at h; rwa [if_pos hi] at h
theorem psiT_mk {vals : List Value} {X : Int} {base i : Nat} {v : Value} {w : World} (hi : i < vals.length) (h : v = vals.getD i undef) : psiT vals X base i v w := by unfold psiT; rwa [if_pos hi]
theorem psiT_e {vals : List Value} {X : Int} {base i : Nat} {v : Value} {w : World} (h : psiT vals X base i v w) (hi : vals.length ≤ i) : ∃ T, v = .slice (some ⟨T, 0, none⟩) 1 1 ∧ OwnZ w base (.slice (some ⟨T, 0, none⟩) 1 1) [X] := by unfold psiT at h; rwa [if_neg (by omega)] at h
theorem psiT_new {vals : List Value} {X : Int} {base i : Nat} {w : World} (hi : vals.length ≤ i) (hb : base ≤ w.heap.size) : psiT vals X base i (.slice (some ⟨w.heap.size, 0, none⟩) 1 1) (w.alloc (Obj.cells #[.int .i64 X] 3)) := by
  unfold psiT
  rw [if_neg (by omega)]
  exact ⟨_, rfl, World.ownsRow_lit (base := base) (e := 3) (size := 1) w #[.int .i64 X] 1 hb (by decide) rfl⟩
theorem psiT_stable {vals : List Value} {X : Int} {base i : Nat} {v : Value} {w w' : World} (h : psiT vals X base i v w) (g : w.grownBy w' none) : psiT vals X base i v w' := by
  unfold psiT at h ⊢
  split
  · rename_i h1; rwa [if_pos h1] at h
  · rename_i h1
    rw [if_neg h1] at h
    obtain ⟨T, e, o⟩ := h
    exact ⟨T, e, o.grow g⟩
theorem app_in {v v' : Value} {w w0 : World} {q : Nat} (h : v'.ownBlock = v.ownBlock ∨ v'.ownBlock = some w0.heap.size) (hs : w.heap.size ≤ w0.heap.size) (hv : v'.ownBlock = some q) : v.ownBlock = some q ∨ w.heap.size ≤ q := by
  rcases h with e | e
  · exact .inl (e ▸ hv)
  · rw [e] at hv; injection hv with hv; exact .inr (by omega)
set_option maxRecDepth 100000 in
set_option maxHeartbeats 8000000 in
theorem rlots_any {N : Nat} {w : World} {T : Nat → Ty.TyV} {n m : Nat} {a : Option Addr} {c : Nat} (h : TysIn N w a m c T) (hN : N ≤ w.heap.size) (hm : m ≤ 64) (hF : Ty.Fine T n m)
    (HOff : ∀ i, i < m → ∀ f, f < (T i).nf → ∀ W, w.grownBy W none → Calls Try.prog 47 #[.slice a m c, .int .i64 i, .int .i64 f] W fun e w' => e = .returned (.int .i64 (Ty.bg (T i) (Ty.lie T) f)) ∧ W.grownBy w' none) :
    Calls Try.prog 36 #[.slice a m c] w fun e w' => ∃ v l, e = .returned v ∧ Lts w w' T m v l := by
  have hle := h.le
  have hmx := h.max
  unfold maxLen at hmx
  have hm' : (m : Int) ≤ 64 := by omega
  have HT : Hid (TysIn N w a m c T) := h
  have HF : Hid (Ty.Fine T n m) := hF
  have HO : Hid (∀ i, i < m → ∀ f, f < (T i).nf → ∀ W, w.grownBy W none → Calls Try.prog 47 #[.slice a m c, .int .i64 i, .int .i64 f] W fun e w' => e = .returned (.int .i64 (Ty.bg (T i) (Ty.lie T) f)) ∧ W.grownBy w' none) := HOff
  have HN : Hid (N ≤ w.heap.size) := hN
  clear h hF HOff
  go_enter Try.func36, Try.ntmps36
  go_wp2_with fail
  go_loopw [3, 4] (fun v ix wr => ∃ (k : Nat) (l : List Lt), ix = .int .i64 k ∧ k ≤ m ∧ Lts w wr T k v l) (fun _ ix _ => m - (intOf ix).toNat)
  case atStart => exact ⟨0, [], rfl, Nat.zero_le _, World.ownsRow_nil _ _ _ _, rfl, (fun i hi => by simp at hi), World.grownBy.refl _ _⟩
  case round =>
    obtain ⟨k, l, rfl, hk, hl⟩ := hrel
    obtain ⟨wb, hwb⟩ : ∃ wb, wb = wr := ⟨_, rfl⟩
    rw [← hwb] at hl ⊢
    clear hwb
    have HL : Hid (Lts w wb T k u3 l) := hl
    obtain ⟨la, lc, hu3, hlc, hlm, hrow⟩ := hl.slice
    have hlen := hl.len
    have HRow : Hid (∀ i (hi : i < k), ∃ b, la = some ⟨b, 0, none⟩ ∧ ∀ q, q < 3 → wb.cell? ⟨b, i * 3 + q, none⟩ = (cells3 (l[i]'(by rw [hlen]; exact hi)))[q]?) := hrow
    have hsz := hl.gr.size
    subst hu3
    clear hrow
    by_cases hkm : k < m
    · have hkm' : (k : Int) < m := by omega
      obtain ⟨b, off, fa, fc, rfl, hb, hty⟩ := (HT.out.grow hl.gr).at hkm
      have hok := (HF.out k hkm).1
      have HTy : Hid (TyC N wb b (off + k * 4) (T k) fa fc) := hty
      have HNew : Hid (Lx wb (wb.alloc (.cells #[.slice none 0 0, .slice none 0 0, .bool false] 81)) wb.heap.size (.slice none 0 0) (.slice none 0 0) false [] []) := Lx.new wb
      have hg0 : wb.grownBy (wb.alloc (.cells #[.slice none 0 0, .slice none 0 0, .bool false] 81)) none := World.grownBy_alloc _ _ _
      have t0 := (hty.ch (l := []) (Ch.of hg0) (by simp) (by simp)).c0
      rcases Ty.ok_cases hok with ⟨hk', _⟩ | ⟨hk', i3, i4, h16, hf⟩ | ⟨hk', i3, i4⟩ | ⟨i1, i2, i3, i4⟩
      · have ew : Ty.w17 T k = [] := by unfold Ty.w17; rw [Ty.wk_eq hok]; unfold Ty.wkOf; rw [if_pos hk']; rfl
        have ea : (Ty.lie T k).arr = true := by rw [Ty.lie_eq hok]; unfold Ty.lieOf; rw [if_pos hk']
        rw [hk'] at t0
        have HPu : Hid (∀ w' v', OwnLt w' w.heap.size v' (l ++ [⟨none, 0, 0, none, 0, true⟩]) → ((wb.alloc (.cells #[.slice none 0 0, .slice none 0 0, .bool true] 81))).grownBy w' (Value.slice la k lc).ownBlock → Lts w w' T (k + 1) v' (l ++ [⟨none, 0, 0, none, 0, true⟩])) := fun w' v' ho hg => by
          have hX : Lx wb (wb.alloc (.cells #[.slice none 0 0, .slice none 0 0, .bool true] 81)) wb.heap.size (.slice none 0 0) (.slice none 0 0) true [] [] := ⟨heap_alloc_new wb _, ownZ_nil _ _, ownZ_nil _ _, (fun q h => by cases h), World.grownBy_alloc _ _ _, Nat.le_refl _⟩
          exact HL.out.push hX (by rw [ew]; rfl) (by rw [ew]; rfl) ea.symm rfl rfl rfl ho hg
        clear hl hty hok hg0 ew ea HNew
        go_wp2_with (at_builtin; refine wp_appL rfl _ _ rfl w.heap.size (.slice la k lc) l ⟨none, 0, 0, none, 0, true⟩ rfl (HL.out.own.grow (World.grownBy_alloc _ _ _)) rfl (by simp) (by omega) (by simp; omega) ?_; intro v6 w6 ho6 hg6)
        go_roundw
        case rel => exact ⟨k + 1, _, by go_num, by omega, HPu.out _ _ ho6 hg6⟩
        case measure => simp [intOf]; omega
      · have HEw : Hid (Ty.k1 (Ty.pre (T k) (Ty.lie T) (Ty.wk T) (T k).nf) = Ty.k1 (Ty.w17 T k) ∧ Ty.k2 (Ty.pre (T k) (Ty.lie T) (Ty.wk T) (T k).nf) = Ty.k2 (Ty.w17 T k) ∧ Ty.ar (T k) (Ty.lie T) (T k).nf = (Ty.lie T k).arr) := by
          have e1 : Ty.w17 T k = Ty.pre (T k) (Ty.lie T) (Ty.wk T) (T k).nf := by unfold Ty.w17 Ty.pre; rw [Ty.wk_eq hok]; unfold Ty.wkOf; rw [if_neg (by omega), if_pos hk']
          have e2 : (Ty.lie T k).arr = Ty.ar (T k) (Ty.lie T) (T k).nf := by rw [Ty.lie_eq hok]; unfold Ty.lieOf; rw [if_neg (by omega), if_pos hk']
          rw [e1, e2]
          exact ⟨rfl, rfl, rfl⟩
        rw [hk'] at t0
        have HOk : Hid (∀ f, f < (T k).nf → ∀ W, w.grownBy W none → Calls Try.prog 47 #[.slice (some ⟨b, off, none⟩) m c, .int .i64 k, .int .i64 f] W fun e w' => e = .returned (.int .i64 (Ty.bg (T k) (Ty.lie T) f)) ∧ W.grownBy w' none) := HO.out k hkm
        have HFi : Hid (∀ q, q < (T k).nf → 0 ≤ (T k).F q ∧ (T k).F q < k) := hf
        have HBg : Hid (∀ q, q < (T k).nf → 0 ≤ Ty.bg (T k) (Ty.lie T) q ∧ Ty.bg (T k) (Ty.lie T) q ≤ 65536) := fun q hq => by
          have hFk := HF.out.mono (Nat.le_of_lt hkm)
          have h1 := Ty.bg_in hFk hok hk' hq
          have h2 := HF.out.good k hkm
          have h3 := (hFk.good ((T k).F q).toNat (by have := hf q hq; omega)).1
          have h4 := h3.w0
          have h5 := h3.ws
          have h6 : (Ty.fl (T k) (Ty.lie T) q).size = (Ty.lie T ((T k).F q).toNat).size := rfl
          omega
        have HEn : Hid (∀ j (hj : j < k), LtOk wb (l[j]'(by rw [hlen]; exact hj)) (Ty.w17 T j) (Ty.lie T j).arr) := fun j hj => hl.ent j (by rw [hlen]; exact hj)
        have HYo : Hid (∀ j, j < k → ∀ p ∈ Ty.w17 T j, 0 ≤ p.2 ∧ p.2 ≤ 65536) := fun j hj p hp => by
          have h1 := (Ty.wk_row (HF.out.mono (show j + 1 ≤ m by omega))).1.mem p (List.mem_of_mem_take hp)
          have h2 := (HF.out.good j (by omega)).2
          omega
        have hfl := hty.f.le
        have hfm := hty.f.max
        unfold maxLen at hfm
        have HG0 : Hid (wb.grownBy (wb.alloc (.cells #[.slice none 0 0, .slice none 0 0, .bool false] 81)) none) := hg0
        obtain ⟨B, hB⟩ : ∃ B, B = wb.heap.size := ⟨_, rfl⟩
        have HB : Hid (B = wb.heap.size) := hB
        clear hl hty hok hf i3 i4 hk' hg0 hB
        generalize T k = x at *
        go_wp2_with fail
        rw [← HB.out] at HNew ⊢
        go_loopw [6] (fun ix wr => ∃ (q : Nat) (vK vO : Value), ix = .int .i64 q ∧ q ≤ x.nf ∧ Lx wb wr B vK vO (Ty.ar x (Ty.lie T) q) (Ty.k1 (Ty.pre x (Ty.lie T) (Ty.wk T) q)) (Ty.k2 (Ty.pre x (Ty.lie T) (Ty.wk T) q))) (fun ix _ => x.nf - (intOf ix).toNat)
        case atStart => exact ⟨0, _, _, rfl, Nat.zero_le _, HNew.out⟩
        case round =>
          obtain ⟨q, vK, vO, rfl, hq, hX⟩ := hrel
          obtain ⟨wm, hwm⟩ : ∃ wm, wm = wr := ⟨_, rfl⟩
          rw [← hwm] at hX ⊢
          clear hwm
          have HX : Hid (Lx wb wm B vK vO (Ty.ar x (Ty.lie T) q) (Ty.k1 (Ty.pre x (Ty.lie T) (Ty.wk T) q)) (Ty.k2 (Ty.pre x (Ty.lie T) (Ty.wk T) q))) := hX
          have c3 := (HTy.out.ch (l := []) (Ch.of hX.gr) (by simp) (by simp)).c3
          by_cases hqn : q < x.nf
          · have hqn' : (q : Int) < x.nf := by omega
            obtain ⟨fb, fo, rfl, hcf⟩ := (HTy.out.ch (l := []) (Ch.of hX.gr) (by simp) (by simp)).f.val hqn
            obtain ⟨j0, j1⟩ := HFi.out q hqn
            obtain ⟨j, hj⟩ : ∃ j : Nat, x.F q = j := ⟨(x.F q).toNat, by omega⟩
            have hjk : j < k := by omega
            have hjk' : (j : Int) < k := by omega
            obtain ⟨rb, hla, hcell⟩ := HRow.out j hjk
            subst hla
            have HE := HEn.out j hjk
            obtain ⟨e, he⟩ : ∃ e, e = l[j]'(by rw [hlen]; exact hjk) := ⟨_, rfl⟩
            rw [← he] at HE hcell
            have HEj : Hid (LtOk wb e (Ty.w17 T j) (Ty.lie T j).arr) := HE
            have r0 : wm.cell? ⟨rb, j * 3, none⟩ = some (.slice e.ka e.n e.kc) := (Ch.of (l := []) hX.gr).cell (hcell 0 (by decide)) (by simp)
            have r1 := (Ch.of (l := []) hX.gr).cell (hcell 1 (by decide)) (by simp)
            have r2 := (Ch.of (l := []) hX.gr).cell (hcell 2 (by decide)) (by simp)
            rw [hj] at hcf
            have HEq : Hid (x.F q = j) := hj
            have hszm := hX.gr.size
            clear hX he HE hcell hj
            have HOq : Hid (∀ W, w.grownBy W none → Calls Try.prog 47 #[.slice (some ⟨b, off, none⟩) m c, .int .i64 k, .int .i64 q] W fun e w' => e = .returned (.int .i64 (Ty.bg x (Ty.lie T) q)) ∧ W.grownBy w' none) := HOk.out q hqn
            have hbg := HBg.out q hqn
            obtain ⟨ea, hea⟩ : ∃ ea, ea = e.arr := ⟨_, rfl⟩
            obtain ⟨aq, haq⟩ : ∃ aq, aq = Ty.ar x (Ty.lie T) q := ⟨_, rfl⟩
            obtain ⟨nb, hnb0⟩ : ∃ nb, nb = Ty.ar x (Ty.lie T) (q + 1) := ⟨_, rfl⟩
            have HNB : Hid (nb = Ty.ar x (Ty.lie T) (q + 1)) := hnb0
            have HA1 : Hid (nb = (aq || ea)) := by
              show _ = _
              rw [hnb0, Ty.ar, ← haq, hea, HEj.out.arr]
              unfold Ty.fl
              rw [HEq.out]
              rfl
            rw [← haq] at HX
            have HYB : Hid ((wm.alloc (.cells #[.slice e.ka e.n e.kc, .slice e.oa e.n e.oc, .bool ea] 81)).heap[wm.heap.size]? = some (.cells #[.slice e.ka e.n e.kc, .slice e.oa e.n e.oc, .bool ea] 81 (0, 0))) := heap_alloc_new wm _
            have hyg : wm.grownBy (wm.alloc (.cells #[.slice e.ka e.n e.kc, .slice e.oa e.n e.oc, .bool ea] 81)) none := World.grownBy_alloc _ _ _
            have HYg : Hid (wm.grownBy (wm.alloc (.cells #[.slice e.ka e.n e.kc, .slice e.oa e.n e.oc, .bool ea] 81)) none) := hyg
            have HYX : Hid (w.grownBy (wm.alloc (.cells #[.slice e.ka e.n e.kc, .slice e.oa e.n e.oc, .bool ea] 81)) none) := grown_trans HL.out.gr (grown_trans HX.out.gr hyg)
            rw [← hea] at r2
            clear hyg haq hea hnb0
            obtain ⟨G, hG⟩ : ∃ G, G = Ty.bg x (Ty.lie T) q := ⟨_, rfl⟩
            rw [← hG] at HOq hbg
            have HGe : Hid (G = Ty.bg x (Ty.lie T) q) := hG
            clear hG
            cases aq
            all_goals (
              go_wp2_with (go_at_call 47; refine (HOq.out _ HYX.out).mono ?_; rintro e3 w3 ⟨rfl, hg3⟩; have hg3' := grown_trans HYg.out hg3; have HG3 : Hid (wm.grownBy w3 none) := hg3'; have HX3 := HX.out.grow hg3'; have HYB3 : w3.heap[wm.heap.size]? = some (.cells #[.slice e.ka e.n e.kc, .slice e.oa e.n e.oc, .bool ea] 81 (0, 0)) := (hg3.block wm.heap.size (by simp) (by simp)).trans HYB.out; have s2 := HX3.c2; have sz2 := HX3.fz 2; have y2 : w3.cell? ⟨wm.heap.size, 2, none⟩ = some (.bool ea) := (by simp [World.cell?, HYB3]); clear hg3)
              obtain ⟨Y, hY⟩ : ∃ Y, Y = wm.heap.size := ⟨_, rfl⟩
              have hBY : ¬ B = Y := by have := HX.out.lt; omega
              rw [← hY] at HYB3 ⊢
              clear hY
              have HX4 : Hid (Lx wb (w3.setCell ⟨B, 2, none⟩ (.bool nb)) B vK vO nb (Ty.k1 (Ty.prj x (Ty.lie T) (Ty.wk T) q 0)) (Ty.k2 (Ty.prj x (Ty.lie T) (Ty.wk T) q 0))) := by rw [Ty.prj_zero]; exact HX3.putA nb
              have HYB4 : Hid ((w3.setCell ⟨B, 2, none⟩ (.bool nb)).heap[Y]? = some (.cells #[.slice e.ka e.n e.kc, .slice e.oa e.n e.oc, .bool ea] 81 (0, 0))) := ((Ch.one (l := [B]) (grown_set w3 B 2 (.bool nb)) (by simp)).block Y (Array.getElem?_eq_some_iff.1 HYB3).1 (by simp; omega)).trans HYB3
              have hnb := HA1.out
              simp only [Bool.false_or, Bool.true_or] at hnb
              clear HX3 HYB3 s2 sz2 y2 r0 r1 r2 hcf c3 hg3'
              obtain ⟨eb, heb⟩ : ∃ eb, eb = ea := ⟨_, rfl⟩
              rw [← heb] at HYB4
              clear heb HA1
              subst hnb
              go_loopw [9] (fun ix wr => ∃ (j9 : Nat) (vK1 vO1 : Value), ix = .int .i64 j9 ∧ j9 ≤ e.n ∧ Lx wb wr B vK1 vO1 (Ty.ar x (Ty.lie T) (q + 1)) (Ty.k1 (Ty.prj x (Ty.lie T) (Ty.wk T) q j9)) (Ty.k2 (Ty.prj x (Ty.lie T) (Ty.wk T) q j9)) ∧ wr.heap[Y]? = some (.cells #[.slice e.ka e.n e.kc, .slice e.oa e.n e.oc, .bool eb] 81 (0, 0))) (fun ix _ => e.n - (intOf ix).toNat)
              case atStart => exact ⟨0, vK, vO, rfl, Nat.zero_le _, by rw [← HNB.out]; exact HX4.out, HYB4.out⟩
              case round =>
                obtain ⟨j9, vK1, vO1, rfl, hj9, hX9, hY9⟩ := hrel
                have hpl := Ty.prj_len x (Ty.lie T) (Ty.wk T) q j9
                obtain ⟨P, hP⟩ : ∃ P, P = (Ty.prj x (Ty.lie T) (Ty.wk T) q j9).length := ⟨_, rfl⟩
                have lk1 : (Ty.k1 (Ty.prj x (Ty.lie T) (Ty.wk T) q j9)).length = P := by rw [hP, Ty.k1, List.length_map]
                have lk2 : (Ty.k2 (Ty.prj x (Ty.lie T) (Ty.wk T) q j9)).length = P := by rw [hP, Ty.k2, List.length_map]
                obtain ⟨ak, ck, hvk, _, hckm, _⟩ := hX9.oK.slice
                obtain ⟨ao, co, hvo, _, hcom, _⟩ := hX9.oO.slice
                rw [lk1] at hvk
                rw [lk2] at hvo
                subst hvk hvo
                have HX9 : Hid (Lx wb wr B (.slice ak P ck) (.slice ao P co) (Ty.ar x (Ty.lie T) (q + 1)) (Ty.k1 (Ty.prj x (Ty.lie T) (Ty.wk T) q j9)) (Ty.k2 (Ty.prj x (Ty.lie T) (Ty.wk T) q j9))) := hX9
                have HY9 : Hid (wr.heap[Y]? = some (.cells #[.slice e.ka e.n e.kc, .slice e.oa e.n e.oc, .bool eb] 81 (0, 0))) := hY9
                have y0 : wr.cell? ⟨Y, 0, none⟩ = some (.slice e.ka e.n e.kc) := by simp [World.cell?, hY9]
                have b0 := hX9.c0
                have hen : e.n = (Ty.w17 T j).length := HEj.out.n
                have hw17 : Ty.w17 T j = (Ty.wk T (x.F q).toNat).take 17 := by unfold Ty.w17; rw [HEq.out]; rfl
                rw [← hP] at hpl
                have HP : Hid (P = (Ty.prj x (Ty.lie T) (Ty.wk T) q j9).length) := hP
                have HE17 : Hid (e.n = (Ty.w17 T j).length ∧ Ty.w17 T j = (Ty.wk T (x.F q).toNat).take 17) := ⟨hen, hw17⟩
                have hnm := (HEj.out.grow hX9.gr).k.max
                have hnl := (HEj.out.grow hX9.gr).k.le
                unfold maxLen at hnm hckm hcom
                clear hX9 hY9 hP hen hw17
                by_cases hcont : j9 < e.n ∧ P ≤ 16
                · obtain ⟨hjn, hP16⟩ := hcont
                  have hjn' : (j9 : Int) < e.n := by omega
                  have hP16' : (P : Int) ≤ 16 := by omega
                  have hjl : j9 < (Ty.w17 T j).length := by rw [← HE17.out.1]; exact hjn
                  have hsucc := Ty.prj_succ (x := x) (L := Ty.lie T) (V := Ty.wk T) (q := q) (j := j9) (by rw [← HE17.out.2]; exact hjl) (by rw [← HP.out]; exact hP16)
                  rw [← HE17.out.2, ← HGe.out] at hsucc
                  have hpm : (Ty.w17 T j).getD j9 (0, 0) ∈ Ty.w17 T j := by rw [List.getD_eq_getElem?_getD, List.getElem?_eq_getElem hjl]; exact List.getElem_mem hjl
                  have hpb := HYo.out j hjk _ hpm
                  obtain ⟨kb, ko, hka, hkc⟩ := (HEj.out.grow HX9.out.gr).k.val hjn
                  obtain ⟨ob, oo, hoa, hoc⟩ := (HEj.out.grow HX9.out.gr).o.val hjn
                  rw [atF_k1 hjl] at hkc
                  rw [atF_k2 hjl] at hoc
                  have hob := (HEj.out.bo ob oo hoa).lt
                  generalize (Ty.w17 T j).getD j9 (0, 0) = pp at *
                  obtain ⟨p1, p2⟩ := pp
                  simp only at hkc hoc hpb hsucc
                  have HS1 : Hid (Ty.k1 (Ty.prj x (Ty.lie T) (Ty.wk T) q (j9 + 1)) = Ty.k1 (Ty.prj x (Ty.lie T) (Ty.wk T) q j9) ++ [p1] ∧ Ty.k2 (Ty.prj x (Ty.lie T) (Ty.wk T) q (j9 + 1)) = Ty.k2 (Ty.prj x (Ty.lie T) (Ty.wk T) q j9) ++ [G + p2]) := by rw [hsucc, k1_app, k2_app]; exact ⟨rfl, rfl⟩
                  have HOc : Hid (wr.cell? ⟨ob, oo + j9, none⟩ = some (.int .i64 p2)) := hoc
                  have hBB := HB.out
                  have HoK : Hid (OwnZ wr (B + 1) (.slice ak P ck) (Ty.k1 (Ty.prj x (Ty.lie T) (Ty.wk T) q j9))) := HX9.out.oK
                  have hl1 : (Ty.k1 (Ty.prj x (Ty.lie T) (Ty.wk T) q j9)).length ≤ 2000000 := by omega
                  have hl2 : (Ty.k2 (Ty.prj x (Ty.lie T) (Ty.wk T) q j9)).length ≤ 2000000 := by omega
                  have hlt9 := HX9.out.lt
                  have HYn : Hid (wr.heap[Y]? = some (.cells #[.slice e.ka e.n e.kc, .slice e.oa e.n e.oc, .bool eb] 81 (0, 0))) := HY9.out
                  rw [hka] at y0
                  have HOa : Hid (e.oa = some ⟨ob, oo, none⟩) := hoa
                  clear hka hoa
                  have y0' : wr.drew.cell? ⟨Y, 0, none⟩ = some (.slice (some ⟨kb, ko, none⟩) e.n e.kc) := y0
                  have b0' : wr.drew.cell? ⟨B, 0, none⟩ = some (.slice ak P ck) := b0
                  have k0' : wr.drew.cell? ⟨kb, ko + j9, none⟩ = some (.int .i64 p1) := hkc
                  have HBn : Hid (B = wb.heap.size) := hBB
                  clear hsucc hpm hjl hoc hBB
                  go_wp2_with fail
                  refine region_src 8 (psiT [.pointer (some ⟨B, 0, none⟩), .slice ak P ck, .pointer (some ⟨Y, 0, none⟩), .slice (some ⟨kb, ko, none⟩) e.n e.kc, .int .i64 (j9 : Int), .pointer (some ⟨kb, ko + j9, none⟩), .int .i64 p1] p1 wr.heap.size) (by kernel_rfl) (by kernel_rfl) (by kernel_rfl) (by kernel_rfl) (fun i x w0 w1 hi h g => psiT_stable h g) ?_ ?_
                  · simp only [List.take_succ_cons, List.take_zero]
                    refine ⟨?_, ?_, ?_, ?_, ?_, ?_, ?_, ?_, trivial⟩
                    · intro VV W0 AA g hV hs hz
                      have e05 := hz 5 (.pointer (some ⟨B, 0, none⟩)) (by kernel_rfl) rfl
                      clear hV hs hz
                      refine outO_val (v := .pointer (some ⟨B, 0, none⟩)) (w' := W0) ?_ (World.grownBy.refl _ _) (psiT_mk (by simp) rfl)
                      simp [go_sem, e05]
                    · intro VV W0 AA g hV hs hz
                      have gD : wr.grownBy W0 none := grown_trans (grown_drew (World.grownBy.refl _ none)) g
                      have q0 : VV 0 = .pointer (some ⟨B, 0, none⟩) := psiT_f (hV 0 (by kernel_rfl)) (by simp)
                      have e0 := hs 100 0 (by kernel_rfl) (by kernel_rfl)
                      have x0 := gD.cell b0 (by simp)
                      clear hV hs hz
                      refine outO_val (v := .slice ak P ck) (w' := W0) ?_ (World.grownBy.refl _ _) (psiT_mk (by simp) rfl)
                      simp [go_sem, q0, e0, x0]
                    · intro VV W0 AA g hV hs hz
                      have e07 := hz 7 (.pointer (some ⟨Y, 0, none⟩)) (by kernel_rfl) rfl
                      clear hV hs hz
                      refine outO_val (v := .pointer (some ⟨Y, 0, none⟩)) (w' := W0) ?_ (World.grownBy.refl _ _) (psiT_mk (by simp) rfl)
                      simp [go_sem, e07]
                    · intro VV W0 AA g hV hs hz
                      have gD : wr.grownBy W0 none := grown_trans (grown_drew (World.grownBy.refl _ none)) g
                      have q2 : VV 2 = .pointer (some ⟨Y, 0, none⟩) := psiT_f (hV 2 (by kernel_rfl)) (by simp)
                      have e2 := hs 102 2 (by kernel_rfl) (by kernel_rfl)
                      have x0 := gD.cell y0 (by simp)
                      clear hV hs hz
                      refine outO_val (v := .slice (some ⟨kb, ko, none⟩) e.n e.kc) (w' := W0) ?_ (World.grownBy.refl _ _) (psiT_mk (by simp) rfl)
                      simp [go_sem, q2, e2, x0]
                    · intro VV W0 AA g hV hs hz
                      have e09 := hz 9 (.int .i64 (j9 : Int)) (by kernel_rfl) rfl
                      clear hV hs hz
                      refine outO_val (v := .int .i64 (j9 : Int)) (w' := W0) ?_ (World.grownBy.refl _ _) (psiT_mk (by simp) rfl)
                      simp [go_sem, e09]
                    · intro VV W0 AA g hV hs hz
                      have q3 : VV 3 = .slice (some ⟨kb, ko, none⟩) e.n e.kc := psiT_f (hV 3 (by kernel_rfl)) (by simp)
                      have e3 := hs 103 3 (by kernel_rfl) (by kernel_rfl)
                      have q4 : VV 4 = .int .i64 (j9 : Int) := psiT_f (hV 4 (by kernel_rfl)) (by simp)
                      have e4 := hs 104 4 (by kernel_rfl) (by kernel_rfl)
                      clear hV hs hz
                      refine outO_val (v := .pointer (some ⟨kb, ko + j9, none⟩)) (w' := W0) ?_ (World.grownBy.refl _ _) (psiT_mk (by simp) rfl)
                      simp [go_sem, q3, e3, q4, e4, hjn']
                    · intro VV W0 AA g hV hs hz
                      have gD : wr.grownBy W0 none := grown_trans (grown_drew (World.grownBy.refl _ none)) g
                      have q5 : VV 5 = .pointer (some ⟨kb, ko + j9, none⟩) := psiT_f (hV 5 (by kernel_rfl)) (by simp)
                      have e5 := hs 105 5 (by kernel_rfl) (by kernel_rfl)
                      have x0 := gD.cell hkc (by simp)
                      clear hV hs hz
                      refine outO_val (v := .int .i64 p1) (w' := W0) ?_ (World.grownBy.refl _ _) (psiT_mk (by simp) rfl)
                      simp [go_sem, q5, e5, x0]
                    · intro VV W0 AA g hV hs hz
                      have q6 : VV 6 = .int .i64 p1 := psiT_f (hV 6 (by kernel_rfl)) (by simp)
                      have e6 := hs 106 6 (by kernel_rfl) (by kernel_rfl)
                      clear hV hs hz
                      refine outO_val (v := .slice (some ⟨W0.heap.size, 0, none⟩) 1 1) (w' := W0.alloc (Obj.cells #[.int .i64 (p1)] 3)) ?_ (World.grownBy_alloc _ _ _) (psiT_new (by simp) (by have := g.size; exact this))
                      simp [go_sem, q6, e6]
                  · intro VV W0 g hV
                    have gD : wr.grownBy W0 none := grown_trans (grown_drew (World.grownBy.refl _ none)) g
                    have h0 : VV 0 = .pointer (some ⟨B, 0, none⟩) := psiT_f (hV 0 (by decide)) (by simp)
                    have h1 : VV 1 = .slice ak P ck := psiT_f (hV 1 (by decide)) (by simp)
                    have h2 : VV 2 = .pointer (some ⟨Y, 0, none⟩) := psiT_f (hV 2 (by decide)) (by simp)
                    have h3 : VV 3 = .slice (some ⟨kb, ko, none⟩) e.n e.kc := psiT_f (hV 3 (by decide)) (by simp)
                    have h4 : VV 4 = .int .i64 (j9 : Int) := psiT_f (hV 4 (by decide)) (by simp)
                    have h5 : VV 5 = .pointer (some ⟨kb, ko + j9, none⟩) := psiT_f (hV 5 (by decide)) (by simp)
                    have h6 : VV 6 = .int .i64 p1 := psiT_f (hV 6 (by decide)) (by simp)
                    obtain ⟨T1, h7, o1⟩ := psiT_e (hV 7 (by decide)) (by simp)
                    simp [frV, dstOf, Act.put, h0, h1, h2, h3, h4, h5, h6, h7]
                    clear h0 h1 h2 h3 h4 h5 h6 h7 hV g
                    have HgD : Hid (wr.grownBy W0 none) := gD
                    have hgs := gD.size
                    have HoK0 : Hid (OwnZ W0 (B + 1) (.slice ak P ck) (Ty.k1 (Ty.prj x (Ty.lie T) (Ty.wk T) q j9))) := HoK.out.grow gD
                    have HO1 : Hid (OwnZ W0 wr.heap.size (.slice (some ⟨T1, 0, none⟩) 1 1) [p1]) := o1
                    clear gD o1
                    go_wp2_with (at_builtin; refine wp_appZx rfl _ _ rfl (B + 1) (.slice ak P ck) (Ty.k1 (Ty.prj x (Ty.lie T) (Ty.wk T) q j9)) [p1] T1 1 wr.heap.size rfl HoK0.out rfl HO1.out (by simp) hl1 (by simp) (by omega) ?_; intro v4 w4 ho4 hg4' hq4'; have hg4 : wr.grownBy w4 (Value.slice ak P ck).ownBlock := grown_trans (grown_noneR _ HgD.out) hg4'; have hq4 : ∀ q, v4.ownBlock = some q → (Value.slice ak P ck).ownBlock = some q ∨ wr.heap.size ≤ q := (fun q hv => app_in hq4' hgs hv); have hbl4 := HX9.out.midK hg4; obtain ⟨hX5, hC5⟩ := HX9.out.putK ho4 hg4 hq4; obtain ⟨a4, c4, hv4, _⟩ := ho4.slice; rw [List.length_append, lk1, List.length_singleton] at hv4; subst hv4; have m0 : w4.cell? ⟨B, 0, none⟩ = some (.slice ak P ck) := (by simp [World.cell?, hbl4]); have z0 : w4.frozen? ⟨B, 0, none⟩ = false := (by simp [World.frozen?, hbl4]); clear hg4' hq4')
                    obtain ⟨W5, hW5⟩ : ∃ W5, W5 = w4.setCell ⟨B, 0, none⟩ (.slice a4 (P + 1) c4) := ⟨_, rfl⟩
                    rw [← hW5] at hX5 hC5 ⊢
                    clear hW5 m0 z0 hbl4 ho4 hg4 hq4 y0 y0' b0 b0' hkc k0' hgs
                    have hYo : Y ∉ B :: (Value.slice ak P ck).ownBlock.toList := by
                      have := HoK.out.notLot HYn.out
                      simp
                      exact ⟨fun e => hBY e.symm, this⟩
                    have hY5 := (hC5.block Y (Array.getElem?_eq_some_iff.1 HYn.out).1 hYo).trans HYn.out
                    have HY5 : Hid (W5.heap[Y]? = some (.cells #[.slice e.ka e.n e.kc, .slice e.oa e.n e.oc, .bool eb] 81 (0, 0))) := hY5
                    have HX5 : Hid (Lx wb W5 B (.slice a4 (P + 1) c4) (.slice ao P co) (Ty.ar x (Ty.lie T) (q + 1)) (Ty.k1 (Ty.prj x (Ty.lie T) (Ty.wk T) q j9) ++ [p1]) (Ty.k2 (Ty.prj x (Ty.lie T) (Ty.wk T) q j9))) := hX5
                    have hoc5 : W5.cell? ⟨ob, oo + j9, none⟩ = some (.int .i64 p2) := hC5.cell HOc.out (fun hm => by
                      simp at hm
                      have h1 := HBn.out
                      rcases hm with e1 | e1
                      · omega
                      · have := HoK.out.base ob e1; omega)
                    have y1 : W5.cell? ⟨Y, 1, none⟩ = some (.slice e.oa e.n e.oc) := by simp [World.cell?, hY5]
                    rw [HOa.out] at y1
                    have b1 := hX5.c1
                    have HoO : Hid (OwnZ W5 (B + 1) (.slice ao P co) (Ty.k2 (Ty.prj x (Ty.lie T) (Ty.wk T) q j9))) := hX5.oO
                    have hlt5 := hX5.lt
                    have hwr : IntKind.i64.wrap (G + p2) = G + p2 := by rw [IntKind.wrap_i64]; omega
                    clear hX5 hY5 hYo hC5
                    go_wp2_with fail
                    refine region_src 10 (psiT [.pointer (some ⟨B, 1, none⟩), .slice ao P co, .int .i64 G, .pointer (some ⟨Y, 1, none⟩), .slice (some ⟨ob, oo, none⟩) e.n e.oc, .int .i64 (j9 : Int), .pointer (some ⟨ob, oo + j9, none⟩), .int .i64 p2, .int .i64 (G + p2)] (G + p2) W5.heap.size) (by kernel_rfl) (by kernel_rfl) (by kernel_rfl) (by kernel_rfl) (fun i x w0 w1 hi h g => psiT_stable h g) ?_ ?_
                    · simp only [List.take_succ_cons, List.take_zero]
                      refine ⟨?_, ?_, ?_, ?_, ?_, ?_, ?_, ?_, ?_, ?_, trivial⟩
                      · intro VV W0 AA g hV hs hz
                        have e05 := hz 5 (.pointer (some ⟨B, 0, none⟩)) (by kernel_rfl) rfl
                        clear hV hs hz
                        refine outO_val (v := .pointer (some ⟨B, 1, none⟩)) (w' := W0) ?_ (World.grownBy.refl _ _) (psiT_mk (by simp) rfl)
                        simp [go_sem, e05]
                      · intro VV W0 AA g hV hs hz
                        have gD : W5.grownBy W0 none := grown_trans (grown_drew (World.grownBy.refl _ none)) g
                        have q0 : VV 0 = .pointer (some ⟨B, 1, none⟩) := psiT_f (hV 0 (by kernel_rfl)) (by simp)
                        have e0 := hs 110 0 (by kernel_rfl) (by kernel_rfl)
                        have x0 := gD.cell b1 (by simp)
                        clear hV hs hz
                        refine outO_val (v := .slice ao P co) (w' := W0) ?_ (World.grownBy.refl _ _) (psiT_mk (by simp) rfl)
                        simp [go_sem, q0, e0, x0]
                      · intro VV W0 AA g hV hs hz
                        have e08 := hz 8 (.int .i64 G) (by kernel_rfl) rfl
                        clear hV hs hz
                        refine outO_val (v := .int .i64 G) (w' := W0) ?_ (World.grownBy.refl _ _) (psiT_mk (by simp) rfl)
                        simp [go_sem, e08]
                      · intro VV W0 AA g hV hs hz
                        have e07 := hz 7 (.pointer (some ⟨Y, 0, none⟩)) (by kernel_rfl) rfl
                        clear hV hs hz
                        refine outO_val (v := .pointer (some ⟨Y, 1, none⟩)) (w' := W0) ?_ (World.grownBy.refl _ _) (psiT_mk (by simp) rfl)
                        simp [go_sem, e07]
                      · intro VV W0 AA g hV hs hz
                        have gD : W5.grownBy W0 none := grown_trans (grown_drew (World.grownBy.refl _ none)) g
                        have q3 : VV 3 = .pointer (some ⟨Y, 1, none⟩) := psiT_f (hV 3 (by kernel_rfl)) (by simp)
                        have e3 := hs 113 3 (by kernel_rfl) (by kernel_rfl)
                        have x0 := gD.cell y1 (by simp)
                        clear hV hs hz
                        refine outO_val (v := .slice (some ⟨ob, oo, none⟩) e.n e.oc) (w' := W0) ?_ (World.grownBy.refl _ _) (psiT_mk (by simp) rfl)
                        simp [go_sem, q3, e3, x0]
                      · intro VV W0 AA g hV hs hz
                        have e09 := hz 9 (.int .i64 (j9 : Int)) (by kernel_rfl) rfl
                        clear hV hs hz
                        refine outO_val (v := .int .i64 (j9 : Int)) (w' := W0) ?_ (World.grownBy.refl _ _) (psiT_mk (by simp) rfl)
                        simp [go_sem, e09]
                      · intro VV W0 AA g hV hs hz
                        have q4 : VV 4 = .slice (some ⟨ob, oo, none⟩) e.n e.oc := psiT_f (hV 4 (by kernel_rfl)) (by simp)
                        have e4 := hs 114 4 (by kernel_rfl) (by kernel_rfl)
                        have q5 : VV 5 = .int .i64 (j9 : Int) := psiT_f (hV 5 (by kernel_rfl)) (by simp)
                        have e5 := hs 115 5 (by kernel_rfl) (by kernel_rfl)
                        clear hV hs hz
                        refine outO_val (v := .pointer (some ⟨ob, oo + j9, none⟩)) (w' := W0) ?_ (World.grownBy.refl _ _) (psiT_mk (by simp) rfl)
                        simp [go_sem, q4, e4, q5, e5, hjn']
                      · intro VV W0 AA g hV hs hz
                        have gD : W5.grownBy W0 none := grown_trans (grown_drew (World.grownBy.refl _ none)) g
                        have q6 : VV 6 = .pointer (some ⟨ob, oo + j9, none⟩) := psiT_f (hV 6 (by kernel_rfl)) (by simp)
                        have e6 := hs 116 6 (by kernel_rfl) (by kernel_rfl)
                        have x0 := gD.cell hoc5 (by simp)
                        clear hV hs hz
                        refine outO_val (v := .int .i64 p2) (w' := W0) ?_ (World.grownBy.refl _ _) (psiT_mk (by simp) rfl)
                        simp [go_sem, q6, e6, x0]
                      · intro VV W0 AA g hV hs hz
                        have q2 : VV 2 = .int .i64 G := psiT_f (hV 2 (by kernel_rfl)) (by simp)
                        have e2 := hs 112 2 (by kernel_rfl) (by kernel_rfl)
                        have q7 : VV 7 = .int .i64 p2 := psiT_f (hV 7 (by kernel_rfl)) (by simp)
                        have e7 := hs 117 7 (by kernel_rfl) (by kernel_rfl)
                        clear hV hs hz
                        refine outO_val (v := .int .i64 (G + p2)) (w' := W0) ?_ (World.grownBy.refl _ _) (psiT_mk (by simp) rfl)
                        simp [go_sem, q2, e2, q7, e7, hwr]
                      · intro VV W0 AA g hV hs hz
                        have q8 : VV 8 = .int .i64 (G + p2) := psiT_f (hV 8 (by kernel_rfl)) (by simp)
                        have e8 := hs 118 8 (by kernel_rfl) (by kernel_rfl)
                        clear hV hs hz
                        refine outO_val (v := .slice (some ⟨W0.heap.size, 0, none⟩) 1 1) (w' := W0.alloc (Obj.cells #[.int .i64 ((G + p2))] 3)) ?_ (World.grownBy_alloc _ _ _) (psiT_new (by simp) (by have := g.size; exact this))
                        simp [go_sem, q8, e8]
                    · intro VV W0 g hV
                      have gD : W5.grownBy W0 none := grown_trans (grown_drew (World.grownBy.refl _ none)) g
                      have h0 : VV 0 = .pointer (some ⟨B, 1, none⟩) := psiT_f (hV 0 (by decide)) (by simp)
                      have h1 : VV 1 = .slice ao P co := psiT_f (hV 1 (by decide)) (by simp)
                      have h2 : VV 2 = .int .i64 G := psiT_f (hV 2 (by decide)) (by simp)
                      have h3 : VV 3 = .pointer (some ⟨Y, 1, none⟩) := psiT_f (hV 3 (by decide)) (by simp)
                      have h4 : VV 4 = .slice (some ⟨ob, oo, none⟩) e.n e.oc := psiT_f (hV 4 (by decide)) (by simp)
                      have h5 : VV 5 = .int .i64 (j9 : Int) := psiT_f (hV 5 (by decide)) (by simp)
                      have h6 : VV 6 = .pointer (some ⟨ob, oo + j9, none⟩) := psiT_f (hV 6 (by decide)) (by simp)
                      have h7 : VV 7 = .int .i64 p2 := psiT_f (hV 7 (by decide)) (by simp)
                      have h8 : VV 8 = .int .i64 (G + p2) := psiT_f (hV 8 (by decide)) (by simp)
                      obtain ⟨T1, h9, o1⟩ := psiT_e (hV 9 (by decide)) (by simp)
                      simp [frV, dstOf, Act.put, h0, h1, h2, h3, h4, h5, h6, h7, h8, h9]
                      clear h0 h1 h2 h3 h4 h5 h6 h7 h8 h9 hV g
                      have HgD5 : Hid (W5.grownBy W0 none) := gD
                      have hgs := gD.size
                      have HoO0 : Hid (OwnZ W0 (B + 1) (.slice ao P co) (Ty.k2 (Ty.prj x (Ty.lie T) (Ty.wk T) q j9))) := HoO.out.grow gD
                      have HO1 : Hid (OwnZ W0 W5.heap.size (.slice (some ⟨T1, 0, none⟩) 1 1) [G + p2]) := o1
                      clear gD o1
                      go_wp2_with (at_builtin; refine wp_appZx rfl _ _ rfl (B + 1) (.slice ao P co) (Ty.k2 (Ty.prj x (Ty.lie T) (Ty.wk T) q j9)) [G + p2] T1 1 W5.heap.size rfl HoO0.out rfl HO1.out (by simp) hl2 (by simp) (by omega) ?_; intro v6 w6 ho6 hg6' hq6'; have hg6 : W5.grownBy w6 (Value.slice ao P co).ownBlock := grown_trans (grown_noneR _ HgD5.out) hg6'; have hq6 : ∀ q, v6.ownBlock = some q → (Value.slice ao P co).ownBlock = some q ∨ W5.heap.size ≤ q := (fun q hv => app_in hq6' hgs hv); have hbl6 := HX5.out.midO hg6; obtain ⟨hX7, hC7⟩ := HX5.out.putO ho6 hg6 hq6; obtain ⟨a6, c6, hv6, _⟩ := ho6.slice; rw [List.length_append, lk2, List.length_singleton] at hv6; subst hv6; have m1 : w6.cell? ⟨B, 1, none⟩ = some (.slice ao P co) := (by simp [World.cell?, hbl6]); have z1 : w6.frozen? ⟨B, 1, none⟩ = false := (by simp [World.frozen?, hbl6]); have hYo7 : Y ∉ B :: (Value.slice ao P co).ownBlock.toList := (by have := HoO.out.notLot HY5.out; simp; exact ⟨fun e => hBY e.symm, this⟩); have hY7 := (hC7.block Y (Array.getElem?_eq_some_iff.1 HY5.out).1 hYo7).trans HY5.out; have HX7 : Hid (Lx wb (w6.setCell ⟨B, 1, none⟩ (.slice a6 (P + 1) c6)) B (.slice a4 (P + 1) c4) (.slice a6 (P + 1) c6) (Ty.ar x (Ty.lie T) (q + 1)) (Ty.k1 (Ty.prj x (Ty.lie T) (Ty.wk T) q j9) ++ [p1]) (Ty.k2 (Ty.prj x (Ty.lie T) (Ty.wk T) q j9) ++ [G + p2])) := hX7; have HY7 : Hid ((w6.setCell ⟨B, 1, none⟩ (.slice a6 (P + 1) c6)).heap[Y]? = some (.cells #[.slice e.ka e.n e.kc, .slice e.oa e.n e.oc, .bool eb] 81 (0, 0))) := hY7; clear hg6' hq6' hX7 hY7 hYo7 hC7)
                      go_roundw
                      case rel => exact ⟨j9 + 1, _, _, by go_num, by omega, by rw [HS1.out.1, HS1.out.2]; exact HX7.out, HY7.out⟩
                      case measure => simp [intOf]; omega
                · have hend : Ty.prj x (Ty.lie T) (Ty.wk T) q j9 = Ty.pre x (Ty.lie T) (Ty.wk T) (q + 1) := Ty.prj_end (by rw [← HE17.out.2, ← HE17.out.1, ← HP.out]; omega)
                  have HXe : Hid (Lx wb wr B (.slice ak P ck) (.slice ao P co) (Ty.ar x (Ty.lie T) (q + 1)) (Ty.k1 (Ty.pre x (Ty.lie T) (Ty.wk T) (q + 1))) (Ty.k2 (Ty.pre x (Ty.lie T) (Ty.wk T) (q + 1)))) := by rw [← hend]; exact HX9.out
                  clear hend
                  by_cases hjn : j9 < e.n
                  · have hjn' : (j9 : Int) < e.n := by omega
                    have hP16' : ¬ (P : Int) ≤ 16 := by omega
                    clear hcont
                    go_wp2
                    go_roundw
                    case rel => exact ⟨q + 1, _, _, by go_num, by omega, HXe.out⟩
                    case measure => simp [intOf]; omega
                  · have hjn' : ¬ (j9 : Int) < e.n := by omega
                    clear hcont
                    go_wp2
                    go_roundw
                    case rel => exact ⟨q + 1, _, _, by go_num, by omega, HXe.out⟩
                    case measure => simp [intOf]; omega)
          · obtain rfl : q = x.nf := by omega
            obtain ⟨ak, ck, hvk, _⟩ := hX.oK.slice
            obtain ⟨ao, co, hvo, _⟩ := hX.oO.slice
            have hll : (Ty.k2 (Ty.pre x (Ty.lie T) (Ty.wk T) x.nf)).length = (Ty.k1 (Ty.pre x (Ty.lie T) (Ty.wk T) x.nf)).length := by rw [Ty.k1, Ty.k2, List.length_map, List.length_map]
            rw [hll] at hvo
            generalize (Ty.k1 (Ty.pre x (Ty.lie T) (Ty.wk T) x.nf)).length = P at hvk hvo
            subst hvk hvo
            have r0 := hX.c0
            have r1 := hX.c1
            have r2 := hX.c2
            have hs7 := hX.lt
            have hgz := hX.gr.size
            clear hX hll
            generalize Ty.ar x (Ty.lie T) x.nf = aa at *
            go_wp2_with (at_builtin; refine wp_appL rfl _ _ rfl w.heap.size (.slice la k lc) l ⟨ak, P, ck, ao, co, aa⟩ rfl (HL.out.own.grow HX.out.gr) rfl (by simp) (by omega) (by omega) ?_; intro v8 w8 ho8 hg8)
            go_roundw
            case rel => exact ⟨k + 1, _, by go_num, by omega, HL.out.push HX.out HEw.out.1 HEw.out.2.1 HEw.out.2.2 rfl rfl rfl ho8 hg8⟩
            case measure => simp [intOf]; omega
      · have ew : Ty.w17 T k = [(11, 0), (5, 8)] := by unfold Ty.w17; rw [Ty.wk_eq hok]; unfold Ty.wkOf; rw [if_neg (by omega), if_neg (by omega), if_pos hk']; rfl
        have ea : (Ty.lie T k).arr = false := by rw [Ty.lie_eq hok]; unfold Ty.lieOf; rw [if_neg (by omega), if_neg (by omega), if_pos hk']
        have HEw : Hid ([11, 5] = Ty.k1 (Ty.w17 T k) ∧ [0, 8] = Ty.k2 (Ty.w17 T k) ∧ false = (Ty.lie T k).arr) := by rw [ew, ea]; exact ⟨rfl, rfl, rfl⟩
        have hkk : (T k).kind = 14 ∨ ((T k).kind == 14) = false ∧ (T k).kind = 15 := by simp; omega
        have k1 : ((T k).kind == 12) = false := by simp; omega
        have HX := HNew.out
        have x0 := HX.c0
        clear hl hty hok hg0 ew ea hk' i3 i4 HX
        generalize (T k).kind = kd at *
        rcases hkk with rfl | ⟨hk14, rfl⟩
        all_goals (
          go_wp2_with (first
            | (at_builtin; refine wp_appY2 rfl _ _ rfl (wb.heap.size + 1) (.slice none 0 0) [] 11 5 rfl HNew.out.oK rfl (by simp) (by simp) (by simp) ?_; intro v4 w4 ho4 hg4 hq4; have hbl4 := HNew.out.midK hg4; obtain ⟨hX5, hC5⟩ := HNew.out.putK ho4 hg4 hq4; obtain ⟨a4, p4, hv4, _⟩ := ho4.slice; simp only [List.length_append, List.length_cons, List.length_nil, Nat.zero_add, Nat.reduceAdd] at hv4; subst hv4; have m0 : w4.cell? ⟨wb.heap.size, 0, none⟩ = some (.slice none 0 0) := (by simp [World.cell?, hbl4]); have z0 : w4.frozen? ⟨wb.heap.size, 0, none⟩ = false := (by simp [World.frozen?, hbl4]); have HX5 := hX5; have y1 := hX5.c1; have hs5 := hX5.lt; clear ho4 hg4 hq4 hbl4)
            | (at_builtin; refine wp_appY2 rfl _ _ rfl (wb.heap.size + 1) (.slice none 0 0) [] 0 8 rfl HX5.oO rfl (by simp) (by simp) (by omega) ?_; intro v6 w6 ho6 hg6 hq6; have hbl6 := HX5.midO hg6; obtain ⟨hX7, hC7⟩ := HX5.putO ho6 hg6 hq6; obtain ⟨a6, p6, hv6, _⟩ := ho6.slice; simp only [List.length_append, List.length_cons, List.length_nil, Nat.zero_add, Nat.reduceAdd] at hv6; subst hv6; have m1 : w6.cell? ⟨wb.heap.size, 1, none⟩ = some (.slice none 0 0) := (by simp [World.cell?, hbl6]); have z1 : w6.frozen? ⟨wb.heap.size, 1, none⟩ = false := (by simp [World.frozen?, hbl6]); have HX7 := hX7; have r0 := hX7.c0; have r1 := hX7.c1; have r2 := hX7.c2; have hs7 := hX7.lt; clear ho6 hg6 hq6 hbl6)
            | (at_builtin; refine wp_appL rfl _ _ rfl w.heap.size (.slice la k lc) l ⟨a4, 2, p4, a6, p6, false⟩ rfl (HL.out.own.grow HX7.gr) rfl (by simp) (by omega) (by omega) ?_; intro v8 w8 ho8 hg8))
          go_roundw
          case rel => exact ⟨k + 1, _, by go_num, by omega, HL.out.push HX7 HEw.out.1 HEw.out.2.1 HEw.out.2.2 rfl rfl rfl ho8 hg8⟩
          case measure => simp [intOf]; omega)
      · have ew : Ty.w17 T k = [((T k).kind, 0)] := by unfold Ty.w17; rw [Ty.wk_eq hok]; unfold Ty.wkOf; rw [if_neg (by omega), if_neg (by omega), if_neg (by omega)]; rfl
        have ea : (Ty.lie T k).arr = false := by rw [Ty.lie_eq hok]; unfold Ty.lieOf; rw [if_neg (by omega), if_neg (by omega), if_neg (by omega)]
        have HEw : Hid ([(T k).kind] = Ty.k1 (Ty.w17 T k) ∧ [0] = Ty.k2 (Ty.w17 T k) ∧ false = (Ty.lie T k).arr) := by rw [ew, ea]; exact ⟨rfl, rfl, rfl⟩
        have k1 : ((T k).kind == 12) = false := by simp; omega
        have k2 : ((T k).kind == 13) = false := by simp; omega
        have k3 : ((T k).kind == 14) = false := by simp; omega
        have k4 : ((T k).kind == 15) = false := by simp; omega
        clear hl hty hok ew ea i1 i2 i3 i4
        generalize (T k).kind = kd at *
        go_wp2_with fail
        obtain ⟨B, hB⟩ : ∃ B, B = wb.heap.size := ⟨_, rfl⟩
        obtain ⟨W1, hW1⟩ : ∃ W1, W1 = wb.alloc (.cells #[.slice none 0 0, .slice none 0 0, .bool false] 81) := ⟨_, rfl⟩
        rw [← hW1] at t0 HNew hg0 ⊢
        rw [← hB] at HNew ⊢
        have HW1 : Hid (wb.grownBy W1 none) := hg0
        have HB : Hid (B = wb.heap.size) := hB
        clear hg0 hW1 hB
        have hBl := HNew.out.lt
        have c0 := HNew.out.c0
        have c0' : W1.drew.cell? ⟨B, 0, none⟩ = some (.slice none 0 0) := c0
        have t0' : W1.drew.cell? ⟨b, off + k * 4, none⟩ = some (.int .i64 kd) := t0
        have HoK : Hid (OwnZ W1 (B + 1) (.slice none 0 0) []) := HNew.out.oK
        go_region_law (first
          | (refine stepY1d rfl _ _ rfl (B + 1) (.slice none 0 0) [] kd rfl (by exact HoK.out) rfl (by simp) (by omega) ?_; intro v4 w4 ho4 hg4 hq4; have hbl4 := HNew.out.midK hg4; obtain ⟨hX5, hC5⟩ := HNew.out.putK ho4 hg4 hq4; obtain ⟨a4, p4, hv4, _⟩ := ho4.slice; simp only [List.length_append, List.length_cons, List.length_nil, Nat.zero_add] at hv4; subst hv4; have m0 : w4.cell? ⟨B, 0, none⟩ = some (.slice none 0 0) := (by simp [World.cell?, hbl4]); have z0 : w4.frozen? ⟨B, 0, none⟩ = false := (by simp [World.frozen?, hbl4])))
        all_goals (
          have HX5 := hX5
          have y1 := hX5.c1
          have hs5 := hX5.lt
          clear ho4 hg4 hq4 hbl4
          go_wp2_with (first
            | (at_builtin; refine wp_appY1 rfl _ _ rfl (B + 1) (.slice none 0 0) [] 0 rfl HX5.oO rfl (by simp) (by simp) (by omega) ?_; intro v6 w6 ho6 hg6 hq6; have hbl6 := HX5.midO hg6; obtain ⟨hX7, hC7⟩ := HX5.putO ho6 hg6 hq6; obtain ⟨a6, p6, hv6, _⟩ := ho6.slice; simp only [List.length_append, List.length_cons, List.length_nil, Nat.zero_add] at hv6; subst hv6; have m1 : w6.cell? ⟨B, 1, none⟩ = some (.slice none 0 0) := (by simp [World.cell?, hbl6]); have z1 : w6.frozen? ⟨B, 1, none⟩ = false := (by simp [World.frozen?, hbl6]); have HX7 := hX7; have r0 := hX7.c0; have r1 := hX7.c1; have r2 := hX7.c2; have hs7 := hX7.lt; have hgz := hX7.gr.size; clear ho6 hg6 hq6 hbl6)
            | (at_builtin; refine wp_appL rfl _ _ rfl w.heap.size (.slice la k lc) l ⟨a4, 1, p4, a6, p6, false⟩ rfl (HL.out.own.grow HX7.gr) rfl (by simp) (by omega) (by omega) ?_; intro v8 w8 ho8 hg8))
          go_roundw
          case rel => exact ⟨k + 1, _, by go_num, by omega, HL.out.push HX7 HEw.out.1 HEw.out.2.1 HEw.out.2.2 rfl rfl rfl ho8 hg8⟩
          case measure => simp [intOf]; omega)
    · obtain rfl : k = m := by omega
      clear hl
      go_wp2
      go_ret
      exact ⟨_, l, rfl, HL.out⟩
end Go.Proofs.Ytdfjaedafampaaa
