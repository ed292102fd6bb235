/- Contracts and plain facts that the walks share. -/
import Derived.Test.YtbpdggdpgohilaaG6
import Derived.Test.YtbpdggdpgohilaaG5
import Derived.Test.YtbpdggdpgohilaaG1
namespace Go.Proofs.Ytbpdggdpgohilaa
open Go.RowKit
set_option linter.unusedVariables false
namespace Sa
/-- how many numbers are not come to -/
def un (g : Nat → Int) : Nat → Nat
  | 0 => 0
  | n + 1 => un g n + (if g n = -1 then 1 else 0)
theorem un_congr {g g' : Nat → Int} : ∀ {n : Nat}, (∀ b, b < n → g b = g' b) → un g n = un g' n
  | 0, _ => rfl
  | n + 1, h => by unfold un; rw [un_congr (n := n) (fun b hb => h b (by omega)), h n (by omega)]
theorem un_set {g : Nat → Int} {b : Nat} {x : Int} (hg : g b = -1) (hx : x ≠ -1) : ∀ {n : Nat}, b < n → un (setF g b x) n + 1 = un g n
  | 0, h => by omega
  | n + 1, h => by
    unfold un
    by_cases e : b = n
    · subst e
      rw [un_congr (g := setF g b x) (g' := g) (fun k hk => by unfold setF; rw [if_neg (by omega)])]
      have h1 : setF g b x b = x := by unfold setF; simp
      rw [h1, if_neg hx, if_pos hg]
    · have h1 := un_set (n := n) hg hx (by omega : b < n)
      have h2 : setF g b x n = g n := by unfold setF; rw [if_neg (by omega)]
      rw [h2]; omega
theorem un_pos {g : Nat → Int} {b : Nat} (hg : g b = -1) : ∀ {n : Nat}, b < n → 1 ≤ un g n
  | 0, h => by omega
  | n + 1, h => by
    unfold un
    by_cases e : b = n
    · subst e; rw [if_pos hg]; omega
    · have := un_pos (n := n) hg (by omega); omega
/-- what is kept -/
structure WkI (n : Nat) (w : Wk) : Prop where
  len : w.order.length = w.parent.length
  ord : ∀ j, j < w.order.length → ∃ b : Nat, b < n ∧ w.order.getD j 0 = b ∧ w.rank b = j
  rk : ∀ b, b < n → w.rank b = -1 ∨ ∃ j : Nat, j < w.order.length ∧ w.rank b = j ∧ w.order.getD j 0 = b
  par : ∀ j, j < w.order.length → -1 ≤ w.parent.getD j 0 ∧ w.parent.getD j 0 < (j : Int) ∧ (0 < j → 0 ≤ w.parent.getD j 0)
  cnt : w.order.length + un w.rank n = n
theorem WkI.le {n : Nat} {w : Wk} (h : WkI n w) : w.order.length ≤ n := by have := h.cnt; omega
theorem WkI.lt {n : Nat} {w : Wk} (h : WkI n w) {b : Nat} (hb : b < n) (hr : w.rank b = -1) : w.order.length < n := by have := h.cnt; have := un_pos hr hb; omega
theorem getD_app {l : List Int} {x : Int} {j : Nat} : (l ++ [x]).getD j 0 = if j < l.length then l.getD j 0 else if j = l.length then x else 0 := by
  simp only [List.getD_eq_getElem?_getD, List.getElem?_append]
  split
  · rfl
  · rename_i h
    by_cases e : j = l.length
    · subst e; simp
    · rw [if_neg e]
      have : j - l.length ≠ 0 := by omega
      cases hk : j - l.length with
      | zero => omega
      | succ k => simp
theorem WkI.on {n : Nat} {w : Wk} (h : WkI n w) {b : Nat} (hb : b < n) (hr : w.rank b = -1) {p : Int} (hp : -1 ≤ p ∧ p < (w.order.length : Int) ∧ (0 < w.order.length → 0 ≤ p)) : WkI n (w.on b p) := by
  have e1 : (w.on b p).order = w.order ++ [(b : Int)] := rfl
  have e2 : (w.on b p).parent = w.parent ++ [p] := rfl
  have e3 : (w.on b p).rank = setF w.rank b w.order.length := by unfold Wk.on; rw [Int.toNat_natCast]
  refine ⟨?_, ?_, ?_, ?_, ?_⟩
  · rw [e1, e2]; simp [h.len]
  · intro j hj
    rw [e1] at hj ⊢
    rw [e3, getD_app]
    rw [List.length_append, List.length_singleton] at hj
    by_cases hjl : j < w.order.length
    · rw [if_pos hjl]
      obtain ⟨q, hq, hq1, hq2⟩ := h.ord j hjl
      refine ⟨q, hq, hq1, ?_⟩
      unfold setF
      rw [if_neg ?_]
      · exact hq2
      · intro e; subst e; rw [hr] at hq2; omega
    · have : j = w.order.length := by omega
      rw [if_neg hjl, if_pos this]
      exact ⟨b, hb, rfl, by unfold setF; simp [this]⟩
  · intro q hq
    rw [e1, e3]
    by_cases e : q = b
    · refine .inr ⟨w.order.length, by simp, by unfold setF; simp [e], ?_⟩
      rw [getD_app, if_neg (by omega), if_pos rfl, e]
    · rcases h.rk q hq with h1 | ⟨j, hj, h1, h2⟩
      · exact .inl (by unfold setF; rw [if_neg e]; exact h1)
      · refine .inr ⟨j, by simp; omega, by unfold setF; rw [if_neg e]; exact h1, ?_⟩
        rw [getD_app, if_pos hj]; exact h2
  · intro j hj
    rw [e1] at hj
    rw [e2, getD_app]
    rw [List.length_append, List.length_singleton] at hj
    rw [← h.len]
    by_cases hjl : j < w.order.length
    · rw [if_pos hjl]; exact h.par j hjl
    · have : j = w.order.length := by omega
      rw [if_neg hjl, if_pos this, this]
      exact hp
  · rw [e1, e3]
    have h1 := un_set (n := n) hr (show (w.order.length : Int) ≠ -1 by omega) hb
    have := h.cnt
    rw [List.length_append, List.length_singleton]
    omega
/-- it goes on from where it stood -/
structure WkX (w w' : Wk) : Prop where
  ord : ∃ l, w'.order = w.order ++ l
  par : ∃ l, w'.parent = w.parent ++ l
theorem WkX.refl (w : Wk) : WkX w w := ⟨⟨[], by simp⟩, ⟨[], by simp⟩⟩
theorem WkX.trans {a b c : Wk} (h : WkX a b) (g : WkX b c) : WkX a c := by
  obtain ⟨⟨l, hl⟩, ⟨m, hm⟩⟩ := h
  obtain ⟨⟨l2, hl2⟩, ⟨m2, hm2⟩⟩ := g
  exact ⟨⟨l ++ l2, by rw [hl2, hl, List.append_assoc]⟩, ⟨m ++ m2, by rw [hm2, hm, List.append_assoc]⟩⟩
theorem WkX.on (w : Wk) (b p : Int) : WkX w (w.on b p) := ⟨⟨[b], rfl⟩, ⟨[p], rfl⟩⟩
theorem WkX.len {a b : Wk} (h : WkX a b) : a.order.length ≤ b.order.length := by obtain ⟨⟨l, hl⟩, _⟩ := h; rw [hl, List.length_append]; omega
/-- where blocks lead to -/
def Leads (bs : List Bl) : Prop := ∀ b : Nat, b < bs.length → ∀ x, x ∈ (bs.getD b bl0).succs → 0 ≤ x ∧ x < (bs.length : Int)
def Keep (bs : List Bl) (f : Nat) : Prop := ∀ (b : Nat) (p : Int) (w : Wk), b < bs.length → w.rank b = -1 → (-1 ≤ p ∧ p < (w.order.length : Int) ∧ (0 < w.order.length → 0 ≤ p)) → WkI bs.length w → WkI bs.length (visit bs f b p w) ∧ WkX w (visit bs f b p w)
theorem visits_keeps {bs : List Bl} {f : Nat} (ih : Keep bs f) {own : Nat} : ∀ {l : List Int} {w : Wk}, (∀ x, x ∈ l → 0 ≤ x ∧ x < (bs.length : Int)) → own < w.order.length → WkI bs.length w → WkI bs.length (visits bs f own l w) ∧ WkX w (visits bs f own l w)
  | [], w, _, _, h => by rw [visits]; exact ⟨h, .refl _⟩
  | s :: l, w, hl, ho, h => by
    rw [visits]
    obtain ⟨h0, h1⟩ := hl s (by simp)
    obtain ⟨k, rfl⟩ : ∃ k : Nat, s = (k : Int) := ⟨s.toNat, by omega⟩
    have hk : k < bs.length := by omega
    rw [Int.toNat_natCast]
    split
    · rename_i hr
      have h2 := ih k own w hk hr ⟨by omega, by omega, by omega⟩ h
      have h3 := visits_keeps ih (l := l) (own := own) (fun x hx => hl x (by simp [hx])) (by have := h2.2.len; omega) h2.1
      exact ⟨h3.1, h2.2.trans h3.2⟩
    · exact visits_keeps ih (l := l) (own := own) (fun x hx => hl x (by simp [hx])) ho h
theorem visit_keeps {bs : List Bl} (hs : Leads bs) : ∀ f, Keep bs f
  | 0 => fun b p w _ _ _ h => by rw [visit]; exact ⟨h, .refl _⟩
  | f + 1 => fun b p w hb hr hp h => by
    rw [visit]
    have h1 := h.on hb hr hp
    rw [Int.toNat_natCast]
    have h2 := visits_keeps (visit_keeps hs f) (own := w.order.length) (l := (bs.getD b bl0).succs) (hs b hb) (by show _ < (w.order ++ [(b : Int)]).length; simp) h1
    exact ⟨h2.1, (WkX.on w b p).trans h2.2⟩
def wk0 : Wk := ⟨fun _ => -1, [], []⟩
theorem un0 : ∀ n, un (fun _ => -1) n = n
  | 0 => rfl
  | n + 1 => by unfold un; rw [un0 n]; simp
theorem wk0_ok (n : Nat) : WkI n wk0 := ⟨rfl, fun j hj => by simp [wk0] at hj, fun b hb => .inl rfl, fun j hj => by simp [wk0] at hj, by unfold wk0; rw [un0]; simp⟩
theorem walk_eq (bs : List Bl) : walk bs = visit bs bs.length 0 (-1) wk0 := rfl
theorem walk_ok {bs : List Bl} (hs : Leads bs) (h0 : 0 < bs.length) : WkI bs.length (walk bs) := ((visit_keeps hs bs.length) 0 (-1) wk0 h0 rfl ⟨by omega, by simp [wk0], by simp [wk0]⟩ (wk0_ok _)).1
theorem walk_first {bs : List Bl} (hs : Leads bs) (h0 : 0 < bs.length) : 0 < (walk bs).order.length ∧ (walk bs).order.getD 0 0 = 0 ∧ (walk bs).parent.getD 0 0 = -1 := by
  obtain ⟨f, hf⟩ : ∃ f, bs.length = f + 1 := ⟨bs.length - 1, by omega⟩
  have h1 : WkI bs.length (wk0.on 0 (-1)) := (wk0_ok _).on (b := 0) h0 rfl ⟨by omega, by simp [wk0], by simp [wk0]⟩
  have h2 := visits_keeps (visit_keeps hs f) (own := 0) (l := (bs.getD 0 bl0).succs) (hs 0 h0) (by simp [wk0, Wk.on]) h1
  have e : walk bs = visits bs f 0 (bs.getD 0 bl0).succs (wk0.on 0 (-1)) := by rw [walk_eq, hf, visit]; rfl
  obtain ⟨⟨l, hl⟩, ⟨m, hm⟩⟩ := h2.2
  have hl2 : (walk bs).order = 0 :: l := by rw [e, hl]; rfl
  have hm2 : (walk bs).parent = -1 :: m := by rw [e, hm]; rfl
  rw [hl2, hm2]
  exact ⟨by simp, rfl, rfl⟩
end Sa
/-- a block's whole row -/
def Bk (w : World) (B : Nat) (t : TypeId) (l : List Value) : Prop := w.heap[B]? = some (.cells l.toArray t)
theorem Bk.cell {w : World} {B : Nat} {t : TypeId} {l : List Value} (h : Bk w B t l) {i : Nat} {v : Value} (hv : l[i]? = some v) : w.cell? ⟨B, i, none⟩ = some v := by
  unfold Bk at h
  simp [World.cell?, h, hv]
theorem Bk.frozen {w : World} {B : Nat} {t : TypeId} {l : List Value} (h : Bk w B t l) (i : Nat) : w.frozen? ⟨B, i, none⟩ = false := by
  unfold Bk at h
  simp [World.frozen?, h]
theorem Bk.lt {w : World} {B : Nat} {t : TypeId} {l : List Value} (h : Bk w B t l) : B < w.heap.size := (Array.getElem?_eq_some_iff.1 h).1
theorem Bk.ch {w w' : World} {B : Nat} {t : TypeId} {l : List Value} {m : List Nat} (h : Bk w B t l) (g : Ch w w' m) (hB : B ∉ m) : Bk w' B t l := (g.block B h.lt hB).trans h
theorem Bk.grow {w w' : World} {B : Nat} {t : TypeId} {l : List Value} (h : Bk w B t l) (g : w.grownBy w' none) : Bk w' B t l := h.ch (m := []) (Ch.of g) (by simp)
theorem Bk.new (w : World) (t : TypeId) (l : List Value) : Bk (w.alloc (.cells l.toArray t)) w.heap.size t l := by
  show (w.heap.push _)[w.heap.size]? = _
  simp
theorem Bk.set {w : World} {B : Nat} {t : TypeId} {l : List Value} (h : Bk w B t l) (i : Nat) (v : Value) : Bk (w.setCell ⟨B, i, none⟩ v) B t (l.set i v) := by
  unfold Bk at h ⊢
  simp [World.setCell, Array.getElem?_modify, h]
/-- three cells stored -/
def put3 (w : World) (B : Nat) (x y z : Value) : World := ((w.setCell ⟨B, 0, none⟩ x).setCell ⟨B, 1, none⟩ y).setCell ⟨B, 2, none⟩ z
theorem Bk.put3 {w : World} {B : Nat} {t : TypeId} {a b c : Value} (h : Bk w B t [a, b, c]) (x y z : Value) : Bk (put3 w B x y z) B t [x, y, z] := ((h.set 0 x).set 1 y).set 2 z
theorem ch_put3 (w : World) (B : Nat) (x y z : Value) : Ch w (put3 w B x y z) [B] := ((Ch.one (grown_set _ _ _ _) (by simp)).trans (Ch.one (grown_set _ _ _ _) (by simp))).trans (Ch.one (grown_set _ _ _ _) (by simp))
end Go.Proofs.Ytbpdggdpgohilaa
namespace Go.Proofs.Ytbpdggdpgohilaa
open Go.RowKit
set_option linter.unusedVariables false
set_option maxRecDepth 100000
set_option maxHeartbeats 4000000
/-- a fault of ssa's -/
abbrev saF (n : Int) : Ending := .panicked [{ v := .iface 84 (.agg #[.int .i64 n]), recovered := false }]
theorem saMust_any (b : Bool) (e : Int) (w : World) : Calls Try.prog 46 #[.bool b, .int .i64 e] w fun r w' => r = (bif b then .returned (.tuple #[]) else saF e) ∧ w' = w := by
  cases b
  · go_enter Try.func46, Try.ntmps46
    go_wp2
    exact ⟨rfl, rfl, rfl⟩
  · go_enter Try.func46, Try.ntmps46
    go_wp2
    go_end0
    exact ⟨rfl, rfl⟩
theorem saNum_any (many : Nat) (x : Int) (w : World) : Calls Try.prog 56 #[.int .i64 (many : Int), .int .i64 x] w fun r w' => r = .returned (.bool (Sa.isNum many x)) ∧ w' = w := by
  unfold Sa.isNum
  by_cases h1 : 0 ≤ x <;> by_cases h2 : x < (many : Int)
  all_goals
    go_enter Try.func56, Try.ntmps56
    go_wp2
    go_ret
    exact ⟨by simp [h1, h2], rfl⟩
theorem saExits_any (k : Int) (w : World) : Calls Try.prog 48 #[.int .i64 k] w fun r w' => r = .returned (.int .i64 (Sa.exits k : Int)) ∧ w' = w := by
  unfold Sa.exits
  by_cases h1 : k = 1
  · have d1 : (k == 1) = true := by simpa using h1
    rw [if_pos h1]
    clear h1
    go_enter Try.func48, Try.ntmps48
    go_wp2
    go_ret
    exact ⟨rfl, rfl⟩
  have d1 : (k == 1) = false := by simpa using h1
  rw [if_neg h1]
  by_cases h2 : k = 2
  · have d2 : (k == 2) = true := by simpa using h2
    rw [if_pos h2]
    clear h1 h2
    go_enter Try.func48, Try.ntmps48
    go_wp2
    go_ret
    exact ⟨rfl, rfl⟩
  have d2 : (k == 2) = false := by simpa using h2
  rw [if_neg h2]
  clear h1 h2
  go_enter Try.func48, Try.ntmps48
  go_wp2
  go_ret
  exact ⟨rfl, rfl⟩
theorem saBlk_idx {B : Nat → Prop} {w : World} {a : Option Addr} {c : Nat} {l : List Int} {p : Int → Bool} {nb : Nat} (hl : NumL B w a c l) (hp : ∀ x, x ∈ l → ∀ W, w.grownBy W none → Calls Try.prog 55 #[.int .i64 x, .pointer (some ⟨nb, 0, none⟩)] W fun r w' => r = .returned (.bool (p x)) ∧ W.grownBy w' none) : Calls Try.prog 61 #[.slice a l.length c, .func (.func 55) #[] #[.pointer (some ⟨nb, 0, none⟩)]] w fun r w' => ∃ q : Int, r = .returned (.int .i64 q) ∧ w.grownBy w' none ∧ decide (0 ≤ q) = l.any p := by
  have hle := hl.le
  have hmx := hl.max
  unfold maxLen at hmx
  have HL : Hid (∀ W, w.grownBy W none → NumL B W a c l) := fun W g => NumL.grow1 hl g
  have HP : Hid (∀ x, x ∈ l → ∀ W, w.grownBy W none → Calls Try.prog 55 #[.int .i64 x, .pointer (some ⟨nb, 0, none⟩)] W fun r w' => r = .returned (.bool (p x)) ∧ W.grownBy w' none) := hp
  clear hl hp
  go_enter Try.func61, Try.ntmps61
  go_wp2_with fail
  go_loopw [8] (fun ix wr => ∃ k : Nat, ix = .int .i64 k ∧ k ≤ l.length ∧ (l.take k).any p = false ∧ w.grownBy wr none) (fun ix _ => l.length - (intOf ix).toNat)
  case atStart => exact ⟨0, rfl, Nat.zero_le _, rfl, World.grownBy.refl _ _⟩
  case round =>
    obtain ⟨k, rfl, hk, ha, hg⟩ := hrel
    have HA : Hid ((l.take k).any p = false) := ha
    have HG : Hid (w.grownBy wr none) := hg
    clear ha hg
    by_cases hkn : k < l.length
    · have hkn' : (k : Int) < l.length := by omega
      obtain ⟨b, o, rfl, _, hx⟩ := (HL.out wr HG.out).at hkn
      unfold NumQ at hx
      rw [Nat.mul_one] at hx
      have HC := HP.out l[k] (List.getElem_mem hkn) wr HG.out
      have HT : Hid (p l[k] = true → l.any p = true) := fun h => List.any_eq_true.2 ⟨_, List.getElem_mem hkn, h⟩
      have HF : Hid (p l[k] = false → (l.take (k + 1)).any p = false) := fun h => by rw [List.take_succ_eq_append_getElem hkn, List.any_append, HA.out]; simp [h]
      generalize l[k] = x at *
      cases hv : p x
      · rw [hv] at HC
        have HV : Hid (p x = false) := hv
        have HC2 : Hid (Calls Try.prog 55 #[.int .i64 x, .pointer (some ⟨nb, 0, none⟩)] wr fun r w' => r = .returned (.bool false) ∧ wr.grownBy w' none) := HC
        clear HC hv
        go_wp2_with (go_at_call 55; refine HC2.out.mono ?_; rintro e w4 ⟨rfl, hg4⟩; have HG4 : Hid (w.grownBy w4 none) := grown_trans HG.out hg4; clear hg4)
        go_roundw
        case rel => exact ⟨k + 1, by go_num, by omega, HF.out HV.out, HG4.out⟩
        case measure => simp [intOf]; omega
      · rw [hv] at HC
        have HV : Hid (p x = true) := hv
        have HC2 : Hid (Calls Try.prog 55 #[.int .i64 x, .pointer (some ⟨nb, 0, none⟩)] wr fun r w' => r = .returned (.bool true) ∧ wr.grownBy w' none) := HC
        clear HC hv
        go_wp2_with (go_at_call 55; refine HC2.out.mono ?_; rintro e w4 ⟨rfl, hg4⟩; have HG4 : Hid (w.grownBy w4 none) := grown_trans HG.out hg4; clear hg4)
        go_ret
        exact ⟨_, rfl, HG4.out, by rw [HT.out HV.out]; simp⟩
    · obtain rfl : k = l.length := by omega
      go_wp2
      go_ret
      have e1 := HA.out
      rw [List.take_length] at e1
      exact ⟨_, rfl, HG.out, by rw [e1]; rfl⟩
theorem saBlk_con {B : Nat → Prop} {w : World} {a : Option Addr} {c : Nat} {l : List Int} {p : Int → Bool} {nb : Nat} (hl : NumL B w a c l) (hp : ∀ x, x ∈ l → ∀ W, w.grownBy W none → Calls Try.prog 55 #[.int .i64 x, .pointer (some ⟨nb, 0, none⟩)] W fun r w' => r = .returned (.bool (p x)) ∧ W.grownBy w' none) : Calls Try.prog 54 #[.slice a l.length c, .func (.func 55) #[] #[.pointer (some ⟨nb, 0, none⟩)]] w fun r w' => r = .returned (.bool (l.any p)) ∧ w.grownBy w' none := by
  have HI : Hid (Calls Try.prog 61 #[.slice a l.length c, .func (.func 55) #[] #[.pointer (some ⟨nb, 0, none⟩)]] w fun r w' => ∃ q : Int, r = .returned (.int .i64 q) ∧ w.grownBy w' none ∧ decide (0 ≤ q) = l.any p) := saBlk_idx hl hp
  clear hl hp
  generalize l.any p = z at *
  go_enter Try.func54, Try.ntmps54
  go_wp2_with (go_at_call 61; refine HI.out.mono ?_; rintro e w3 ⟨q, rfl, hg3, hq⟩; have HG3 : Hid (w.grownBy w3 none) := hg3; clear hg3)
  go_ret
  exact ⟨by rw [← hq]; first | rfl | simp, HG3.out⟩
theorem all_not_any (p : Int → Bool) (l : List Int) : (!l.any fun x => !p x) = l.all p := by
  induction l with
  | nil => rfl
  | cons x l ih => rw [List.any_cons, List.all_cons, ← ih]; cases p x <;> simp
/-- where the reader's rows lie -/
structure RdA where
  ca : Option Addr
  cc : Nat
  da : Option Addr
  dc : Nat
  pa : Option Addr
  pc : Nat
  ra : Option Addr
  rc : Nat
  va : Option Addr
  vc : Nat
  ba : Option Addr
  bc : Nat
  hm : Value
  sp : Value
  to : Value
  ta : Value
  tf : Value
  ts : Value
def rdRow (u : Sa.Un) (c : Sa.Cd) (A : RdA) : List Value := [.slice A.ca u.codes.length A.cc, .slice A.da u.data.length A.dc, .slice A.pa c.params.length A.pc, .slice A.ra c.results.length A.rc, .slice A.va c.values.length A.vc, .slice A.ba c.blocks.length A.bc, A.hm, A.sp, A.to, A.ta, A.tf, A.ts]
theorem Sa.isVal_iff {c : Sa.Cd} {n : Int} : Sa.isVal c n = true ↔ (0 ≤ n ∧ n < (c.values.length : Int)) ∧ (c.v n).op ≠ 0 := by unfold Sa.isVal; rw [Bool.and_eq_true, Sa.isNum_iff]; simp
/-- a value by its number -/
theorem VlL.num {B : Nat → Prop} {w : World} {a : Option Addr} {k : Nat} {c : Sa.Cd} (h : VlL B w a k c.values) {n : Nat} (hn : n < c.values.length) : ∃ b o q cq, a = some ⟨b, o, none⟩ ∧ B b ∧ VlC B w b (o + n * 5) (c.v n) q cq := by
  obtain ⟨b, o, e, hb, q, cq, h⟩ := h.at hn
  refine ⟨b, o, q, cq, e, hb, ?_⟩
  rw [show c.v (n : Int) = c.values[n] by unfold Sa.Cd.v; simp [List.getD_eq_getElem?_getD, hn]]
  exact h
theorem BlL.num {B : Nat → Prop} {w : World} {a : Option Addr} {k : Nat} {l : List Sa.Bl} (h : BlL B w a k l) {n : Nat} (hn : n < l.length) : ∃ b o a1 a2 a3 a4 k1 k2 k3 k4, a = some ⟨b, o, none⟩ ∧ B b ∧ BlC B w b (o + n * 6) (l.getD n Sa.bl0) a1 a2 a3 a4 k1 k2 k3 k4 := by
  obtain ⟨b, o, e, hb, a1, a2, a3, a4, k1, k2, k3, k4, h⟩ := h.at hn
  refine ⟨b, o, a1, a2, a3, a4, k1, k2, k3, k4, e, hb, ?_⟩
  rw [show l.getD n Sa.bl0 = l[n] by simp [List.getD_eq_getElem?_getD, hn]]
  exact h
end Go.Proofs.Ytbpdggdpgohilaa
