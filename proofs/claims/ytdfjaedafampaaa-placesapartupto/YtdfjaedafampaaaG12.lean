/- Contracts and plain facts that the walks share. -/
import Derived.Test.YtdfjaedafampaaaAbEx
import Derived.Test.YtdfjaedafampaaaG8
namespace Go.Proofs.Ytdfjaedafampaaa
open Go.RowKit
set_option linter.unusedVariables false
namespace Ab
/-- how many registers, which slot was the last -/
def nx (x : Nat × Int) (p : Pc) : Nat × Int := if p.st then (x.1, p.n) else (x.1 + 1, x.2)
def fo (l : List Pc) : Nat × Int := l.foldl nx (0, -1)
def okP (x : Nat × Int) (p : Pc) : Prop := if p.st then x.2 < p.n else p.n = x.1 ∧ x.1 < 6
theorem fo_snoc (l : List Pc) (p : Pc) : fo (l ++ [p]) = nx (fo l) p := by unfold fo; rw [List.foldl_append]; rfl
/-- a list whose places lie apart -/
def Apt (l : List Pc) : Prop := ∀ i (h : i < l.length), okP (fo (l.take i)) l[i]
theorem Apt.nil : Apt [] := fun i h => by simp at h
theorem Apt.snoc {l : List Pc} {p : Pc} (h : Apt l) (hp : okP (fo l) p) : Apt (l ++ [p]) := fun i hi => by
  by_cases hl : i < l.length
  · have := h i hl
    rw [List.getElem_append_left hl, List.take_append_of_le_length (by omega)]
    exact this
  · have e : i = l.length := by simp at hi; omega
    subst e
    rw [List.getElem_append_right (Nat.le_refl _), List.take_left' rfl]
    simpa using hp
theorem Apt.rg {l : List Pc} {r : Nat} {q : Int} (h : Apt l) (hf : fo l = (r, q)) : ∀ {k : Nat}, r + k ≤ 6 → Apt (l ++ rg r k) ∧ fo (l ++ rg r k) = (r + k, q)
  | 0, _ => by rw [show Ab.rg r 0 = [] from rfl, List.append_nil]; exact ⟨h, hf⟩
  | k + 1, hk => by
    obtain ⟨h1, h2⟩ := Apt.rg h hf (k := k) (by omega)
    rw [rg_succ, ← List.append_assoc]
    refine ⟨h1.snoc ?_, ?_⟩
    · rw [h2]
      exact ⟨rfl, by show r + k < 6; omega⟩
    · rw [fo_snoc, h2]
      rfl
theorem Apt.sl {l : List Pc} {r s : Nat} {q : Int} (h : Apt l) (hf : fo l = (r, q)) (hq : q < s) : ∀ {k : Nat}, Apt (l ++ sl s k) ∧ ∃ q', fo (l ++ sl s k) = (r, q') ∧ q' < (s + k : Nat)
  | 0 => by rw [show Ab.sl s 0 = [] from rfl, List.append_nil]; exact ⟨h, q, hf, hq⟩
  | k + 1 => by
    obtain ⟨h1, q', h2, h3⟩ := Apt.sl h hf hq (k := k)
    rw [sl_succ, ← List.append_assoc]
    refine ⟨h1.snoc ?_, ((s + k : Nat) : Int), ?_, by omega⟩
    · rw [h2]
      exact h3
    · rw [fo_snoc, h2]
      rfl
theorem go_apt (K : Nat → Nat) (s0 : Nat) : ∀ m, Apt (go K s0 m).l ∧ ∃ q, fo (go K s0 m).l = ((go K s0 m).r, q) ∧ q < (go K s0 m).s
  | 0 => ⟨Apt.nil, -1, rfl, by show (-1 : Int) < (s0 : Int); omega⟩
  | m + 1 => by
    obtain ⟨h1, q, h2, h3⟩ := go_apt K s0 m
    show Apt (one (go K s0 m) (K m)).l ∧ ∃ q, fo (one (go K s0 m) (K m)).l = ((one (go K s0 m) (K m)).r, q) ∧ q < (one (go K s0 m) (K m)).s
    by_cases hc : (go K s0 m).r + K m ≤ 6
    · rw [one_in hc]
      obtain ⟨a, b⟩ := h1.rg h2 hc
      exact ⟨a, q, b, h3⟩
    · rw [one_out hc]
      exact h1.sl h2 h3
/-- slots among so many places -/
def cn (l : List Pc) : Nat := (l.filter Pc.st).length
theorem cn_app (l m : List Pc) : cn (l ++ m) = cn l + cn m := by simp [cn]
theorem cn_rg (r k : Nat) : cn (rg r k) = 0 := by
  unfold cn rg
  rw [List.filter_map]
  simp [Function.comp_def]
theorem cn_sl (s k : Nat) : cn (sl s k) = k := by
  unfold cn
  rw [List.filter_eq_self.2 (fun p hp => by simp only [sl, List.mem_map] at hp; obtain ⟨j, _, rfl⟩ := hp; rfl), sl_len]
theorem go_cn (K : Nat → Nat) (s0 : Nat) : ∀ m, s0 + cn (go K s0 m).l = (go K s0 m).s
  | 0 => by simp [go, cn]
  | m + 1 => by
    have h := go_cn K s0 m
    show s0 + cn (one (go K s0 m) (K m)).l = (one (go K s0 m) (K m)).s
    by_cases hc : (go K s0 m).r + K m ≤ 6
    · rw [one_in hc, cn_app, cn_rg]; exact h
    · rw [one_out hc, cn_app, cn_sl]; show _ = (go K s0 m).s + K m; omega
theorem go_st (K : Nat → Nat) (s0 : Nat) : ∀ m, ∀ p ∈ (go K s0 m).l, p.st = true → (s0 : Int) ≤ p.n ∧ p.n < (go K s0 m).s
  | 0 => fun p hp => by simp [go] at hp
  | m + 1 => fun p hp hs => by
    have h := go_st K s0 m
    have hb := go_cn K s0 m
    revert hp
    show p ∈ (one (go K s0 m) (K m)).l → (s0 : Int) ≤ p.n ∧ p.n < (one (go K s0 m) (K m)).s
    by_cases hc : (go K s0 m).r + K m ≤ 6
    · rw [one_in hc, List.mem_append]
      rintro (hp | hp)
      · exact h p hp hs
      · simp only [rg, List.mem_map] at hp
        obtain ⟨j, _, rfl⟩ := hp
        cases hs
    · rw [one_out hc, List.mem_append]
      rintro (hp | hp)
      · have := h p hp hs
        exact ⟨this.1, by show p.n < ((go K s0 m).s + K m : Nat); omega⟩
      · simp only [sl, List.mem_map, List.mem_range] at hp
        obtain ⟨j, hj, rfl⟩ := hp
        exact ⟨by show (s0 : Int) ≤ ((go K s0 m).s + j : Nat); omega, by show (((go K s0 m).s + j : Nat) : Int) < ((go K s0 m).s + K m : Nat); omega⟩
theorem go_pre (K : Nat → Nat) (s0 m : Nat) : (go K s0 m).l <+: (go K s0 (m + 1)).l := by
  show _ <+: (one (go K s0 m) (K m)).l
  by_cases hc : (go K s0 m).r + K m ≤ 6
  · rw [one_in hc]; exact List.prefix_append _ _
  · rw [one_out hc]; exact List.prefix_append _ _
/-- words in all -/
def sm (K : Nat → Nat) : Nat → Nat
  | 0 => 0
  | m + 1 => sm K m + K m
theorem go_sm (K : Nat → Nat) (s0 : Nat) : ∀ m, (go K s0 m).l.length = sm K m
  | 0 => rfl
  | m + 1 => by
    have h := go_sm K s0 m
    show (one (go K s0 m) (K m)).l.length = sm K m + K m
    by_cases hc : (go K s0 m).r + K m ≤ 6
    · rw [one_in hc, List.length_append, rg_len, h]
    · rw [one_out hc, List.length_append, sl_len, h]
theorem ok_pre {T : Nat → Ty.TyV} {n : Nat} {L : Nat → Int} {m : Nat} (h : okB T n L (m + 1) = true) : okB T n L m = true := by
  rw [ok_iff] at h ⊢
  exact ⟨by omega, fun k hk => h.2 k (by omega)⟩
theorem ok_nil (T : Nat → Ty.TyV) (n : Nat) (L : Nat → Int) : okB T n L 0 = true := by rw [ok_iff]; exact ⟨by omega, fun k hk => by omega⟩
end Ab
theorem PcIn.cut {w : World} {a : Option Addr} {n c m : Nat} {P : Nat → Ab.Pc} (h : PcIn w a n c P) (hm : m ≤ n) : PcIn w a m c P :=
  ⟨Nat.le_trans hm h.le, by
    rcases h.lie with h0 | ⟨b, off, e, hi⟩
    · exact .inl (by omega)
    · exact .inr ⟨b, off, e, fun i h => hi i (by omega)⟩⟩
theorem NumIn.cut {N : Nat} {w : World} {a : Option Addr} {n c m : Nat} {M : Nat → Int} (h : NumIn N w a n c M) (hm : m ≤ n) : NumIn N w a m c M :=
  ⟨Nat.le_trans hm h.le, h.max, by
    rcases h.lie with h0 | ⟨b, off, e, hb, hi⟩
    · exact .inl (by omega)
    · exact .inr ⟨b, off, e, hb, fun i h => hi i (by omega)⟩⟩
set_option maxRecDepth 100000 in
set_option maxHeartbeats 4000000 in
theorem count_any {N : Nat} {w : World} {T : Nat → Ty.TyV} {n : Nat} {a : Option Addr} {c : Nat} (h : TysIn N w a n c T) (hN : N ≤ w.heap.size) (hc : Ty.chk T n = 0) {M : Nat} {la : Option Addr} {m lc : Nat} {L : Nat → Int} (hL : NumIn M w la m lc L) (hok : Ab.okB T n L m = true) :
    Calls Try.prog 15 #[.slice a n c, .slice la m lc] w fun e w' => e = .returned (.int .i64 ((Ab.sm (Ab.kw T L) m : Nat) : Int)) ∧ w.grownBy w' none := by
  have hm := (Ab.ok_iff.1 hok).1
  have hm' : (m : Int) ≤ 8 := by omega
  have hle := hL.le
  have hnl := h.le
  have HKb : Hid (∀ k, k < m → Ab.kw T L k ≤ 16) := Ab.kw_le hc hok
  have HWd : Hid (∀ W j, w.grownBy W none → j < m → Calls Try.prog 27 #[.slice a n c, .int .i64 (L j)] W fun e w' => ∃ ka kc oa on oc, e = .returned (.tuple #[.slice ka (Ab.kw T L j) kc, .slice oa on oc, .bool true]) ∧ W.grownBy w' none) := fun W j hW hj => by
    obtain ⟨x1, x2, x3⟩ := (Ab.ok_iff.1 hok).2 j hj
    exact rwords7_ok (h.grow hW) (Nat.le_trans hN hW.size) hc (by unfold Ab.vB; rw [Ty.nmB_iff.2 ⟨x1, x2⟩, x3]; rfl)
  have HL : Hid (∀ W, w.grownBy W none → NumIn M W la m lc L) := fun W hW => hL.grow hW
  clear h hL hc hok
  generalize Ab.kw T L = K at *
  obtain ⟨Z, hZ⟩ : ∃ Z : Int, Z = ((Ab.sm K m : Nat) : Int) := ⟨_, rfl⟩
  rw [← hZ]
  have HZ : Hid (Z = ((Ab.sm K m : Nat) : Int)) := hZ
  clear hZ
  go_enter Try.func15, Try.ntmps15
  go_wp2_with fail
  go_loopw [5, 6] (fun sv ix wr => ∃ j : Nat, ix = .int .i64 j ∧ j ≤ m ∧ sv = .int .i64 ((Ab.sm K j : Nat) : Int) ∧ Ab.sm K j ≤ 16 * j ∧ w.grownBy wr none) (fun _ ix _ => m - (intOf ix).toNat)
  case atStart => exact ⟨0, rfl, Nat.zero_le _, rfl, by simp [Ab.sm], World.grownBy.refl _ _⟩
  case round =>
    obtain ⟨j, rfl, hj, rfl, hb, hg⟩ := hrel
    have HG : Hid (w.grownBy wr none) := hg
    by_cases hjm : j < m
    · have hjm' : (j : Int) < m := by omega
      obtain ⟨lb, lo, hla, _, hci⟩ := (HL.out wr hg).at hjm
      subst hla
      have hk := HKb.out j hjm
      have HW1 : Hid (Calls Try.prog 27 #[.slice a n c, .int .i64 (L j)] wr fun e w' => ∃ ka kc oa on oc, e = .returned (.tuple #[.slice ka (K j) kc, .slice oa on oc, .bool true]) ∧ wr.grownBy w' none) := HWd.out wr j hg hjm
      have HS : Hid (Ab.sm K (j + 1) = Ab.sm K j + K j) := rfl
      clear hg
      generalize L j = y at *
      generalize Ab.sm K j = S at *
      generalize K j = q at *
      have hq' : (q : Int) ≤ 16 := by omega
      have hS' : (S : Int) ≤ 128 := by omega
      go_wp2_with (go_at_call 27; refine HW1.out.mono ?_; rintro e w3 ⟨ka, kc, oa, on, oc, rfl, hg3⟩)
      go_roundw
      case rel => exact ⟨j + 1, by go_num, by omega, congrArg (Value.int .i64) (by have := HS.out; omega), by have := HS.out; omega, grown_trans HG.out hg3⟩
      case measure => simp [intOf]; omega
    · obtain rfl : j = m := by omega
      rw [← HZ.out]
      clear hg
      go_wp2_with fail
      go_ret
      exact ⟨rfl, HG.out⟩
set_option maxRecDepth 100000 in
set_option maxHeartbeats 4000000 in
theorem apart_any {w : World} {a : Option Addr} {l : List Ab.Pc} {c : Nat} (h : PcIn w a l.length c (fun i => l.getD i Ab.pc0)) (hA : Ab.Apt l) (hl : (l.length : Int) ≤ 1000) :
    Calls Try.prog 16 #[.slice a l.length c] w fun e w' => e = .returned (.bool true) ∧ w.grownBy w' none := by
  have hle := h.le
  have H : Hid (∀ W, w.grownBy W none → PcIn W a l.length c (fun i => l.getD i Ab.pc0)) := fun W g => h.grow g
  have HA : Hid (Ab.Apt l) := hA
  have HF : Hid (∀ i, i < l.length → (Ab.fo (l.take (i + 1))) = Ab.nx (Ab.fo (l.take i)) (l.getD i Ab.pc0)) := fun i hi => by
    rw [List.take_succ_eq_append_getElem hi, Ab.fo_snoc, List.getD_eq_getElem?_getD, List.getElem?_eq_getElem hi]
    rfl
  have HO : Hid (∀ i, i < l.length → Ab.okP (Ab.fo (l.take i)) (l.getD i Ab.pc0)) := fun i hi => by
    rw [List.getD_eq_getElem?_getD, List.getElem?_eq_getElem hi]
    exact hA i hi
  clear h hA HA
  generalize hn : l.length = n at *
  clear hn
  go_enter Try.func16, Try.ntmps16
  go_wp2_with fail
  go_loopw [3, 4, 5] (fun rv sv ix wr => ∃ i : Nat, ix = .int .i64 i ∧ i ≤ n ∧ rv = .int .i64 ((Ab.fo (l.take i)).1 : Int) ∧ sv = .int .i64 (Ab.fo (l.take i)).2 ∧ (Ab.fo (l.take i)).1 ≤ 6 ∧ w.grownBy wr none) (fun _ _ ix _ => n - (intOf ix).toNat)
  case atStart => exact ⟨0, rfl, Nat.zero_le _, rfl, rfl, Nat.zero_le _, World.grownBy.refl _ _⟩
  case round =>
    obtain ⟨i, rfl, hi, rfl, rfl, h6, hg⟩ := hrel
    have HG : Hid (w.grownBy wr none) := hg
    by_cases hin : i < n
    · have hin' : (i : Int) < n := by omega
      rcases (H.out wr hg).lie with h0 | ⟨b, off, e1, hc1⟩
      · omega
      subst e1
      obtain ⟨c1, c2⟩ := hc1 i hin
      have ho := HO.out i hin
      have hf := HF.out i hin
      obtain ⟨x, hx⟩ : ∃ x, x = Ab.fo (l.take i) := ⟨_, rfl⟩
      rw [← hx] at ho hf h6 ⊢
      generalize l.getD i Ab.pc0 = p at *
      clear hx hc1 hg
      obtain ⟨r, q⟩ := x
      obtain ⟨pst, pn⟩ := p
      try simp only at c1
      try simp only at c2
      try simp only at h6
      try simp only
      cases pst
      · have ho' : pn = (r : Int) ∧ r < 6 := ho
        obtain ⟨rfl, hr⟩ := ho'
        have HFx : Hid (Ab.fo (l.take (i + 1)) = (r + 1, q)) := hf
        have hr' : (r : Int) < 6 := by omega
        have hr2 : ((r : Int) != (r : Int)) = false := by simp
        clear hf ho
        go_wp2_with fail
        go_roundw
        case rel => exact ⟨i + 1, by go_num, by omega, by rw [HFx.out]; go_num, by rw [HFx.out], by rw [HFx.out]; show r + 1 ≤ 6; omega, HG.out⟩
        case measure => simp [intOf]; omega
      · have ho' : q < pn := ho
        have HFx : Hid (Ab.fo (l.take (i + 1)) = (r, pn)) := hf
        clear hf ho
        go_wp2_with fail
        go_roundw
        case rel => exact ⟨i + 1, by go_num, by omega, by rw [HFx.out], by rw [HFx.out], by rw [HFx.out]; exact h6, HG.out⟩
        case measure => simp [intOf]; omega
    · obtain rfl : i = n := by omega
      clear hg
      go_wp2_with fail
      go_ret
      exact ⟨rfl, HG.out⟩
section
variable {P : Program} {ops : Array Oper} {R : World → World → Prop}
def dstR (ops : Array Oper) (n sz : Nat) : Bool :=
  (List.range n).all fun i => (match dstOf ops i with | some d => decide (d < sz) | none => true) && (List.range n).all fun j => i == j || dstOf ops i == none || !(dstOf ops i == dstOf ops j)
theorem dstR_lt {n sz i d : Nat} (h : dstR ops n sz = true) (hi : i < n) (hd : dstOf ops i = some d) : d < sz := by
  have h1 := List.all_eq_true.1 h i (List.mem_range.2 hi)
  simp only [hd, Bool.and_eq_true, decide_eq_true_eq] at h1
  exact h1.1
theorem dstR_ne {n sz i j d : Nat} (h : dstR ops n sz = true) (hi : i < n) (hj : j < n) (hij : i ≠ j) (hd : dstOf ops i = some d) : dstOf ops j ≠ some d := by
  have h1 := List.all_eq_true.1 h i (List.mem_range.2 hi)
  simp only [Bool.and_eq_true] at h1
  have h2 := List.all_eq_true.1 h1.2 j (List.mem_range.2 hj)
  simp only [hd, Bool.or_eq_true, beq_iff_eq, hij, false_or, Bool.not_eq_true', beq_eq_false_iff_ne] at h2
  rcases h2 with h2 | h2
  · simp at h2
  · exact fun e => h2 e.symm
/-- what an operation's run must show -/
def outR (P : Program) (ops : Array Oper) (R : World → World → Prop) (Ψ : Nat → Value → World → Prop) (i : Nat) (w : World) : Result Next → Prop
  | .ok (.value v) w' => (dstOf ops i).isSome = true ∧ R w w' ∧ Ψ i v w'
  | .ok .skip w' => R w w' ∧ Ψ i undef w'
  | .ok (.enter f args) w' => (dstOf ops i).isSome = true ∧ Calls P f args w' (fun e w'' => ∃ v, e = .returned v ∧ R w w'' ∧ Ψ i v w'')
  | _ => False
theorem outR_val {Ψ : Nat → Value → World → Prop} {i : Nat} {w w' : World} {v : Value} {r : Result Next} (hd : (dstOf ops i).isSome = true) (hr : r = .ok (.value v) w') (hg : R w w') (hv : Ψ i v w') : outR P ops R Ψ i w r := by
  rw [hr]; exact ⟨hd, hg, hv⟩
theorem outR_call {Ψ : Nat → Value → World → Prop} {i : Nat} {w : World} {f : FuncId} {args : Array Value} {r : Result Next} (hd : (dstOf ops i).isSome = true) (hr : r = .ok (.enter f args) w) (hc : Calls P f args w fun e w'' => ∃ v, e = .returned v ∧ R w w'' ∧ Ψ i v w'') : outR P ops R Ψ i w r := by
  rw [hr]; exact ⟨hd, hc⟩
end
end Go.Proofs.Ytdfjaedafampaaa
