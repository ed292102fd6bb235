/- Contracts and plain facts that the walks share, text by text: LkPure, RcLeaf, RcA, RcDefs, MRead, MWrite, MRoom, MNew, MLoad, MStore, MGet, MHelp, RcF, RcT. -/
import Derived.Test.YtkiockffejlnhaaGreatDoorG1
import Derived.Handy
import Derived.StillTailTactics
import Derived.Deep.RegionWith
import Derived.OwnWalk
import Derived.Laws.CopyOwn
import Derived.Laws.AppendOwnNone
import Derived.Deep.QuietTactic
import Derived.BigQuiet
/- Linking, as plain numbers: sizes of jumps that grow until all fit; the least way. -/
namespace Go.Proofs.YtkiockffejlnhaaGreatDoor
set_option linter.unusedVariables false
namespace Lk
def pos (s : Nat → Int) : Nat → Int
  | 0 => 0
  | k + 1 => pos s k + s k
theorem pos_succ (s : Nat → Int) (k : Nat) : pos s (k + 1) = pos s k + s k := rfl
def fitB (x : Int) : Bool := decide (-128 ≤ x) && decide (x < 128)
theorem fitB_iff {x : Int} : fitB x = true ↔ -128 ≤ x ∧ x < 128 := by unfold fitB; simp
theorem fitB_no {x : Int} : fitB x = false ↔ x < -128 ∨ 128 ≤ x := by
  rw [← Bool.not_eq_true, fitB_iff]; omega
structure Sh where
  n : Nat
  j : Nat → Bool
  tg : Nat → Nat
  s : Nat → Int
  g : Int
structure Sh.Ok (P : Sh) : Prop where
  tg : ∀ i, i < P.n → P.j i = true → P.tg i ≤ P.n
  one : ∀ i, i < P.n → 1 ≤ P.s i
  le : ∀ i, i < P.n → P.j i = true → P.s i ≤ P.g
def Sh.size (P : Sh) (L : Nat → Bool) (i : Nat) : Int := if P.j i && L i then P.g else P.s i
def Sh.imm (P : Sh) (L : Nat → Bool) (i : Nat) : Int := pos (P.size L) (P.tg i) - pos (P.size L) (i + 1)
def Sh.over (P : Sh) (i m : Nat) : Int := if i < m ∧ m < P.tg i then 1 else if P.tg i ≤ m ∧ m < i then -1 else 0
def with1 (L : Nat → Bool) (m : Nat) : Nat → Bool := fun i => L i || decide (i = m)
def Sh.Closed (P : Sh) (L : Nat → Bool) : Prop := ∀ i, i < P.n → P.j i = true → fitB (P.imm L i) = false → L i = true
structure Sh.Least (P : Sh) (L : Nat → Bool) : Prop where
  cl : P.Closed L
  le : ∀ C, P.Closed C → ∀ i, i < P.n → P.j i = true → L i = true → C i = true
theorem pos_congr {s s' : Nat → Int} : ∀ {k : Nat}, (∀ i, i < k → s i = s' i) → pos s k = pos s' k
  | 0, _ => rfl
  | k + 1, h => by unfold pos; rw [pos_congr (fun i hi => h i (by omega)), h k (by omega)]
theorem pos_le {s s' : Nat → Int} {a : Nat} : ∀ {b : Nat}, a ≤ b → (∀ i, a ≤ i → i < b → s i ≤ s' i) → pos s b - pos s a ≤ pos s' b - pos s' a
  | 0, h, _ => by have : a = 0 := by omega
                  subst this; simp
  | b + 1, h, hs => by
    by_cases e : a = b + 1
    · subst e; simp
    · have := pos_le (b := b) (by omega) (fun i h1 h2 => hs i h1 (by omega))
      have h2 := hs b (by omega) (by omega)
      rw [pos_succ, pos_succ]
      omega
theorem pos_count {s : Nat → Int} {a : Nat} : ∀ {b : Nat}, a ≤ b → (∀ i, a ≤ i → i < b → 1 ≤ s i) → ((b : Int) - a) ≤ pos s b - pos s a
  | 0, h, _ => by have : a = 0 := by omega
                  subst this; simp
  | b + 1, h, hs => by
    by_cases e : a = b + 1
    · subst e; simp
    · have := pos_count (b := b) (by omega) (fun i h1 h2 => hs i h1 (by omega))
      have h2 := hs b (by omega) (by omega)
      rw [pos_succ]
      omega
theorem Sh.Ok.size1 {P : Sh} (h : P.Ok) (L : Nat → Bool) {i : Nat} (hi : i < P.n) : 1 ≤ P.size L i := by
  unfold Sh.size
  have h1 := h.one i hi
  split
  · next hh => have := h.le i hi (by simp at hh; exact hh.1); omega
  · exact h1
theorem Sh.Ok.size_mono {P : Sh} (h : P.Ok) {L L' : Nat → Bool} (hl : ∀ i, i < P.n → P.j i = true → L i = true → L' i = true) {i : Nat} (hi : i < P.n) : P.size L i ≤ P.size L' i := by
  unfold Sh.size
  have h1 := h.le i hi
  have h2 := hl i hi
  cases hj : P.j i <;> cases hL : L i <;> cases hL' : L' i <;> simp_all
theorem Sh.Ok.far_mono {P : Sh} (h : P.Ok) {L L' : Nat → Bool} (hl : ∀ i, i < P.n → P.j i = true → L i = true → L' i = true) {i : Nat} (hi : i < P.n) (hj : P.j i = true) (hf : fitB (P.imm L i) = false) : fitB (P.imm L' i) = false := by
  rw [fitB_no] at hf ⊢
  have ht := h.tg i hi hj
  unfold Sh.imm at hf ⊢
  by_cases hd : i + 1 ≤ P.tg i
  · have h1 := pos_le hd (s := P.size L) (s' := P.size L') (fun k _ hk => h.size_mono hl (by omega))
    have h2 := pos_count hd (s := P.size L) (fun k _ hk => h.size1 L (by omega))
    omega
  · have h1 := pos_le (a := P.tg i) (b := i + 1) (by omega) (s := P.size L) (s' := P.size L') (fun k _ hk => h.size_mono hl (by omega))
    have h2 := pos_count (a := P.tg i) (b := i + 1) (by omega) (s := P.size L) (fun k _ hk => h.size1 L (by omega))
    omega
theorem Sh.Least.far {P : Sh} (h : P.Ok) {L : Nat → Bool} (hl : P.Least L) {i : Nat} (hi : i < P.n) (hj : P.j i = true) : L i = !fitB (P.imm L i) := by
  have hc : P.Closed (fun k => P.j k && decide (k < P.n) && !fitB (P.imm L k)) := by
    intro k hk hkj hf
    have : fitB (P.imm L k) = false := by
      refine h.far_mono (fun m hm hmj hx => ?_) hk hkj hf
      simp at hx
      exact hl.cl m hm hmj hx.2
    simp [hkj, hk, this]
  cases hL : L i
  · cases hf : fitB (P.imm L i)
    · have := hl.cl i hi hj hf
      rw [hL] at this
      cases this
    · rfl
  · have := hl.le _ hc i hi hj hL
    simp at this
    rw [this.2]
    rfl
theorem Sh.Least.same {P : Sh} {L L' : Nat → Bool} (hl : P.Least L) (hl' : P.Least L') {i : Nat} (hi : i < P.n) : P.size L i = P.size L' i := by
  unfold Sh.size
  cases hj : P.j i
  · simp
  · have e : L i = L' i := by
      cases hL : L i <;> cases hL' : L' i
      · rfl
      · have := hl'.le L hl.cl i hi hj hL'
        rw [hL] at this; cases this
      · have := hl.le L' hl'.cl i hi hj hL
        rw [hL'] at this; cases this
      · rfl
    rw [e]
theorem pos_with (P : Sh) (L : Nat → Bool) (m : Nat) (hj : P.j m = true) : ∀ k, pos (P.size (with1 L m)) k = pos (P.size L) k + if m < k then P.g - P.size L m else 0
  | 0 => by simp [pos]
  | k + 1 => by
    unfold pos
    rw [pos_with P L m hj k]
    by_cases e : k = m
    · subst e
      have : P.size (with1 L k) k = P.g := by unfold Sh.size with1; simp [hj]
      rw [this]
      simp
      omega
    · have : P.size (with1 L m) k = P.size L k := by unfold Sh.size with1; simp [e]
      rw [this]
      by_cases hk : m < k
      · rw [if_pos hk, if_pos (by omega)]; omega
      · rw [if_neg hk, if_neg (by omega)]; omega
theorem imm_with (P : Sh) (L : Nat → Bool) (m : Nat) (hj : P.j m = true) {i : Nat} (hi : i ≠ m) : P.imm (with1 L m) i = P.imm L i + (P.g - P.size L m) * P.over i m := by
  unfold Sh.imm Sh.over
  rw [pos_with P L m hj, pos_with P L m hj]
  by_cases h1 : m < P.tg i <;> by_cases h2 : m < i + 1
  · rw [if_pos h1, if_pos h2, if_neg (by omega), if_neg (by omega)]; omega
  · rw [if_pos h1, if_neg h2, if_pos (by omega)]; omega
  · rw [if_neg h1, if_pos h2, if_neg (by omega), if_pos (by omega)]; omega
  · rw [if_neg h1, if_neg h2, if_neg (by omega), if_neg (by omega)]; omega
theorem over_far {P : Sh} (h : P.Ok) (L : Nat → Bool) {i m : Nat} (hi : i < P.n) (hj : P.j i = true) (hf : fitB (P.imm L i) = true) (hw : i + 128 < m ∨ m + 128 < i) : P.over i m = 0 := by
  rw [fitB_iff] at hf
  have ht := h.tg i hi hj
  unfold Sh.imm at hf
  unfold Sh.over
  by_cases h1 : i < m ∧ m < P.tg i
  · have h2 := pos_count (a := i + 1) (b := P.tg i) (by omega) (s := P.size L) (fun k _ hk => h.size1 L (by omega))
    omega
  · rw [if_neg h1]
    by_cases h3 : P.tg i ≤ m ∧ m < i
    · have h2 := pos_count (a := P.tg i) (b := i + 1) (by omega) (s := P.size L) (fun k _ hk => h.size1 L (by omega))
      omega
    · rw [if_neg h3]
structure St (P : Sh) (L : Nat → Bool) (J : Nat → Int) (Q : Nat → Prop) : Prop where
  fits : ∀ i, i < P.n → P.j i = true → fitB (J i) = true → J i = P.imm L i
  none : ∀ i, i < P.n → P.j i = false → J i = 0
  far : ∀ i, i < P.n → P.j i = true → fitB (J i) = false → fitB (P.imm L i) = false ∧ (L i = true ∨ Q i)
  long : ∀ i, i < P.n → P.j i = true → L i = true → fitB (J i) = false
  must : ∀ i, i < P.n → P.j i = true → fitB (J i) = false → ∀ C, P.Closed C → C i = true
theorem St.least {P : Sh} {L : Nat → Bool} {J : Nat → Int} {Q : Nat → Prop} (h : St P L J Q) (hq : ∀ i, i < P.n → P.j i = true → ¬ Q i) : P.Least L where
  cl := fun i hi hj hf => by
    cases hJ : fitB (J i)
    · rcases (h.far i hi hj hJ).2 with h1 | h1
      · exact h1
      · exact absurd h1 (hq i hi hj)
    · rw [← h.fits i hi hj hJ, hJ] at hf
      cases hf
  le := fun C hC i hi hj hL => h.must i hi hj (h.long i hi hj hL) C hC
def bump (P : Sh) (L : Nat → Bool) (J : Nat → Int) (m : Nat) (i : Nat) : Int := if fitB (J i) then J i + (P.g - P.size L m) * (if P.j i then P.over i m else 0) else J i
theorem St.bump {P : Sh} (h : P.Ok) {L : Nat → Bool} {J : Nat → Int} {Q : Nat → Prop} (st : St P L J Q) {m : Nat} (hm : m < P.n) (hmj : P.j m = true) (hmf : fitB (J m) = false) :
    St P (with1 L m) (bump P L J m) (fun i => (Q i ∧ i ≠ m) ∨ (fitB (J i) = true ∧ fitB (bump P L J m i) = false)) := by
  have hmono : ∀ i, i < P.n → P.j i = true → L i = true → with1 L m i = true := fun i _ _ h => by unfold with1; simp [h]
  have hb : ∀ i, i < P.n → P.j i = true → fitB (J i) = true → Lk.bump P L J m i = P.imm (with1 L m) i := fun i hi hj hf => by
    have : i ≠ m := by intro e; subst e; rw [hf] at hmf; cases hmf
    unfold Lk.bump
    rw [if_pos hf, if_pos hj, imm_with P L m hmj this, st.fits i hi hj hf]
  refine ⟨fun i hi hj hf => ?_, fun i hi hj => ?_, fun i hi hj hf => ?_, fun i hi hj hL => ?_, fun i hi hj hf C hC => ?_⟩
  · cases hJ : fitB (J i)
    · unfold Lk.bump at hf
      rw [hJ] at hf
      simp at hf
      rw [hJ] at hf
      cases hf
    · exact hb i hi hj hJ
  · have := st.none i hi hj
    unfold Lk.bump
    rw [hj, this]
    simp
  · cases hJ : fitB (J i)
    · have := st.far i hi hj hJ
      refine ⟨h.far_mono hmono hi hj this.1, ?_⟩
      rcases this.2 with h1 | h1
      · exact .inl (hmono i hi hj h1)
      · by_cases e : i = m
        · exact .inl (by unfold with1; simp [e])
        · exact .inr (.inl ⟨h1, e⟩)
    · have e := hb i hi hj hJ
      rw [e] at hf
      exact ⟨hf, .inr (.inr ⟨rfl, by rw [e]; exact hf⟩)⟩
  · have : fitB (J i) = false := by
      by_cases e : i = m
      · subst e; exact hmf
      · refine st.long i hi hj ?_
        unfold with1 at hL
        simpa [e] using hL
    unfold Lk.bump
    rw [this]
    simpa using this
  · cases hJ : fitB (J i)
    · exact st.must i hi hj hJ C hC
    · rw [hb i hi hj hJ] at hf
      refine hC i hi hj (h.far_mono (fun k hk hkj hL => ?_) hi hj hf)
      by_cases e : k = m
      · subst e; exact st.must k hk hkj hmf C hC
      · refine st.must k hk hkj (st.long k hk hkj ?_) C hC
        unfold with1 at hL
        simpa [e] using hL
theorem St.start {P : Sh} (h : P.Ok) : St P (fun _ => false) (fun i => if P.j i then P.imm (fun _ => false) i else 0) (fun i => fitB (P.imm (fun _ => false) i) = false) where
  fits := fun i hi hj _ => by simp [hj]
  none := fun i hi hj => by simp [hj]
  far := fun i hi hj hf => by
    simp only [hj, if_true] at hf
    exact ⟨hf, .inr hf⟩
  long := fun i hi hj hL => by cases hL
  must := fun i hi hj hf C hC => by
    simp only [hj, if_true] at hf
    exact hC i hi hj (h.far_mono (fun _ _ _ h => by cases h) hi hj hf)
theorem bump_near {P : Sh} (h : P.Ok) {L : Nat → Bool} {J : Nat → Int} {Q : Nat → Prop} (st : St P L J Q) {m i : Nat} (hi : i < P.n) (hw : i + 128 < m ∨ m + 128 < i) : bump P L J m i = J i := by
  unfold bump
  split
  · next hf =>
    split
    · next hj => rw [over_far h L hi hj (by rw [← st.fits i hi hj hf]; exact hf) hw]; simp
    · simp
  · rfl
def cnt (J : Nat → Int) : Nat → Nat
  | 0 => 0
  | k + 1 => cnt J k + if fitB (J k) then 1 else 0
theorem cnt_le (J : Nat → Int) : ∀ k, cnt J k ≤ k
  | 0 => Nat.le_refl _
  | k + 1 => by have := cnt_le J k; unfold cnt; split <;> omega
theorem cnt_congr {J J' : Nat → Int} : ∀ {k : Nat}, (∀ i, i < k → fitB (J i) = fitB (J' i)) → cnt J k = cnt J' k
  | 0, _ => rfl
  | k + 1, h => by unfold cnt; rw [cnt_congr (fun i hi => h i (by omega)), h k (by omega)]
theorem cnt_drop {J J' : Nat → Int} {m : Nat} (h1 : fitB (J m) = true) (h2 : fitB (J' m) = false) : ∀ {k : Nat}, m < k → (∀ i, i < k → i ≠ m → fitB (J i) = fitB (J' i)) → cnt J k = cnt J' k + 1
  | 0, h, _ => by omega
  | k + 1, hk, h => by
    by_cases e : m = k
    · subst e
      unfold cnt
      rw [h1, h2, cnt_congr (fun i hi => h i (by omega) (by omega))]
      simp
    · unfold cnt
      rw [cnt_drop h1 h2 (k := k) (by omega) (fun i hi => h i (by omega)), h k (by omega) (by omega)]
      omega
def part (J J' : Nat → Int) (k : Nat) (i : Nat) : Int := if i < k then J' i else J i
end Lk
end Go.Proofs.YtkiockffejlnhaaGreatDoor

/- Small functions of risc, gantryref3 and gantrylaw3: contracts. -/
namespace Go.Proofs.YtkiockffejlnhaaGreatDoor
open Go.RowKit
set_option linter.unusedVariables false
set_option maxHeartbeats 400000 in
theorem isReg_any (k : Int) (w : World) :
    Calls Tryz.prog 110 #[.int .i64 k] w fun e w' => e = .returned (.bool (Rc.regB k)) ∧ w' = w := by
  go_enter Tryz.func110, Tryz.ntmps110
  go_wp2
  all_goals (go_ret; refine ⟨ret_bool ?_, rfl⟩; simp only [Rc.regB] at *; first | (rw [Bool.eq_iff_iff]; simp at *; omega))
set_option maxHeartbeats 400000 in
theorem rreg_any (k : Int) (w : World) :
    Calls Tryz.prog 95 #[.int .i64 k] w fun e w' => e = .returned (.bool (Rc.regB k)) ∧ w' = w := by
  go_enter Tryz.func95, Tryz.ntmps95
  go_wp2
  all_goals (go_ret; refine ⟨ret_bool ?_, rfl⟩; simp only [Rc.regB] at *; first | (rw [Bool.eq_iff_iff]; simp at *; omega))
set_option maxHeartbeats 400000 in
theorem rsmall_any (k : Int) (w : World) :
    Calls Tryz.prog 71 #[.int .i64 k] w fun e w' => e = .returned (.bool (Rc.smallB k)) ∧ w' = w := by
  go_enter Tryz.func71, Tryz.ntmps71
  go_wp2
  all_goals (go_ret; refine ⟨ret_bool ?_, rfl⟩; simp only [Rc.smallB] at *; first | (rw [Bool.eq_iff_iff]; simp at *; omega))
set_option maxHeartbeats 400000 in
theorem join_any (k s : Int) (w : World) :
    Calls Tryz.prog 109 #[.int .i64 k, .int .i64 s] w fun e w' => e = .returned (.int .i64 (wrap64 (k + 256 * s))) ∧ w' = w := by
  go_enter Tryz.func109, Tryz.ntmps109
  go_wp2
  go_ret
  refine ⟨ret_i64 ?_, rfl⟩
  unfold wrap64; omega
set_option maxHeartbeats 400000 in
theorem fields_any (op : Int) (w : World) :
    Calls Tryz.prog 94 #[.int .i64 op] w fun e w' => e = .returned (.string (Rc.fld op)) ∧ w' = w := by
  go_enter Tryz.func94, Tryz.ntmps94
  go_wp2
  all_goals (go_ret; refine ⟨?_, rfl⟩; simp only [beq_iff_eq, beq_eq_false_iff_ne] at *; unfold Rc.fld; simp [*])
end Go.Proofs.YtkiockffejlnhaaGreatDoor

/- has, unused, part, fits: contracts. -/
namespace Go.Proofs.YtkiockffejlnhaaGreatDoor
open Go.RowKit
set_option linter.unusedVariables false
namespace Mm
theorem and_255i (n : Int) : bits .and .i64 n 255 = n % 256 := by
  show IntKind.i64.wrap ((BitVec.ofInt 64 n &&& BitVec.ofInt 64 255).toNat : Int) = _
  have e : (BitVec.ofInt 64 n &&& BitVec.ofInt 64 255).toNat = (n % 256).toNat := by
    rw [BitVec.toNat_and, BitVec.toNat_ofInt, show (BitVec.ofInt 64 255).toNat = 2 ^ 8 - 1 from rfl, Nat.and_two_pow_sub_one_eq_mod]
    omega
  rw [e, IntKind.wrap_i64]
  omega
end Mm
namespace Rc
theorem has_true {s : ByteArray} {c : Int} {k : Nat} (hk : k < s.size) (h : ((s[k].toNat : Int) == c) = true) : hasS s c = true := by
  unfold hasS
  rw [List.any_eq_true]
  exact ⟨s[k], by simp [ByteArray.getElem_eq_getElem_data], h⟩
theorem has_false {s : ByteArray} {c : Int} (h : ∀ k (hk : k < s.size), ((s[k].toNat : Int) == c) = false) : hasS s c = false := by
  unfold hasS
  rw [List.any_eq_false]
  intro x hx
  obtain ⟨k, hk, rfl⟩ := List.getElem_of_mem hx
  have := h k (by simpa using hk)
  rw [ByteArray.getElem_eq_getElem_data] at this
  simp only [Array.getElem_toList]
  rw [this]; simp
end Rc
set_option maxHeartbeats 400000 in
theorem part_any (n : Int) (w : World) (h1 : -9223372036854775808 ≤ n) (h2 : n ≤ 9223372036854775807) :
    Calls Tryz.prog 76 #[.int .i64 n] w fun e w' => e = .returned (.tuple #[.int .i64 (n % 256), .int .i64 (n / 256)]) ∧ w' = w := by
  have HB : Hid (bits .and .i64 n 255 = n % 256) := Mm.and_255i n
  go_enter Tryz.func76, Tryz.ntmps76
  go_wp2
  go_ret2
  refine ⟨?_, rfl⟩
  rw [← HB.out]; rfl
set_option maxHeartbeats 400000 in
theorem ffits_any (c a b k n : Int) (w : World) :
    Calls Tryz.prog 78 #[.agg #[.int .i64 c, .int .i64 a, .int .i64 b, .int .i64 k, .int .i64 n]] w fun e w' => e = .returned (.bool (Rc.smallB n)) ∧ w.grownBy w' none := by
  go_enter Tryz.func78, Tryz.ntmps78
  go_wp2
  go_ret
  refine ⟨ret_bool ?_, World.grownBy_alloc _ _ _⟩
  unfold Rc.smallB wrap64 wrap32
  rw [Bool.eq_iff_iff]; simp; omega
set_option maxHeartbeats 400000 in
theorem has_any (s : ByteArray) (c : Int) (w : World) (hs : s.size ≤ 1000) :
    Calls Tryz.prog 97 #[.string s, .int .u8 c] w fun e w' => e = .returned (.bool (Rc.hasS s c)) ∧ w' = w := by
  go_enter Tryz.func97, Tryz.ntmps97
  go_wp2
  go_loopw [5] (fun i wr => ∃ k : Nat, k ≤ s.size ∧ i = .int .i64 k ∧ wr = w ∧ ∀ j (hj : j < s.size), j < k → ((s[j].toNat : Int) == c) = false) (fun i _ => s.size - (intOf i).toNat)
  case atStart => exact ⟨0, Nat.zero_le _, rfl, rfl, fun _ _ h => absurd h (Nat.not_lt_zero _)⟩
  case round =>
    obtain ⟨k, hk, rfl, rfl, hf⟩ := hrel
    have HF : Hid (∀ j (hj : j < s.size), j < k → ((s[j].toNat : Int) == c) = false) := hf
    clear hf
    by_cases hlt : k < s.size
    · cases hc : ((s[k].toNat : Int) == c)
      · go_wp2
        go_roundw
        case rel =>
          refine ⟨k + 1, by omega, by go_num, trivial, fun j hj h => ?_⟩
          by_cases e : j = k
          · subst e; exact hc
          · exact HF.out j hj (by omega)
        case measure => simp [intOf]; omega
      · have HT : Hid (Rc.hasS s c = true) := Rc.has_true hlt hc
        go_wp2
        go_ret
        exact ⟨ret_bool HT.out.symm, rfl⟩
    · have HT : Hid (Rc.hasS s c = false) := Rc.has_false fun j hj => HF.out j hj (by omega)
      go_wp2
      go_ret
      exact ⟨ret_bool HT.out.symm, rfl⟩
set_option maxHeartbeats 400000 in
theorem unused_any (s : ByteArray) (c n : Int) (w : World) (hs : s.size ≤ 1000) :
    Calls Tryz.prog 96 #[.string s, .int .u8 c, .int .i64 n] w fun e w' => e = .returned (.bool (Rc.hasS s c || n == 0)) ∧ w' = w := by
  cases hh : Rc.hasS s c
  all_goals
    go_enter Tryz.func96, Tryz.ntmps96
    go_wp2_with (go_at_call 97; refine (has_any _ _ _ hs).mono ?_; rw [hh]; rintro e w' ⟨rfl, rfl⟩)
    go_ret
    exact ⟨rfl, rfl⟩
end Go.Proofs.YtkiockffejlnhaaGreatDoor

/- Forms of R64's instructions, as plain numbers and as values; what the walks of this layer share. -/
namespace Go.Proofs.YtkiockffejlnhaaGreatDoor
open Go.RowKit
set_option linter.unusedVariables false
structure FmV where
  code : Int
  a : Int
  b : Int
  c : Int
  n : Int
namespace Rc
def pk (v : InV) : FmV :=
  if v.op = 1 ∨ v.op = 2 ∨ v.op = 20 ∨ v.op = 21 then ⟨v.op, v.a, 0, 0, v.imm⟩ else if v.op = 3 ∨ v.op = 26 then ⟨v.op, v.a, v.b, 0, 0⟩
  else if v.op = 4 then ⟨v.op, v.a, v.b, v.c, wrap64 (v.k + 256 * v.sub)⟩ else if v.op = 7 ∨ v.op = 8 then ⟨v.op, v.a, v.b, 0, wrap64 (v.k + 256 * v.sub)⟩
  else if v.op = 9 then ⟨v.op, v.a, v.b, 0, v.imm⟩ else if v.op = 11 ∨ v.op = 13 then ⟨v.op, v.a, v.b, v.k, v.imm⟩ else if v.op = 15 then ⟨v.op, v.a, v.b, v.c, v.imm⟩
  else if v.op = 19 ∨ v.op = 23 ∨ v.op = 25 ∨ v.op = 29 then ⟨v.op, 0, 0, 0, v.imm⟩ else if v.op = 27 ∨ v.op = 28 then ⟨v.op, v.a, 0, 0, 0⟩ else if v.op = 24 then ⟨v.op, 0, 0, 0, 0⟩ else ⟨0, 0, 0, 0, 0⟩
def unpk (f : FmV) : InV :=
  if f.code = 1 ∨ f.code = 2 ∨ f.code = 20 ∨ f.code = 21 then ⟨f.code, f.a, 0, 0, 0, 0, 0, f.n, 0⟩ else if f.code = 3 ∨ f.code = 26 then ⟨f.code, f.a, f.b, 0, 0, 0, 0, 0, 0⟩
  else if f.code = 4 then ⟨f.code, f.a, f.b, f.c, f.n % 256, f.n / 256, 0, 0, 0⟩ else if f.code = 7 ∨ f.code = 8 then ⟨f.code, f.a, f.b, 0, f.n % 256, f.n / 256, 0, 0, 0⟩
  else if f.code = 9 then ⟨f.code, f.a, f.b, 0, 0, 0, 0, f.n, 0⟩ else if f.code = 11 ∨ f.code = 13 then ⟨f.code, f.a, f.b, 0, f.c, 0, 0, f.n, 0⟩ else if f.code = 15 then ⟨f.code, f.a, f.b, f.c, 0, 0, 0, f.n, 0⟩
  else if f.code = 19 ∨ f.code = 23 ∨ f.code = 25 ∨ f.code = 29 then ⟨f.code, 0, 0, 0, 0, 0, 0, f.n, 0⟩ else if f.code = 27 ∨ f.code = 28 then ⟨f.code, f.a, 0, 0, 0, 0, 0, 0, 0⟩ else if f.code = 24 then ⟨f.code, 0, 0, 0, 0, 0, 0, 0, 0⟩ else ⟨0, 0, 0, 0, 0, 0, 0, 0, 0⟩
end Rc
def inst (v : InV) : Value := .agg #[.int .i64 v.op, .int .i64 v.a, .int .i64 v.b, .int .i64 v.c, .int .i64 v.k, .int .i64 v.sub, .int .i64 v.scale, .int .i64 v.imm, .int .i64 v.label]
def formv (f : FmV) : Value := .agg #[.int .i64 f.code, .int .i64 f.a, .int .i64 f.b, .int .i64 f.c, .int .i64 f.n]
namespace Rc
theorem ops (o : Int) : o = 1 ∨ o = 2 ∨ o = 20 ∨ o = 21 ∨ o = 3 ∨ o = 26 ∨ o = 4 ∨ o = 7 ∨ o = 8 ∨ o = 9 ∨ o = 11 ∨ o = 13 ∨ o = 15 ∨ o = 19 ∨ o = 23 ∨ o = 25 ∨ o = 29 ∨ o = 27 ∨ o = 28 ∨ o = 24 ∨ ((o == 1) = false ∧ (o == 2) = false ∧ (o == 20) = false ∧ (o == 21) = false ∧ (o == 3) = false ∧ (o == 26) = false ∧ (o == 4) = false ∧ (o == 7) = false ∧ (o == 8) = false ∧ (o == 9) = false ∧ (o == 11) = false ∧ (o == 13) = false ∧ (o == 15) = false ∧ (o == 19) = false ∧ (o == 23) = false ∧ (o == 25) = false ∧ (o == 29) = false ∧ (o == 27) = false ∧ (o == 28) = false ∧ (o == 24) = false) := by
  by_cases h : (o = 1 ∨ o = 2 ∨ o = 20 ∨ o = 21 ∨ o = 3 ∨ o = 26 ∨ o = 4 ∨ o = 7 ∨ o = 8 ∨ o = 9 ∨ o = 11 ∨ o = 13 ∨ o = 15 ∨ o = 19 ∨ o = 23 ∨ o = 25 ∨ o = 29 ∨ o = 27 ∨ o = 28 ∨ o = 24)
  · omega
  · simp only [not_or] at h
    simp only [beq_eq_false_iff_ne]
    right; simp only [ne_eq]; omega
end Rc
theorem grown_alloc2 (w : World) (a b : Obj) : w.grownBy ((w.alloc a).alloc b) none := grown_trans (World.grownBy_alloc _ _ _) (World.grownBy_alloc _ _ _)
theorem grown_drew {w w' : World} {row : Option Nat} (h : w.grownBy w' row) : w.grownBy w'.drew row := grown_trans h ⟨rfl, rfl, rfl, Nat.le_refl _, fun _ _ _ => rfl⟩
theorem tail_drew {P : Program} {id : Nat} {Q : Exit → Act → World → Prop} {a : Act} {w : World} {l : List Oper} (n : Nat) (hm : P.follows .mixedOrders = true) (hB : Region.lexTailB .any l.toArray n = true)
    (h : wpStill P l.toArray w.drew (fun a' => wpList P l.toArray Q (l.drop n) a' w.drew) (l.take n) a) : (Code.region id l.toArray true).wp P Q a w := wp_region_still_tail n hm hB h
theorem ga {w w1 : World} (h : w.grownBy w1 none) (o : Obj) : w.grownBy (w1.alloc o) none := grown_trans h (World.grownBy_alloc _ _ _)
theorem gs {w w1 : World} (h : w.grownBy w1 none) {b : Nat} (i : Nat) (v : Value) (hb : w.heap.size ≤ b) : w.grownBy (w1.setCell ⟨b, i, none⟩ v) none := grown_two h (grown_setCell _ _ _ _) hb
theorem gn {w w1 : World} (h : w.grownBy w1 none) (n : Nat) : w.grownBy (w1.drewN n) none := grown_drewN h n
end Go.Proofs.YtkiockffejlnhaaGreatDoor

/- mem.read and mem.write at each width: contracts. -/
namespace Go.Proofs.YtkiockffejlnhaaGreatDoor
open Go.RowKit
set_option linter.unusedVariables false
end Go.Proofs.YtkiockffejlnhaaGreatDoor

/- mem.write at each width: contracts. -/
namespace Go.Proofs.YtkiockffejlnhaaGreatDoor
open Go.RowKit
set_option linter.unusedVariables false
end Go.Proofs.YtkiockffejlnhaaGreatDoor

/- mem.pick, mem.lay, (*Mem).room, New, Size: contracts. -/
namespace Go.Proofs.YtkiockffejlnhaaGreatDoor
open Go.RowKit
set_option linter.unusedVariables false
theorem IsMem.cell {t : TypeId} {w : World} {B D S : Nat} {m : Nat → Int} (h : IsMem t w B D S m) : w.cell? ⟨B, 0, none⟩ = some (.slice (some ⟨D, 0, none⟩) S S) := h.head.cell (i := 0) (by omega)
end Go.Proofs.YtkiockffejlnhaaGreatDoor

/- mem.New, Size and the page's own New, May: contracts. -/
namespace Go.Proofs.YtkiockffejlnhaaGreatDoor
open Go.RowKit
set_option linter.unusedVariables false
theorem info_u8 : (Tryz.prog.info? 5).map (fun i => (i.zero, i.size, i.bytes)) = some (some (.int .u8 0), 1, 1) := by kernel_rfl
end Go.Proofs.YtkiockffejlnhaaGreatDoor

/- (*Mem).Load, Store: contracts. -/
namespace Go.Proofs.YtkiockffejlnhaaGreatDoor
open Go.RowKit
set_option linter.unusedVariables false
namespace Mm
theorem by_cases (k : Int) : (Wd.wordB k = false ∧ Wd.by' k = 0) ∨ (Wd.wordB k = true ∧ (Wd.by' k = 1 ∨ Wd.by' k = 2 ∨ Wd.by' k = 4 ∨ Wd.by' k = 8)) := by
  rcases Wd.kinds k with h | h | h | h | h | h | h | h | h | h | h | h
  all_goals first
    | (subst h; right; exact ⟨rfl, by decide⟩)
    | (left; constructor
       · unfold Wd.wordB; simp; omega
       · unfold Wd.by' Wd.wid; rw [if_neg (by omega), if_neg (by omega), if_neg (by omega), if_neg (by omega), if_neg (by omega)]; rfl)
end Mm
end Go.Proofs.YtkiockffejlnhaaGreatDoor

/- (*Mem).Store: contract. -/
namespace Go.Proofs.YtkiockffejlnhaaGreatDoor
open Go.RowKit
set_option linter.unusedVariables false
theorem IsMem.put {t : TypeId} {w w' : World} {B D S : Nat} {m m' : Nat → Int} (h : IsMem t w B D S m) (hg : w.grownBy w' (some D)) (ht : t ≠ 5) (hr : w'.rowIs D 5 S (fun i => .int .u8 (m' i))) (hf : Mm.Fit m') : IsMem t w' B D S m' := by
  refine ⟨h.head.of_block (hg.block B h.head.lt ?_), hr, hf⟩
  intro e
  injection e with e
  subst e
  obtain ⟨c, hc, _⟩ := h.head
  obtain ⟨d, hd, _⟩ := h.row
  rw [hc] at hd
  injection hd with hd
  injection hd with _ hd
  exact ht hd
theorem IsMem.apart {t : TypeId} {w : World} {B D S : Nat} {m : Nat → Int} (h : IsMem t w B D S m) (ht : t ≠ 5) : B ≠ D := by
  intro e
  subst e
  obtain ⟨c, hc, _⟩ := h.head
  obtain ⟨d, hd, _⟩ := h.row
  rw [hc] at hd
  injection hd with hd
  injection hd with _ hd
  exact ht hd
end Go.Proofs.YtkiockffejlnhaaGreatDoor

/- (*Mem).Get, Put: contracts. -/
namespace Go.Proofs.YtkiockffejlnhaaGreatDoor
open Go.RowKit
set_option linter.unusedVariables false
def bytesL (n : Nat) (g : Nat → Int) : List Value := (List.range n).map fun i => .int .u8 (g i)
theorem bytesL_len (n : Nat) (g : Nat → Int) : (bytesL n g).length = n := by simp [bytesL]
theorem bytesL_get {n : Nat} {g : Nat → Int} {j : Nat} {v : Value} (h : (bytesL n g)[j]? = some v) : j < n ∧ v = .int .u8 (g j) := by
  have hj : j < n := by
    rw [← bytesL_len n g]
    exact (List.getElem?_eq_some_iff.1 h).1
  refine ⟨hj, ?_⟩
  simp [bytesL, hj] at h
  exact h.symm
theorem bytesL_at {n : Nat} (g : Nat → Int) {j : Nat} (h : j < n) : (bytesL n g)[j]? = some (.int .u8 (g j)) := by simp [bytesL, h]
theorem bytesL_one (n : Nat) (g : Nat → Int) : ∀ v ∈ bytesL n g, v.oneCell' = true := by
  intro v hv
  obtain ⟨i, _, rfl⟩ := List.mem_map.1 hv
  rfl
theorem add_none (b off n : Nat) : (⟨b, off, none⟩ : Addr).add n = ⟨b, off + n, none⟩ := by
  unfold Addr.add; split <;> simp_all
def OwnB (w : World) (base : Nat) (v : Value) (n : Nat) (g : Nat → Int) : Prop := w.ownsRow base 5 1 v n (bytesL n g)
theorem OwnB.kept {w w' : World} {base n : Nat} {v : Value} {g : Nat → Int} {row : Option Nat} (h : OwnB w base v n g) (hg : w.grownBy w' row) (hne : v.ownBlock = none ∨ v.ownBlock ≠ row) : OwnB w' base v n g := World.ownsRow.kept h hg hne
theorem OwnB.lt {w : World} {base n : Nat} {v : Value} {g : Nat → Int} (h : OwnB w base v n g) : ∀ k, v.ownBlock = some k → base ≤ k ∧ k < w.heap.size := World.ownsRow.lt h
theorem OwnB.shape {w : World} {base n : Nat} {v : Value} {g : Nat → Int} (h : OwnB w base v n g) : ∃ ao cap, v = .slice ao n cap ∧ (ao = none → n = 0 ∧ cap = 0) ∧ n ≤ cap ∧ cap ≤ maxLen ∧ Bs w ao n g := by
  obtain ⟨hl, h⟩ := h
  rcases h with ⟨rfl, rfl⟩ | ⟨b, cap, cur, rfl, hb, hh, hn, hc, hs, ht⟩
  · exact ⟨none, 0, rfl, fun _ => ⟨rfl, rfl⟩, Nat.le_refl _, by unfold maxLen; omega, .inl rfl⟩
  · refine ⟨some ⟨b, 0, none⟩, cap, rfl, (fun h => by cases h), hn, hc, .inr ⟨b, 0, rfl, fun i hi => ?_⟩⟩
    have h1 : (bytesL n g)[i]? = some (.int .u8 (g i)) := bytesL_at g hi
    rw [← ht, List.getElem?_take, if_pos (by omega)] at h1
    simp only [World.cell?, hh]
    simpa using h1
end Go.Proofs.YtkiockffejlnhaaGreatDoor

/- (*Mem).Get; gantryref0.EqBytes, CopyBytes; gantrylaw0.Bytes: contracts. -/
namespace Go.Proofs.YtkiockffejlnhaaGreatDoor
open Go.RowKit
set_option linter.unusedVariables false
theorem Bs.at {w : World} {ao : Option Addr} {n : Nat} {g : Nat → Int} (h : Bs w ao n g) (hn : 0 < n) : ∃ b off, ao = some ⟨b, off, none⟩ ∧ ∀ i, i < n → w.cell? ⟨b, off + i, none⟩ = some (.int .u8 (g i)) := by
  rcases h with h | h
  · omega
  · exact h
set_option maxHeartbeats 800000 in
theorem eq_true (n ca cb b o b' o' : Nat) (g g' : Nat → Int) (w : World) (hn : (n : Int) ≤ 140737488351232)
    (ha : ∀ i, i < n → w.cell? ⟨b, o + i, none⟩ = some (.int .u8 (g i))) (hb : ∀ i, i < n → w.cell? ⟨b', o' + i, none⟩ = some (.int .u8 (g' i))) (he : ∀ i, i < n → g i = g' i) :
    Calls Tryz.prog 10 #[.slice (some ⟨b, o, none⟩) n ca, .slice (some ⟨b', o', none⟩) n cb] w fun e w' => e = .returned (.bool true) ∧ ∃ d, w' = w.drewN d := by
  have HA : Hid (∀ i, i < n → w.cell? ⟨b, o + i, none⟩ = some (.int .u8 (g i))) := ha
  have HB : Hid (∀ i, i < n → w.cell? ⟨b', o' + i, none⟩ = some (.int .u8 (g' i))) := hb
  have HE : Hid (∀ i, i < n → g i = g' i) := he
  clear ha hb he
  go_enter Tryz.func10, Tryz.ntmps10
  go_wp2
  go_loopw [5] (fun s wr => ∃ k : Nat, k ≤ n ∧ s = .int .i64 k ∧ ∃ d, wr = w.drewN d) (fun s _ => n - (intOf s).toNat)
  case atStart => exact ⟨0, Nat.zero_le _, rfl, 0, rfl⟩
  case round =>
    obtain ⟨k, hk, rfl, d, rfl⟩ := hrel
    by_cases hlt : k < n
    · have c1 : (w.drewN d).cell? ⟨b, o + k, none⟩ = some (.int .u8 (g k)) := HA.out k hlt
      have c2 : (w.drewN d).cell? ⟨b', o' + k, none⟩ = some (.int .u8 (g k)) := by rw [HE.out k hlt]; exact HB.out k hlt
      have HW : Hid (∃ d', w.drewN d = w.drewN d') := ⟨d, rfl⟩
      have hlt' : (k : Int) < (n : Int) := by omega
      generalize w.drewN d = W at *
      generalize g k = y at *
      go_wp2_with fail
      go_quiet (fail)
      go_wp2
      go_roundw
      case rel => obtain ⟨d', rfl⟩ := HW.out; exact ⟨k + 1, by omega, by go_num, _, World.drewN_drewN _ _ _⟩
      case measure => simp [intOf]; omega
    · obtain rfl : k = n := by omega
      go_wp2
      go_ret
      exact ⟨rfl, d, rfl⟩
set_option maxHeartbeats 800000 in
theorem eq_none (ca cb : Nat) (ao bo : Option Addr) (w : World) :
    Calls Tryz.prog 10 #[.slice ao 0 ca, .slice bo 0 cb] w fun e w' => e = .returned (.bool true) ∧ ∃ d, w' = w.drewN d := by
  go_enter Tryz.func10, Tryz.ntmps10
  go_wp2
  go_loopw [5] (fun s wr => s = .int .i64 0 ∧ wr = w) (fun s _ => 0)
  case atStart => exact ⟨rfl, rfl⟩
  case round =>
    obtain ⟨rfl, rfl⟩ := hrel
    go_wp2
    go_ret
    exact ⟨rfl, 0, rfl⟩
theorem eqB (n ca cb : Nat) (ao bo : Option Addr) (g g' : Nat → Int) (w : World) (hn : (n : Int) ≤ 140737488351232) (ha : Bs w ao n g) (hb : Bs w bo n g') (he : ∀ i, i < n → g i = g' i) :
    Calls Tryz.prog 10 #[.slice ao n ca, .slice bo n cb] w fun e w' => e = .returned (.bool true) ∧ ∃ d, w' = w.drewN d := by
  by_cases h0 : n = 0
  · subst h0; exact eq_none ca cb ao bo w
  · obtain ⟨b, o, rfl, ha1⟩ := ha.at (by omega)
    obtain ⟨b', o', rfl, hb1⟩ := hb.at (by omega)
    exact eq_true n ca cb b o b' o' g g' w hn ha1 hb1 he
set_option maxRecDepth 100000 in
set_option maxHeartbeats 800000 in
theorem copyB (n cap : Nat) (ao : Option Addr) (g : Nat → Int) (w : World) (hn : (n : Int) ≤ 140737488351232) (h0 : ao = none → n = 0 ∧ cap = 0) (ha : Bs w ao n g) :
    Calls Tryz.prog 7 #[.slice ao n cap] w fun e w' => ∃ v, e = .returned v ∧ OwnB w' w.heap.size v n g ∧ w.grownBy w' none := by
  obtain ⟨i, hi, hz0, hz1, hz2⟩ := info_parts info_u8
  cases ao with
  | none =>
    obtain ⟨rfl, rfl⟩ := h0 rfl
    go_enter Tryz.func7, Tryz.ntmps7
    go_wp2_with (at_builtin; refine wpList_append_own_none rfl _ _ 24 rfl w.heap.size 5 i 1 Tryz.underlying24 hi _ 0 [] rfl (World.ownsRow_nil _ _ _ _) rfl ?_)
    go_ret
    exact ⟨_, rfl, World.ownsRow_nil _ _ _ _, World.grownBy.refl _ _⟩
  | some ad =>
    have HC : Hid (∀ j u, (bytesL n g)[j]? = some u → w.cell? (ad.add j) = some u) := by
      intro j u hu
      obtain ⟨hj, rfl⟩ := bytesL_get hu
      obtain ⟨b, o, e, hc⟩ := ha.at (by omega)
      injection e with e
      subst e
      rw [add_none]
      exact hc j hj
    clear ha h0
    go_enter Tryz.func7, Tryz.ntmps7
    go_wp2_with (at_builtin; refine wpList_append_own _ rfl _ _ 24 rfl w.heap.size 5 i (.int .u8 0) 1 1 Tryz.underlying24 hi hz0 hz1 hz2 rfl (by decide) _ 0 [] rfl (World.ownsRow_nil _ _ _ _) ad n cap (bytesL n g) rfl (by rw [bytesL_len]; omega) HC.out (bytesL_one _ _) (by unfold maxLen; omega) (by omega) (Nat.le_refl _) ?_; intro v' w2 ho2 hg2 hv2; simp only [Nat.zero_add, List.nil_append] at ho2)
    go_ret
    exact ⟨_, rfl, ho2, hg2⟩
theorem OwnB.cellAt {w : World} {base n b cap : Nat} {g : Nat → Int} (h : OwnB w base (.slice (some ⟨b, 0, none⟩) n cap) n g) {k : Nat} (hk : k < n) : w.cell? ⟨b, k, none⟩ = some (.int .u8 (g k)) :=
  (World.ownsRow.cellAt h k (by omega)).trans (bytesL_at g hk)
end Go.Proofs.YtkiockffejlnhaaGreatDoor

/- form.bytes, gantryref3.Encode: contracts. -/
namespace Go.Proofs.YtkiockffejlnhaaGreatDoor
open Go.RowKit
set_option linter.unusedVariables false
namespace Rc
def fb (f : FmV) (i : Nat) : Int :=
  if i = 0 then f.code % 256 else if i = 1 then f.a % 256 else if i = 2 then f.b % 256 else if i = 3 then f.c % 256 else Mm.by8 f.n (i - 4)
end Rc
theorem own8 {w : World} {base : Nat} (hb : base ≤ w.heap.size) (g : Nat → Int) (x0 x1 x2 x3 x4 x5 x6 x7 : Int) (h0 : x0 = g 0) (h1 : x1 = g 1) (h2 : x2 = g 2) (h3 : x3 = g 3) (h4 : x4 = g 4) (h5 : x5 = g 5) (h6 : x6 = g 6) (h7 : x7 = g 7) :
    OwnB (w.alloc (.cells #[.int .u8 x0, .int .u8 x1, .int .u8 x2, .int .u8 x3, .int .u8 x4, .int .u8 x5, .int .u8 x6, .int .u8 x7] 5)) base (.slice (some ⟨w.heap.size, 0, none⟩) 8 8) 8 g := by
  subst h0 h1 h2 h3 h4 h5 h6 h7
  exact World.ownsRow_lit w #[.int .u8 (g 0), .int .u8 (g 1), .int .u8 (g 2), .int .u8 (g 3), .int .u8 (g 4), .int .u8 (g 5), .int .u8 (g 6), .int .u8 (g 7)] 8 hb (by decide) (by rfl)
theorem size_alloc (w : World) (o : Obj) : (w.alloc o).heap.size = w.heap.size + 1 := by simp
set_option maxHeartbeats 8000000 in
theorem fbytes_any (f : FmV) (w : World) :
    Calls Tryz.prog 91 #[formv f] w fun e w' => ∃ T, e = .returned (.slice (some ⟨T, 0, none⟩) 8 8) ∧ OwnB w' w.heap.size (.slice (some ⟨T, 0, none⟩) 8 8) 8 (Rc.fb f) ∧ w.grownBy w' none := by
  unfold formv
  go_enter Tryz.func91, Tryz.ntmps91
  go_wp2
  go_returns
  refine ⟨w.heap.size + 1, rfl, ?_, grown_alloc2 _ _ _⟩
  rw [← size_alloc w]
  refine own8 (by rw [size_alloc]; omega) (Rc.fb f) _ _ _ _ _ _ _ _ rfl rfl rfl rfl ?_ rfl rfl rfl
  show _ = Mm.by8 f.n 0
  unfold Mm.by8
  simp
end Go.Proofs.YtkiockffejlnhaaGreatDoor

/- A region that draws its order, whose head only reads and whose tail is forced: one walk by the cheap step. -/
namespace Go.Proofs.YtkiockffejlnhaaGreatDoor
open Go.RowKit
set_option linter.unusedVariables false
theorem still_of_quiet {P : Program} {ops : Array Oper} {w : World} {Q : Act → Prop} : ∀ (l : List Oper) (a : Act), wpQuiet P ops (fun w' => w' = w) Q l a → wpStill P ops w Q l a
  | [], _, h => h
  | o :: rest, a, h => by
    unfold wpQuiet at h
    unfold wpStill
    split
    · rename_i hw
      rw [if_pos hw] at h
      obtain ⟨v, h1, h2⟩ := h
      have h3 := h1 w rfl
      have h4 := still_of_quiet rest _ h2
      unfold Oper.quietAt at h3
      unfold Oper.still
      generalize (execOp a.eval o).run P w = r at h3
      match r, h3 with
      | .ok (.value u) w', h3 => obtain ⟨e1, e2⟩ := h3; exact ⟨e1, by rw [e2]; exact h4⟩
      | .ok .skip w', h3 => obtain ⟨e1, e2⟩ := h3; exact ⟨e1, by rw [← e2]; exact h4⟩
      | .ok (.enter f args) w', h3 => obtain ⟨e1, e2⟩ := h3; exact ⟨e1, v, e2, h4⟩
    · rename_i hw
      rw [if_neg hw] at h
      exact still_of_quiet rest _ h
theorem tail_quiet {P : Program} {id : Nat} {Q : Exit → Act → World → Prop} {a : Act} {w : World} {l : List Oper} (n : Nat) (hm : P.follows .mixedOrders = true) (hB : Region.lexTailB .any l.toArray n = true)
    (h : wpQuiet P l.toArray (fun w' => w' = w.drew) (fun a' => wpList P l.toArray Q (l.drop n) a' w.drew) (l.take n) a) : (Code.region id l.toArray true).wp P Q a w :=
  tail_drew n hm hB (still_of_quiet _ _ h)
structure Gw (W : World) where
  w : World
  h : W.grownBy w none
theorem region_grown {P : Program} {id : Nat} {Q : Exit → Act → World → Prop} {a : Act} {w : World} {l : List Oper} (hm : P.follows .mixedOrders = true) (hB : Region.lexB .any l.toArray = true)
    (h : wpQuiet P l.toArray (fun w' => ∃ x : Gw w, w' = x.w) (fun a' => ∀ w', (∃ x : Gw w, w' = x.w) → Q .normal a' w') l a) : (Code.region id l.toArray true).wp P Q a w :=
  wp_region_quiet (C := fun w' => ∃ x : Gw w, w' = x.w) hm hB ⟨⟨w.drew, grown_drew (World.grownBy.refl _ _)⟩, rfl⟩ (by simpa using h)
theorem Gw.call {P : Program} {f : FuncId} {args : Array Value} {W : World} {x : Gw W} {v : Value}
    (h : Calls P f args x.w fun e w' => e = .returned v ∧ x.w.grownBy w' none) : Calls P f args x.w fun e w'' => e = .returned v ∧ ∃ y : Gw W, w'' = y.w :=
  h.mono fun _ w'' ⟨he, hg⟩ => ⟨he, ⟨w'', grown_trans x.h hg⟩, rfl⟩
end Go.Proofs.YtkiockffejlnhaaGreatDoor
