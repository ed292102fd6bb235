/- gantrylaw2.one: Load and Store by both memories. -/
import Derived.Test.YtnedflpcfpkbnaaMArgs
namespace Go.Proofs.Ytnedflpcfpkbnaa
open Go.RowKit
set_option linter.unusedVariables false

/-- both memories hold the same bytes -/
structure Pair (N S : Nat) (w : World) (Bm Dm Br Dr : Nat) (f : Nat → Int) : Prop where
  hm : IsM w Bm Dm S f
  hr : IsR w Br Dr S f
  b1 : N ≤ Bm
  b2 : N ≤ Dm
  b3 : N ≤ Br
  b4 : N ≤ Dr
  ne : Dm ≠ Dr

theorem rows_ne {w : World} {b d : Nat} {t u : TypeId} {n k : Nat} {f g : Nat → Value} (h1 : w.rowIs b t n f) (h2 : w.rowIs d u k g) (ht : t ≠ u) : b ≠ d := by
  intro e
  subst e
  obtain ⟨c, hc, _⟩ := h1
  obtain ⟨d, hd, _⟩ := h2
  rw [hc] at hd
  injection hd with hd
  injection hd with _ hd
  exact ht hd

variable {N S : Nat} {w w' : World} {Bm Dm Br Dr : Nat} {f f' : Nat → Int} {row : Option Nat}

theorem Pair.size (h : Pair N S w Bm Dm Br Dr f) : N ≤ w.heap.size := Nat.le_trans h.b1 (Nat.le_of_lt h.hm.head.lt)
theorem Pair.kept (h : Pair N S w Bm Dm Br Dr f) (hg : w.grownBy w' row) (hrow : ∀ b, row = some b → Bm ≠ b ∧ Dm ≠ b ∧ Br ≠ b ∧ Dr ≠ b) : Pair N S w' Bm Dm Br Dr f := by
  have k : ∀ x, (∀ b, row = some b → x ≠ b) → some x ≠ row := fun x hx e => hx x e.symm rfl
  exact ⟨h.hm.kept hg (k _ fun b e => (hrow b e).1) (k _ fun b e => (hrow b e).2.1), h.hr.kept hg (k _ fun b e => (hrow b e).2.2.1) (k _ fun b e => (hrow b e).2.2.2), h.b1, h.b2, h.b3, h.b4, h.ne⟩
theorem Pair.none (h : Pair N S w Bm Dm Br Dr f) (hg : w.grownBy w' none) : Pair N S w' Bm Dm Br Dr f := h.kept hg (fun b e => by cases e)
theorem Pair.alloc (h : Pair N S w Bm Dm Br Dr f) (o : Obj) : Pair N S (w.alloc o) Bm Dm Br Dr f := h.none (World.grownBy_alloc _ _ _)
/-- a block that came later -/
theorem Pair.later (h : Pair N S w Bm Dm Br Dr f) {b : Nat} (hb : w.heap.size ≤ b) : Bm ≠ b ∧ Dm ≠ b ∧ Br ≠ b ∧ Dr ≠ b :=
  ⟨by have := h.hm.head.lt; omega, by have := h.hm.row.lt; omega, by have := h.hr.head.lt; omega, by have := h.hr.row.lt; omega⟩
theorem Pair.drewN (h : Pair N S w Bm Dm Br Dr f) (d : Nat) : Pair N S (w.drewN d) Bm Dm Br Dr f := ⟨h.hm.drewN d, h.hr.drewN d, h.b1, h.b2, h.b3, h.b4, h.ne⟩
/-- behind a store into the first -/
theorem Pair.other (h : Pair N S w Bm Dm Br Dr f) (hg : w.grownBy w' (some Dm)) : IsR w' Br Dr S f :=
  h.hr.kept hg (fun e => rows_ne h.hr.head h.hm.row (by decide) (by injection e)) (fun e => h.ne (by injection e with e; exact e.symm))
/-- behind the store into both -/
theorem Pair.both {w2 : World} (h : Pair N S w Bm Dm Br Dr f) (hm : IsM w' Bm Dm S f') (hg : w'.grownBy w2 (some Dr)) (hr : IsR w2 Br Dr S f') : Pair N S w2 Bm Dm Br Dr f' :=
  ⟨hm.kept hg (fun e => rows_ne h.hm.head h.hr.row (by decide) (by injection e)) (fun e => h.ne (by injection e)), hr, h.b1, h.b2, h.b3, h.b4, h.ne⟩
theorem Pair.below {w0 w2 : World} (h : Pair N S w Bm Dm Br Dr f) (hb : Below N w0 w) (hg : w.grownBy w' (some Dm)) (hg2 : w'.grownBy w2 (some Dr)) : Below N w0 w2 :=
  (hb.grown hg h.size (fun k e => by injection e with e; subst e; exact h.b2)).grown hg2 (Nat.le_trans h.size hg.size) (fun k e => by injection e with e; subst e; exact h.b4)

set_option maxRecDepth 100000 in
set_option maxHeartbeats 4000000 in
theorem one_load (k n a x : Int) (bo : Option Addr) (bl bc : Nat) (h : Pair N S w Bm Dm Br Dr f) (hS : (S : Int) ≤ 1048576) (a1 : 0 ≤ a) (a2 : a < 18446744073709551616) :
    Calls Try.prog 11 #[.pointer (some ⟨Bm, 0, none⟩), .pointer (some ⟨Br, 0, none⟩), .agg #[.int .i64 0, .int .i64 k, .int .i64 n, .int .u64 a, .int .u64 x, .slice bo bl bc]] w fun e w' =>
      e = .returned (.bool true) ∧ (∃ f', Pair N S w' Bm Dm Br Dr f') ∧ Below N w w' := by
  obtain ⟨o, ho⟩ : ∃ o, o = Obj.cells #[.int .i64 0, .int .i64 k, .int .i64 n, .int .u64 a, .int .u64 x, .slice bo bl bc] 38 := ⟨_, rfl⟩
  have h1 := h.alloc o
  have hb1 : Below N w (w.alloc o) := (Below.refl N w).alloc h.size o
  have c1 : (w.alloc o).cell? ⟨w.heap.size, 1, none⟩ = some (.int .i64 k) := by rw [ho]; simp
  have c3 : (w.alloc o).cell? ⟨w.heap.size, 3, none⟩ = some (.int .u64 a) := by rw [ho]; simp
  subst ho
  go_enter Try.func11, Try.ntmps11
  go_wp2_with fail
  generalize w.alloc (Obj.cells #[.int .i64 0, .int .i64 k, .int .i64 n, .int .u64 a, .int .u64 x, .slice bo bl bc] 38) = W1 at *
  clear h
  have hm := h1.hm
  have hr := h1.hr
  rcases Mm.by_cases k with ⟨hk, hb⟩ | ⟨hk, hb⟩
  · have HE : Mm.lE S k a = 10 := Mm.lE_no hk
    have HV : Mm.lV S f k a = 0 := Mm.lV_no hk
    clear hb
    go_wp2_with (first
      | (go_at_call 17; refine (load_any _ _ _ _ _ _ _ hm hS a1 a2).mono ?_; rintro e w2 ⟨rfl, rfl⟩)
      | (go_at_call 18; refine (rword_any _ _).mono ?_; rintro e w2 ⟨rfl, rfl⟩)
      | (go_at_call 7; refine (num_any _ _).mono ?_; rintro e w2 ⟨rfl, rfl⟩))
    go_ret
    exact ⟨rfl, ⟨_, h1⟩, hb1⟩
  · cases h2 : Mm.hasB S a (Wd.by' k)
    · have HE : Mm.lE S k a = 21 := Mm.lE_out hk h2
      have HV : Mm.lV S f k a = 0 := Mm.lV_out h2
      clear hb
      go_wp2_with (first
        | (go_at_call 17; refine (load_any _ _ _ _ _ _ _ hm hS a1 a2).mono ?_; rintro e w2 ⟨rfl, rfl⟩)
        | (go_at_call 19; refine (rload_out _ _ _ _ _ _ _ hr hS a1 a2 hk h2).mono ?_; rintro e w2 ⟨rfl, rfl⟩)
        | (go_at_call 18; refine (rword_any _ _).mono ?_; rintro e w2 ⟨rfl, rfl⟩)
        | (go_at_call 7; refine (num_any _ _).mono ?_; rintro e w2 ⟨rfl, rfl⟩))
      go_ret
      exact ⟨rfl, ⟨_, h1⟩, hb1⟩
    · have HE : Mm.lE S k a = 0 := Mm.lE_in hk h2
      obtain ⟨ha, hs⟩ := Mm.has_in h2
      obtain ⟨A, rfl⟩ := Int.eq_ofNat_of_zero_le a1
      obtain ⟨m, hmn⟩ : ∃ m : Nat, Wd.by' k = m := ⟨(Wd.by' k).toNat, by omega⟩
      have HV : Mm.lV S f k A = Wd.canon k (Mm.ld f A m) := by
        rw [Mm.lV_in hk h2, hmn, Int.toNat_natCast, Int.toNat_natCast]
      have HB : Hid (Wd.by' k = m) := hmn
      have H8 : Hid (m = 1 ∨ m = 2 ∨ m = 4 ∨ m = 8) := (show m = 1 ∨ m = 2 ∨ m = 4 ∨ m = 8 from by omega)
      have HS2 : Hid (A + m ≤ S) := (show A + m ≤ S from by omega)
      clear hb hmn hs h2
      obtain ⟨z, hz⟩ : ∃ z, Wd.canon k (Mm.ld f A m) = z := ⟨_, rfl⟩
      rw [hz] at HV
      have HZ : Hid (Wd.canon k (Mm.ld f A m) = z) := hz
      clear hz
      go_wp2_with (first
        | (go_at_call 17; refine (load_any _ _ _ _ _ _ _ hm hS a1 a2).mono ?_; rintro e w2 ⟨rfl, rfl⟩)
        | (go_at_call 19; refine (rload_in _ _ _ _ A m _ _ hr hS HB.out H8.out ha HS2.out).mono ?_; rw [HZ.out]; rintro e w2 ⟨rfl, rfl⟩)
        | (go_at_call 18; refine (rword_any _ _).mono ?_; rintro e w2 ⟨rfl, rfl⟩)
        | (go_at_call 7; refine (num_any _ _).mono ?_; rintro e w2 ⟨rfl, rfl⟩))
      go_ret
      exact ⟨rfl, ⟨_, h1⟩, hb1⟩

set_option maxRecDepth 100000 in
set_option maxHeartbeats 4000000 in
theorem one_store (k n a x : Int) (bo : Option Addr) (bl bc : Nat) (h : Pair N S w Bm Dm Br Dr f) (hS : (S : Int) ≤ 1048576) (a1 : 0 ≤ a) (a2 : a < 18446744073709551616) (x1 : 0 ≤ x) (x2 : x < 18446744073709551616) :
    Calls Try.prog 11 #[.pointer (some ⟨Bm, 0, none⟩), .pointer (some ⟨Br, 0, none⟩), .agg #[.int .i64 1, .int .i64 k, .int .i64 n, .int .u64 a, .int .u64 x, .slice bo bl bc]] w fun e w' =>
      e = .returned (.bool true) ∧ (∃ f', Pair N S w' Bm Dm Br Dr f') ∧ Below N w w' := by
  obtain ⟨o, ho⟩ : ∃ o, o = Obj.cells #[.int .i64 1, .int .i64 k, .int .i64 n, .int .u64 a, .int .u64 x, .slice bo bl bc] 38 := ⟨_, rfl⟩
  have h1 := h.alloc o
  have hb1 : Below N w (w.alloc o) := (Below.refl N w).alloc h.size o
  have c1 : (w.alloc o).cell? ⟨w.heap.size, 1, none⟩ = some (.int .i64 k) := by rw [ho]; simp
  have c3 : (w.alloc o).cell? ⟨w.heap.size, 3, none⟩ = some (.int .u64 a) := by rw [ho]; simp
  have c4 : (w.alloc o).cell? ⟨w.heap.size, 4, none⟩ = some (.int .u64 x) := by rw [ho]; simp
  have HP : Hid (w.heap.size ≠ Dm) := fun e => (h.later (Nat.le_refl _)).2.1 e.symm
  subst ho
  go_enter Try.func11, Try.ntmps11
  go_wp2_with fail
  generalize w.alloc (Obj.cells #[.int .i64 1, .int .i64 k, .int .i64 n, .int .u64 a, .int .u64 x, .slice bo bl bc] 38) = W1 at *
  clear h
  have hm := h1.hm
  refine (store_any _ _ _ _ _ _ _ _ hm hS a1 a2 x1 x2).mono ?_
  rintro e W2 ⟨rfl, hm2, hg2⟩
  have d1 : W2.cell? ⟨w.heap.size, 1, none⟩ = some (.int .i64 k) := hg2.cell c1 (fun e => HP.out (by injection e))
  have d3 : W2.cell? ⟨w.heap.size, 3, none⟩ = some (.int .u64 a) := hg2.cell c3 (fun e => HP.out (by injection e))
  have d4 : W2.cell? ⟨w.heap.size, 4, none⟩ = some (.int .u64 x) := hg2.cell c4 (fun e => HP.out (by injection e))
  have hr := h1.other hg2
  clear c1 c3 c4 hm
  have fin0 : Mm.sM S f k a x = f → (∃ f', Pair N S W2 Bm Dm Br Dr f') ∧ Below N w W2 := fun e =>
    ⟨⟨f, ⟨by rw [← e]; exact hm2, hr, h1.b1, h1.b2, h1.b3, h1.b4, h1.ne⟩⟩, hb1.grown hg2 h1.size (fun k e => by injection e with e; subst e; exact h1.b2)⟩
  have F0 : Hid (Mm.sM S f k a x = f → (∃ f', Pair N S W2 Bm Dm Br Dr f') ∧ Below N w W2) := fin0
  clear fin0
  rcases Mm.by_cases k with ⟨hk, hb⟩ | ⟨hk, hb⟩
  · have HE : Mm.sE S k a x = 10 := Mm.sE_no hk
    have HV : Hid (Mm.sM S f k a x = f) := Mm.sM_no hk
    clear hb
    go_wp2_with (first
      | (go_at_call 18; refine (rword_any _ _).mono ?_; rintro e w2 ⟨rfl, rfl⟩)
      | (go_at_call 7; refine (num_any _ _).mono ?_; rintro e w2 ⟨rfl, rfl⟩))
    go_ret
    exact ⟨rfl, F0.out HV.out⟩
  · cases hi : Wd.isB k x
    · have HE : Mm.sE S k a x = 11 := Mm.sE_form hk hi
      have HV : Hid (Mm.sM S f k a x = f) := Mm.sM_form hi
      clear hb
      go_wp2_with (first
        | (go_at_call 18; refine (rword_any _ _).mono ?_; rintro e w2 ⟨rfl, rfl⟩)
        | (go_at_call 20; refine (ris_any _ _ _ x1 x2).mono ?_; rintro e w2 ⟨rfl, rfl⟩)
        | (go_at_call 7; refine (num_any _ _).mono ?_; rintro e w2 ⟨rfl, rfl⟩))
      go_ret
      exact ⟨rfl, F0.out HV.out⟩
    · cases h2 : Mm.hasB S a (Wd.by' k)
      · have HE : Mm.sE S k a x = 21 := Mm.sE_out hk hi h2
        have HV : Hid (Mm.sM S f k a x = f) := Mm.sM_out h2
        clear hb
        go_wp2_with (first
          | (go_at_call 18; refine (rword_any _ _).mono ?_; rintro e w2 ⟨rfl, rfl⟩)
          | (go_at_call 20; refine (ris_any _ _ _ x1 x2).mono ?_; rintro e w2 ⟨rfl, rfl⟩)
          | (go_at_call 21; refine (rstore_out _ _ _ _ _ _ _ _ hr hS a1 a2 hk h2).mono ?_; rintro e w2 ⟨rfl, rfl⟩)
          | (go_at_call 7; refine (num_any _ _).mono ?_; rintro e w2 ⟨rfl, rfl⟩))
        go_ret
        exact ⟨rfl, F0.out HV.out⟩
      · have HE : Mm.sE S k a x = 0 := Mm.sE_in hk hi h2
        obtain ⟨ha, hs⟩ := Mm.has_in h2
        obtain ⟨A, rfl⟩ := Int.eq_ofNat_of_zero_le a1
        obtain ⟨m, hmn⟩ : ∃ m : Nat, Wd.by' k = m := ⟨(Wd.by' k).toNat, by omega⟩
        have HV : Hid (Mm.sM S f k A x = Mm.pt f A m (Mm.by8 x)) := by
          show _ = _
          rw [Mm.sM_in hk hi h2, hmn, Int.toNat_natCast, Int.toNat_natCast]
        have HB : Hid (Wd.by' k = m) := hmn
        have H8 : Hid (m = 1 ∨ m = 2 ∨ m = 4 ∨ m = 8) := (show m = 1 ∨ m = 2 ∨ m = 4 ∨ m = 8 from by omega)
        have HS2 : Hid (A + m ≤ S) := (show A + m ≤ S from by omega)
        clear hb hmn hs h2
        go_wp2_with (first
          | (go_at_call 18; refine (rword_any _ _).mono ?_; rintro e w2 ⟨rfl, rfl⟩)
          | (go_at_call 20; refine (ris_any _ _ _ x1 x2).mono ?_; rintro e w2 ⟨rfl, rfl⟩)
          | (go_at_call 21; refine (rstore_in _ _ _ _ A m _ _ _ hr hS HB.out H8.out ha HS2.out x1 x2).mono ?_; rintro e W3 ⟨rfl, hr3, hg3⟩)
          | (go_at_call 7; refine (num_any _ _).mono ?_; rintro e w2 ⟨rfl, rfl⟩))
        go_ret
        rw [HV.out] at hm2
        exact ⟨rfl, ⟨_, h1.both hm2 hg3 hr3⟩, h1.below hb1 hg2 hg3⟩

end Go.Proofs.Ytnedflpcfpkbnaa
