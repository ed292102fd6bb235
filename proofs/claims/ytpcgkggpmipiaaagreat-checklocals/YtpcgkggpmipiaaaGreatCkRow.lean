/- The rows of terms. -/
import Derived.Test.YtpcgkggpmipiaaaGreatG11
namespace Go.Proofs.YtpcgkggpmipiaaaGreat
open Go.RowKit
set_option linter.unusedVariables false
set_option maxRecDepth 100000
set_option maxHeartbeats 4000000
abbrev rowA (p m : Int) (f : Value) : Value := .agg #[.int .i64 p, .int .i64 m, f]
def Ck.pI (a b d : Bool) : Int := (bif a then 1 else 0) + (bif b then 2 else 0) + (bif d then 4 else 0)
def tfn (op n : Int) : FuncId :=
 if op = 5 then 161
 else if op = 6 ∧ n ≤ 8 then 162
 else if op = 6 ∧ n ≤ 10 then 163
 else if op = 6 then 164
 else if op = 1 then 113
 else if op = 2 then 114
 else if op = 3 then 115
 else if op = 4 then 116
 else if op = 7 then 119
 else if op = 8 then 119
 else if op = 9 then 120
 else if op = 10 then 121
 else if op = 11 then 122
 else if op = 12 then 123
 else if op = 13 then 124
 else if op = 14 then 125
 else if op = 15 then 126
 else if op = 16 then 127
 else if op = 17 then 128
 else if op = 18 then 129
 else if op = 19 then 130
 else 0
def rowV (op n : Int) : Value := match Ck.trow op n with
 | none => rowA 0 0 .nilFunc
 | some (a, b, d, m) => rowA (Ck.pI a b d) m (.func (.func (tfn op n)) #[] #[])
theorem ckUnRow_ok {n : Int} (h : 1 ≤ n ∧ n ≤ 3) (w : World) : Calls Tryz.prog 117 #[.int .i64 n] w fun r w' => r = .returned (rowA 2 1 (.func (.func 161) #[] #[])) ∧ w.grownBy w' none := by
 obtain rfl | rfl | rfl : n = 1 ∨ n = 2 ∨ n = 3 := by omega
 all_goals
  go_enter Tryz.func117, Tryz.ntmps117
  go_wp2
  refine ⟨rfl, _, ?_, rfl, ?_⟩
  ·simp [results, show Tryz.func117.results = #[.cell 2 122] from rfl, go_sem]
  ·exact World.grownBy_alloc _ _ _
theorem ckUnRow_no {n : Int} (h : ¬ (1 ≤ n ∧ n ≤ 3)) (w : World) : Calls Tryz.prog 117 #[.int .i64 n] w fun r w' => r = .returned (rowA 0 0 .nilFunc) ∧ w.grownBy w' none := by
 have q1 : (n == 1) = false := by simp; omega
 have q2 : (n == 2) = false := by simp; omega
 have q3 : (n == 3) = false := by simp; omega
 clear h
 go_enter Tryz.func117, Tryz.ntmps117
 go_wp2
 refine ⟨rfl, _, ?_, rfl, ?_⟩
 ·simp [results, show Tryz.func117.results = #[.cell 2 122] from rfl, go_sem]
 ·exact World.grownBy_alloc _ _ _
theorem ckBinRow_a {n : Int} (h : 1 ≤ n ∧ n ≤ 8) (w : World) : Calls Tryz.prog 118 #[.int .i64 n] w fun r w' => r = .returned (rowA 2 2 (.func (.func 162) #[] #[])) ∧ w.grownBy w' none := by
 have d1 : decide (1 ≤ n) = true := by simp; omega
 have d2 : decide (n ≤ 8) = true := by simp; omega
 clear h
 go_enter Tryz.func118, Tryz.ntmps118
 go_wp2
 refine ⟨rfl, _, ?_, rfl, ?_⟩
 ·simp [results, show Tryz.func118.results = #[.cell 2 122] from rfl, go_sem]
 ·exact World.grownBy_alloc _ _ _
theorem ckBinRow_s {n : Int} (h : n = 9 ∨ n = 10) (w : World) : Calls Tryz.prog 118 #[.int .i64 n] w fun r w' => r = .returned (rowA 2 2 (.func (.func 163) #[] #[])) ∧ w.grownBy w' none := by
 obtain rfl | rfl := h
 all_goals
  go_enter Tryz.func118, Tryz.ntmps118
  go_wp2
  refine ⟨rfl, _, ?_, rfl, ?_⟩
  ·simp [results, show Tryz.func118.results = #[.cell 2 122] from rfl, go_sem]
  ·exact World.grownBy_alloc _ _ _
theorem ckBinRow_c {n : Int} (h : 11 ≤ n ∧ n ≤ 16) (w : World) : Calls Tryz.prog 118 #[.int .i64 n] w fun r w' => r = .returned (rowA 3 2 (.func (.func 164) #[] #[])) ∧ w.grownBy w' none := by
 have d1 : decide (1 ≤ n) = true := by simp; omega
 have d2 : decide (n ≤ 8) = false := by simp; omega
 have q1 : (n == 9) = false := by simp; omega
 have q2 : (n == 10) = false := by simp; omega
 have d3 : decide (11 ≤ n) = true := by simp; omega
 have d4 : decide (n ≤ 16) = true := by simp; omega
 clear h
 go_enter Tryz.func118, Tryz.ntmps118
 go_wp2
 refine ⟨rfl, _, ?_, rfl, ?_⟩
 ·simp [results, show Tryz.func118.results = #[.cell 2 122] from rfl, go_sem]
 ·exact World.grownBy_alloc _ _ _
theorem ckBinRow_lo {n : Int} (h : n ≤ 0) (w : World) : Calls Tryz.prog 118 #[.int .i64 n] w fun r w' => r = .returned (rowA 0 0 .nilFunc) ∧ w.grownBy w' none := by
 have d1 : decide (1 ≤ n) = false := by simp; omega
 have q1 : (n == 9) = false := by simp; omega
 have q2 : (n == 10) = false := by simp; omega
 have d3 : decide (11 ≤ n) = false := by simp; omega
 clear h
 go_enter Tryz.func118, Tryz.ntmps118
 go_wp2
 refine ⟨rfl, _, ?_, rfl, ?_⟩
 ·simp [results, show Tryz.func118.results = #[.cell 2 122] from rfl, go_sem]
 ·exact World.grownBy_alloc _ _ _
theorem ckBinRow_hi {n : Int} (h : 17 ≤ n) (w : World) : Calls Tryz.prog 118 #[.int .i64 n] w fun r w' => r = .returned (rowA 0 0 .nilFunc) ∧ w.grownBy w' none := by
 have d1 : decide (1 ≤ n) = true := by simp; omega
 have d2 : decide (n ≤ 8) = false := by simp; omega
 have q1 : (n == 9) = false := by simp; omega
 have q2 : (n == 10) = false := by simp; omega
 have d3 : decide (11 ≤ n) = true := by simp; omega
 have d4 : decide (n ≤ 16) = false := by simp; omega
 clear h
 go_enter Tryz.func118, Tryz.ntmps118
 go_wp2
 refine ⟨rfl, _, ?_, rfl, ?_⟩
 ·simp [results, show Tryz.func118.results = #[.cell 2 122] from rfl, go_sem]
 ·exact World.grownBy_alloc _ _ _
theorem ckRow1 (t n : Int) (s : ByteArray) (ax : Option Addr) (kx cx : Nat) (w : World) : Calls Tryz.prog 75 #[exV 1 t n s ax kx cx] w fun r w' => r = .returned (rowA 3 0 (.func (.func 113) #[] #[])) ∧ w.grownBy w' none := by
 go_enter Tryz.func75, Tryz.ntmps75
 go_wp2
 refine ⟨rfl, _, ?_, rfl, ?_⟩
 ·simp [results, show Tryz.func75.results = #[.cell 2 122] from rfl, go_sem]
 ·exact grown_trans (World.grownBy_alloc _ _ _) (World.grownBy_alloc _ _ _)
theorem ckRow2 (t n : Int) (s : ByteArray) (ax : Option Addr) (kx cx : Nat) (w : World) : Calls Tryz.prog 75 #[exV 2 t n s ax kx cx] w fun r w' => r = .returned (rowA 5 0 (.func (.func 114) #[] #[])) ∧ w.grownBy w' none := by
 go_enter Tryz.func75, Tryz.ntmps75
 go_wp2
 refine ⟨rfl, _, ?_, rfl, ?_⟩
 ·simp [results, show Tryz.func75.results = #[.cell 2 122] from rfl, go_sem]
 ·exact grown_trans (World.grownBy_alloc _ _ _) (World.grownBy_alloc _ _ _)
theorem ckRow3 (t n : Int) (s : ByteArray) (ax : Option Addr) (kx cx : Nat) (w : World) : Calls Tryz.prog 75 #[exV 3 t n s ax kx cx] w fun r w' => r = .returned (rowA 1 0 (.func (.func 115) #[] #[])) ∧ w.grownBy w' none := by
 go_enter Tryz.func75, Tryz.ntmps75
 go_wp2
 refine ⟨rfl, _, ?_, rfl, ?_⟩
 ·simp [results, show Tryz.func75.results = #[.cell 2 122] from rfl, go_sem]
 ·exact grown_trans (World.grownBy_alloc _ _ _) (World.grownBy_alloc _ _ _)
theorem ckRow4 (t n : Int) (s : ByteArray) (ax : Option Addr) (kx cx : Nat) (w : World) : Calls Tryz.prog 75 #[exV 4 t n s ax kx cx] w fun r w' => r = .returned (rowA 2 0 (.func (.func 116) #[] #[])) ∧ w.grownBy w' none := by
 go_enter Tryz.func75, Tryz.ntmps75
 go_wp2
 refine ⟨rfl, _, ?_, rfl, ?_⟩
 ·simp [results, show Tryz.func75.results = #[.cell 2 122] from rfl, go_sem]
 ·exact grown_trans (World.grownBy_alloc _ _ _) (World.grownBy_alloc _ _ _)
theorem ckRow7 (t n : Int) (s : ByteArray) (ax : Option Addr) (kx cx : Nat) (w : World) : Calls Tryz.prog 75 #[exV 7 t n s ax kx cx] w fun r w' => r = .returned (rowA 0 2 (.func (.func 119) #[] #[])) ∧ w.grownBy w' none := by
 go_enter Tryz.func75, Tryz.ntmps75
 go_wp2
 refine ⟨rfl, _, ?_, rfl, ?_⟩
 ·simp [results, show Tryz.func75.results = #[.cell 2 122] from rfl, go_sem]
 ·exact grown_trans (World.grownBy_alloc _ _ _) (World.grownBy_alloc _ _ _)
theorem ckRow8 (t n : Int) (s : ByteArray) (ax : Option Addr) (kx cx : Nat) (w : World) : Calls Tryz.prog 75 #[exV 8 t n s ax kx cx] w fun r w' => r = .returned (rowA 0 2 (.func (.func 119) #[] #[])) ∧ w.grownBy w' none := by
 go_enter Tryz.func75, Tryz.ntmps75
 go_wp2
 refine ⟨rfl, _, ?_, rfl, ?_⟩
 ·simp [results, show Tryz.func75.results = #[.cell 2 122] from rfl, go_sem]
 ·exact grown_trans (World.grownBy_alloc _ _ _) (World.grownBy_alloc _ _ _)
theorem ckRow9 (t n : Int) (s : ByteArray) (ax : Option Addr) (kx cx : Nat) (w : World) : Calls Tryz.prog 75 #[exV 9 t n s ax kx cx] w fun r w' => r = .returned (rowA 1 1 (.func (.func 120) #[] #[])) ∧ w.grownBy w' none := by
 go_enter Tryz.func75, Tryz.ntmps75
 go_wp2
 refine ⟨rfl, _, ?_, rfl, ?_⟩
 ·simp [results, show Tryz.func75.results = #[.cell 2 122] from rfl, go_sem]
 ·exact grown_trans (World.grownBy_alloc _ _ _) (World.grownBy_alloc _ _ _)
theorem ckRow10 (t n : Int) (s : ByteArray) (ax : Option Addr) (kx cx : Nat) (w : World) : Calls Tryz.prog 75 #[exV 10 t n s ax kx cx] w fun r w' => r = .returned (rowA 2 1 (.func (.func 121) #[] #[])) ∧ w.grownBy w' none := by
 go_enter Tryz.func75, Tryz.ntmps75
 go_wp2
 refine ⟨rfl, _, ?_, rfl, ?_⟩
 ·simp [results, show Tryz.func75.results = #[.cell 2 122] from rfl, go_sem]
 ·exact grown_trans (World.grownBy_alloc _ _ _) (World.grownBy_alloc _ _ _)
theorem ckRow11 (t n : Int) (s : ByteArray) (ax : Option Addr) (kx cx : Nat) (w : World) : Calls Tryz.prog 75 #[exV 11 t n s ax kx cx] w fun r w' => r = .returned (rowA 1 (-1) (.func (.func 122) #[] #[])) ∧ w.grownBy w' none := by
 go_enter Tryz.func75, Tryz.ntmps75
 go_wp2
 refine ⟨rfl, _, ?_, rfl, ?_⟩
 ·simp [results, show Tryz.func75.results = #[.cell 2 122] from rfl, go_sem]
 ·exact grown_trans (World.grownBy_alloc _ _ _) (World.grownBy_alloc _ _ _)
theorem ckRow12 (t n : Int) (s : ByteArray) (ax : Option Addr) (kx cx : Nat) (w : World) : Calls Tryz.prog 75 #[exV 12 t n s ax kx cx] w fun r w' => r = .returned (rowA 0 1 (.func (.func 123) #[] #[])) ∧ w.grownBy w' none := by
 go_enter Tryz.func75, Tryz.ntmps75
 go_wp2
 refine ⟨rfl, _, ?_, rfl, ?_⟩
 ·simp [results, show Tryz.func75.results = #[.cell 2 122] from rfl, go_sem]
 ·exact grown_trans (World.grownBy_alloc _ _ _) (World.grownBy_alloc _ _ _)
theorem ckRow13 (t n : Int) (s : ByteArray) (ax : Option Addr) (kx cx : Nat) (w : World) : Calls Tryz.prog 75 #[exV 13 t n s ax kx cx] w fun r w' => r = .returned (rowA 3 1 (.func (.func 124) #[] #[])) ∧ w.grownBy w' none := by
 go_enter Tryz.func75, Tryz.ntmps75
 go_wp2
 refine ⟨rfl, _, ?_, rfl, ?_⟩
 ·simp [results, show Tryz.func75.results = #[.cell 2 122] from rfl, go_sem]
 ·exact grown_trans (World.grownBy_alloc _ _ _) (World.grownBy_alloc _ _ _)
theorem ckRow14 (t n : Int) (s : ByteArray) (ax : Option Addr) (kx cx : Nat) (w : World) : Calls Tryz.prog 75 #[exV 14 t n s ax kx cx] w fun r w' => r = .returned (rowA 1 2 (.func (.func 125) #[] #[])) ∧ w.grownBy w' none := by
 go_enter Tryz.func75, Tryz.ntmps75
 go_wp2
 refine ⟨rfl, _, ?_, rfl, ?_⟩
 ·simp [results, show Tryz.func75.results = #[.cell 2 122] from rfl, go_sem]
 ·exact grown_trans (World.grownBy_alloc _ _ _) (World.grownBy_alloc _ _ _)
theorem ckRow15 (t n : Int) (s : ByteArray) (ax : Option Addr) (kx cx : Nat) (w : World) : Calls Tryz.prog 75 #[exV 15 t n s ax kx cx] w fun r w' => r = .returned (rowA 1 2 (.func (.func 126) #[] #[])) ∧ w.grownBy w' none := by
 go_enter Tryz.func75, Tryz.ntmps75
 go_wp2
 refine ⟨rfl, _, ?_, rfl, ?_⟩
 ·simp [results, show Tryz.func75.results = #[.cell 2 122] from rfl, go_sem]
 ·exact grown_trans (World.grownBy_alloc _ _ _) (World.grownBy_alloc _ _ _)
theorem ckRow16 (t n : Int) (s : ByteArray) (ax : Option Addr) (kx cx : Nat) (w : World) : Calls Tryz.prog 75 #[exV 16 t n s ax kx cx] w fun r w' => r = .returned (rowA 1 1 (.func (.func 127) #[] #[])) ∧ w.grownBy w' none := by
 go_enter Tryz.func75, Tryz.ntmps75
 go_wp2
 refine ⟨rfl, _, ?_, rfl, ?_⟩
 ·simp [results, show Tryz.func75.results = #[.cell 2 122] from rfl, go_sem]
 ·exact grown_trans (World.grownBy_alloc _ _ _) (World.grownBy_alloc _ _ _)
theorem ckRow17 (t n : Int) (s : ByteArray) (ax : Option Addr) (kx cx : Nat) (w : World) : Calls Tryz.prog 75 #[exV 17 t n s ax kx cx] w fun r w' => r = .returned (rowA 0 3 (.func (.func 128) #[] #[])) ∧ w.grownBy w' none := by
 go_enter Tryz.func75, Tryz.ntmps75
 go_wp2
 refine ⟨rfl, _, ?_, rfl, ?_⟩
 ·simp [results, show Tryz.func75.results = #[.cell 2 122] from rfl, go_sem]
 ·exact grown_trans (World.grownBy_alloc _ _ _) (World.grownBy_alloc _ _ _)
theorem ckRow18 (t n : Int) (s : ByteArray) (ax : Option Addr) (kx cx : Nat) (w : World) : Calls Tryz.prog 75 #[exV 18 t n s ax kx cx] w fun r w' => r = .returned (rowA 1 0 (.func (.func 129) #[] #[])) ∧ w.grownBy w' none := by
 go_enter Tryz.func75, Tryz.ntmps75
 go_wp2
 refine ⟨rfl, _, ?_, rfl, ?_⟩
 ·simp [results, show Tryz.func75.results = #[.cell 2 122] from rfl, go_sem]
 ·exact grown_trans (World.grownBy_alloc _ _ _) (World.grownBy_alloc _ _ _)
theorem ckRow19 (t n : Int) (s : ByteArray) (ax : Option Addr) (kx cx : Nat) (w : World) : Calls Tryz.prog 75 #[exV 19 t n s ax kx cx] w fun r w' => r = .returned (rowA 1 1 (.func (.func 130) #[] #[])) ∧ w.grownBy w' none := by
 go_enter Tryz.func75, Tryz.ntmps75
 go_wp2
 refine ⟨rfl, _, ?_, rfl, ?_⟩
 ·simp [results, show Tryz.func75.results = #[.cell 2 122] from rfl, go_sem]
 ·exact grown_trans (World.grownBy_alloc _ _ _) (World.grownBy_alloc _ _ _)
theorem ckRow5f (t n : Int) (s : ByteArray) (ax : Option Addr) (kx cx : Nat) {p m : Int} {q : FuncId} (h : ∀ w, Calls Tryz.prog 117 #[.int .i64 n] w fun r w' => r = .returned (rowA p m (.func (.func q) #[] #[])) ∧ w.grownBy w' none) (w : World) : Calls Tryz.prog 75 #[exV 5 t n s ax kx cx] w fun r w' => r = .returned (rowA p m (.func (.func q) #[] #[])) ∧ w.grownBy w' none := by
 have H : Hid (∀ w, Calls Tryz.prog 117 #[.int .i64 n] w fun r w' => r = .returned (rowA p m (.func (.func q) #[] #[])) ∧ w.grownBy w' none) := h
 clear h
 have HB : Hid (∀ W, ((w.alloc (Obj.cells #[.int .i64 5, .int .i64 t, .int .i64 n, .string s, .slice ax kx cx] 45)).alloc (Obj.cells #[.int .i64 0, .int .i64 0, .nilFunc] 122)).grownBy W none → w.grownBy W none ∧ Bk W (w.heap.size + 1) 122 [.int .i64 0, .int .i64 0, .nilFunc]) := fun W g => ⟨grown_trans (grown_trans (World.grownBy_alloc _ _ _) (World.grownBy_alloc _ _ _)) g, by have h9 := (Bk.new (w.alloc (Obj.cells #[.int .i64 5, .int .i64 t, .int .i64 n, .string s, .slice ax kx cx] 45)) 122 [.int .i64 0, .int .i64 0, .nilFunc]).grow g; simpa using h9⟩
 go_enter Tryz.func75, Tryz.ntmps75
 go_wp2_with (go_at_call 117; refine (H.out _).mono ?_; rintro e w9 ⟨rfl, hg9⟩; have HB9 := HB.out _ hg9; have HG9 : Hid (w.grownBy w9 none) := HB9.1; have HK9 : Hid (Bk w9 (w.heap.size + 1) 122 [.int .i64 0, .int .i64 0, .nilFunc]) := HB9.2; have k0 := HB9.2.cell (i := 0) rfl; have k1 := HB9.2.cell (i := 1) rfl; have k2 := HB9.2.cell (i := 2) rfl; have f0 := HB9.2.frozen 0; have f1 := HB9.2.frozen 1; have f2 := HB9.2.frozen 2; clear hg9 HB9)
 change bodyPost _ _ _ _ _ (put3 w9 (w.heap.size + 1) (.int .i64 p) (.int .i64 m) (.func (.func q) #[] #[]))
 have hk := HK9.out.put3 (.int .i64 p) (.int .i64 m) (.func (.func q) #[] #[])
 have r0 := hk.cell (i := 0) rfl
 have r1 := hk.cell (i := 1) rfl
 have r2 := hk.cell (i := 2) rfl
 refine ⟨rfl, _, ?_, rfl, ?_⟩
 ·simp [results, show Tryz.func75.results = #[.cell 2 122] from rfl, go_sem, r0, r1, r2]
 ·exact ((Ch.of (l := [w.heap.size + 1]) HG9.out).trans (ch_put3 _ _ _ _ _)).nil (fun q hq => by simp at hq; omega)
theorem ckRow5n (t n : Int) (s : ByteArray) (ax : Option Addr) (kx cx : Nat) {p m : Int} (h : ∀ w, Calls Tryz.prog 117 #[.int .i64 n] w fun r w' => r = .returned (rowA p m .nilFunc) ∧ w.grownBy w' none) (w : World) : Calls Tryz.prog 75 #[exV 5 t n s ax kx cx] w fun r w' => r = .returned (rowA p m .nilFunc) ∧ w.grownBy w' none := by
 have H : Hid (∀ w, Calls Tryz.prog 117 #[.int .i64 n] w fun r w' => r = .returned (rowA p m .nilFunc) ∧ w.grownBy w' none) := h
 clear h
 have HB : Hid (∀ W, ((w.alloc (Obj.cells #[.int .i64 5, .int .i64 t, .int .i64 n, .string s, .slice ax kx cx] 45)).alloc (Obj.cells #[.int .i64 0, .int .i64 0, .nilFunc] 122)).grownBy W none → w.grownBy W none ∧ Bk W (w.heap.size + 1) 122 [.int .i64 0, .int .i64 0, .nilFunc]) := fun W g => ⟨grown_trans (grown_trans (World.grownBy_alloc _ _ _) (World.grownBy_alloc _ _ _)) g, by have h9 := (Bk.new (w.alloc (Obj.cells #[.int .i64 5, .int .i64 t, .int .i64 n, .string s, .slice ax kx cx] 45)) 122 [.int .i64 0, .int .i64 0, .nilFunc]).grow g; simpa using h9⟩
 go_enter Tryz.func75, Tryz.ntmps75
 go_wp2_with (go_at_call 117; refine (H.out _).mono ?_; rintro e w9 ⟨rfl, hg9⟩; have HB9 := HB.out _ hg9; have HG9 : Hid (w.grownBy w9 none) := HB9.1; have HK9 : Hid (Bk w9 (w.heap.size + 1) 122 [.int .i64 0, .int .i64 0, .nilFunc]) := HB9.2; have k0 := HB9.2.cell (i := 0) rfl; have k1 := HB9.2.cell (i := 1) rfl; have k2 := HB9.2.cell (i := 2) rfl; have f0 := HB9.2.frozen 0; have f1 := HB9.2.frozen 1; have f2 := HB9.2.frozen 2; clear hg9 HB9)
 change bodyPost _ _ _ _ _ (put3 w9 (w.heap.size + 1) (.int .i64 p) (.int .i64 m) .nilFunc)
 have hk := HK9.out.put3 (.int .i64 p) (.int .i64 m) .nilFunc
 have r0 := hk.cell (i := 0) rfl
 have r1 := hk.cell (i := 1) rfl
 have r2 := hk.cell (i := 2) rfl
 refine ⟨rfl, _, ?_, rfl, ?_⟩
 ·simp [results, show Tryz.func75.results = #[.cell 2 122] from rfl, go_sem, r0, r1, r2]
 ·exact ((Ch.of (l := [w.heap.size + 1]) HG9.out).trans (ch_put3 _ _ _ _ _)).nil (fun q hq => by simp at hq; omega)
theorem ckRow6f (t n : Int) (s : ByteArray) (ax : Option Addr) (kx cx : Nat) {p m : Int} {q : FuncId} (h : ∀ w, Calls Tryz.prog 118 #[.int .i64 n] w fun r w' => r = .returned (rowA p m (.func (.func q) #[] #[])) ∧ w.grownBy w' none) (w : World) : Calls Tryz.prog 75 #[exV 6 t n s ax kx cx] w fun r w' => r = .returned (rowA p m (.func (.func q) #[] #[])) ∧ w.grownBy w' none := by
 have H : Hid (∀ w, Calls Tryz.prog 118 #[.int .i64 n] w fun r w' => r = .returned (rowA p m (.func (.func q) #[] #[])) ∧ w.grownBy w' none) := h
 clear h
 have HB : Hid (∀ W, ((w.alloc (Obj.cells #[.int .i64 6, .int .i64 t, .int .i64 n, .string s, .slice ax kx cx] 45)).alloc (Obj.cells #[.int .i64 0, .int .i64 0, .nilFunc] 122)).grownBy W none → w.grownBy W none ∧ Bk W (w.heap.size + 1) 122 [.int .i64 0, .int .i64 0, .nilFunc]) := fun W g => ⟨grown_trans (grown_trans (World.grownBy_alloc _ _ _) (World.grownBy_alloc _ _ _)) g, by have h9 := (Bk.new (w.alloc (Obj.cells #[.int .i64 6, .int .i64 t, .int .i64 n, .string s, .slice ax kx cx] 45)) 122 [.int .i64 0, .int .i64 0, .nilFunc]).grow g; simpa using h9⟩
 go_enter Tryz.func75, Tryz.ntmps75
 go_wp2_with (go_at_call 118; refine (H.out _).mono ?_; rintro e w9 ⟨rfl, hg9⟩; have HB9 := HB.out _ hg9; have HG9 : Hid (w.grownBy w9 none) := HB9.1; have HK9 : Hid (Bk w9 (w.heap.size + 1) 122 [.int .i64 0, .int .i64 0, .nilFunc]) := HB9.2; have k0 := HB9.2.cell (i := 0) rfl; have k1 := HB9.2.cell (i := 1) rfl; have k2 := HB9.2.cell (i := 2) rfl; have f0 := HB9.2.frozen 0; have f1 := HB9.2.frozen 1; have f2 := HB9.2.frozen 2; clear hg9 HB9)
 change bodyPost _ _ _ _ _ (put3 w9 (w.heap.size + 1) (.int .i64 p) (.int .i64 m) (.func (.func q) #[] #[]))
 have hk := HK9.out.put3 (.int .i64 p) (.int .i64 m) (.func (.func q) #[] #[])
 have r0 := hk.cell (i := 0) rfl
 have r1 := hk.cell (i := 1) rfl
 have r2 := hk.cell (i := 2) rfl
 refine ⟨rfl, _, ?_, rfl, ?_⟩
 ·simp [results, show Tryz.func75.results = #[.cell 2 122] from rfl, go_sem, r0, r1, r2]
 ·exact ((Ch.of (l := [w.heap.size + 1]) HG9.out).trans (ch_put3 _ _ _ _ _)).nil (fun q hq => by simp at hq; omega)
theorem ckRow6n (t n : Int) (s : ByteArray) (ax : Option Addr) (kx cx : Nat) {p m : Int} (h : ∀ w, Calls Tryz.prog 118 #[.int .i64 n] w fun r w' => r = .returned (rowA p m .nilFunc) ∧ w.grownBy w' none) (w : World) : Calls Tryz.prog 75 #[exV 6 t n s ax kx cx] w fun r w' => r = .returned (rowA p m .nilFunc) ∧ w.grownBy w' none := by
 have H : Hid (∀ w, Calls Tryz.prog 118 #[.int .i64 n] w fun r w' => r = .returned (rowA p m .nilFunc) ∧ w.grownBy w' none) := h
 clear h
 have HB : Hid (∀ W, ((w.alloc (Obj.cells #[.int .i64 6, .int .i64 t, .int .i64 n, .string s, .slice ax kx cx] 45)).alloc (Obj.cells #[.int .i64 0, .int .i64 0, .nilFunc] 122)).grownBy W none → w.grownBy W none ∧ Bk W (w.heap.size + 1) 122 [.int .i64 0, .int .i64 0, .nilFunc]) := fun W g => ⟨grown_trans (grown_trans (World.grownBy_alloc _ _ _) (World.grownBy_alloc _ _ _)) g, by have h9 := (Bk.new (w.alloc (Obj.cells #[.int .i64 6, .int .i64 t, .int .i64 n, .string s, .slice ax kx cx] 45)) 122 [.int .i64 0, .int .i64 0, .nilFunc]).grow g; simpa using h9⟩
 go_enter Tryz.func75, Tryz.ntmps75
 go_wp2_with (go_at_call 118; refine (H.out _).mono ?_; rintro e w9 ⟨rfl, hg9⟩; have HB9 := HB.out _ hg9; have HG9 : Hid (w.grownBy w9 none) := HB9.1; have HK9 : Hid (Bk w9 (w.heap.size + 1) 122 [.int .i64 0, .int .i64 0, .nilFunc]) := HB9.2; have k0 := HB9.2.cell (i := 0) rfl; have k1 := HB9.2.cell (i := 1) rfl; have k2 := HB9.2.cell (i := 2) rfl; have f0 := HB9.2.frozen 0; have f1 := HB9.2.frozen 1; have f2 := HB9.2.frozen 2; clear hg9 HB9)
 change bodyPost _ _ _ _ _ (put3 w9 (w.heap.size + 1) (.int .i64 p) (.int .i64 m) .nilFunc)
 have hk := HK9.out.put3 (.int .i64 p) (.int .i64 m) .nilFunc
 have r0 := hk.cell (i := 0) rfl
 have r1 := hk.cell (i := 1) rfl
 have r2 := hk.cell (i := 2) rfl
 refine ⟨rfl, _, ?_, rfl, ?_⟩
 ·simp [results, show Tryz.func75.results = #[.cell 2 122] from rfl, go_sem, r0, r1, r2]
 ·exact ((Ch.of (l := [w.heap.size + 1]) HG9.out).trans (ch_put3 _ _ _ _ _)).nil (fun q hq => by simp at hq; omega)
theorem ckRow0 (op : Int) (t n : Int) (s : ByteArray) (ax : Option Addr) (kx cx : Nat) (h : ¬ (1 ≤ op ∧ op ≤ 19)) (w : World) : Calls Tryz.prog 75 #[exV op t n s ax kx cx] w fun r w' => r = .returned (rowA 0 0 .nilFunc) ∧ w.grownBy w' none := by
 have q1 : (op == 1) = false := by simp; omega
 have q2 : (op == 2) = false := by simp; omega
 have q3 : (op == 3) = false := by simp; omega
 have q4 : (op == 4) = false := by simp; omega
 have q5 : (op == 5) = false := by simp; omega
 have q6 : (op == 6) = false := by simp; omega
 have q7 : (op == 7) = false := by simp; omega
 have q8 : (op == 8) = false := by simp; omega
 have q9 : (op == 9) = false := by simp; omega
 have q10 : (op == 10) = false := by simp; omega
 have q11 : (op == 11) = false := by simp; omega
 have q12 : (op == 12) = false := by simp; omega
 have q13 : (op == 13) = false := by simp; omega
 have q14 : (op == 14) = false := by simp; omega
 have q15 : (op == 15) = false := by simp; omega
 have q16 : (op == 16) = false := by simp; omega
 have q17 : (op == 17) = false := by simp; omega
 have q18 : (op == 18) = false := by simp; omega
 have q19 : (op == 19) = false := by simp; omega
 clear h
 go_enter Tryz.func75, Tryz.ntmps75
 go_wp2
 refine ⟨rfl, _, ?_, rfl, ?_⟩
 ·simp [results, show Tryz.func75.results = #[.cell 2 122] from rfl, go_sem]
 ·exact grown_trans (World.grownBy_alloc _ _ _) (World.grownBy_alloc _ _ _)
theorem ckRow_any (op t n : Int) (s : ByteArray) (ax : Option Addr) (kx cx : Nat) (w : World) : Calls Tryz.prog 75 #[exV op t n s ax kx cx] w fun r w' => r = .returned (rowV op n) ∧ w.grownBy w' none := by
 by_cases h : 1 ≤ op ∧ op ≤ 19
 ·obtain rfl | rfl | rfl | rfl | rfl | rfl | rfl | rfl | rfl | rfl | rfl | rfl | rfl | rfl | rfl | rfl | rfl | rfl | rfl : op = 1 ∨ op = 2 ∨ op = 3 ∨ op = 4 ∨ op = 5 ∨ op = 6 ∨ op = 7 ∨ op = 8 ∨ op = 9 ∨ op = 10 ∨ op = 11 ∨ op = 12 ∨ op = 13 ∨ op = 14 ∨ op = 15 ∨ op = 16 ∨ op = 17 ∨ op = 18 ∨ op = 19 := by omega
  ·rw [show rowV 1 n = rowA 3 0 (.func (.func 113) #[] #[]) from by simp [rowV, Ck.trow, tfn, Ck.pI]]
   exact ckRow1 t n s ax kx cx w
  ·rw [show rowV 2 n = rowA 5 0 (.func (.func 114) #[] #[]) from by simp [rowV, Ck.trow, tfn, Ck.pI]]
   exact ckRow2 t n s ax kx cx w
  ·rw [show rowV 3 n = rowA 1 0 (.func (.func 115) #[] #[]) from by simp [rowV, Ck.trow, tfn, Ck.pI]]
   exact ckRow3 t n s ax kx cx w
  ·rw [show rowV 4 n = rowA 2 0 (.func (.func 116) #[] #[]) from by simp [rowV, Ck.trow, tfn, Ck.pI]]
   exact ckRow4 t n s ax kx cx w
  ·by_cases h1 : 1 ≤ n ∧ n ≤ 3
   ·rw [show rowV 5 n = rowA 2 1 (.func (.func 161) #[] #[]) from by simp [rowV, Ck.trow, tfn, Ck.pI, h1]]
    exact ckRow5f t n s ax kx cx (fun w => ckUnRow_ok h1 w) w
   ·rw [show rowV 5 n = rowA 0 0 .nilFunc from by simp [rowV, Ck.trow, h1]]
    exact ckRow5n t n s ax kx cx (fun w => ckUnRow_no h1 w) w
  ·by_cases h1 : 1 ≤ n ∧ n ≤ 8
   ·skip
    rw [show rowV 6 n = rowA 2 2 (.func (.func 162) #[] #[]) from by unfold rowV tfn; rw [show Ck.trow 6 n = some (false, true, false, 2) from by unfold Ck.trow; rw [if_neg (by omega), if_neg (by omega), if_neg (by omega), if_neg (by omega), if_neg (by omega), if_pos rfl, if_pos (by omega)], if_neg (by omega), if_pos (by omega)]; rfl]
    exact ckRow6f t n s ax kx cx (fun w => ckBinRow_a h1 w) w
   ·by_cases h2 : n = 9 ∨ n = 10
    ·skip
     rw [show rowV 6 n = rowA 2 2 (.func (.func 163) #[] #[]) from by rcases h2 with rfl | rfl <;> simp [rowV, Ck.trow, tfn, Ck.pI]]
     exact ckRow6f t n s ax kx cx (fun w => ckBinRow_s h2 w) w
    ·by_cases h3 : 11 ≤ n ∧ n ≤ 16
     ·skip
      rw [show rowV 6 n = rowA 3 2 (.func (.func 164) #[] #[]) from by unfold rowV tfn; rw [show Ck.trow 6 n = some (true, true, false, 2) from by unfold Ck.trow; rw [if_neg (by omega), if_neg (by omega), if_neg (by omega), if_neg (by omega), if_neg (by omega), if_pos rfl, if_neg (by omega), if_pos (by omega)], if_neg (by omega), if_neg (by omega), if_neg (by omega), if_pos rfl]; rfl]
      exact ckRow6f t n s ax kx cx (fun w => ckBinRow_c h3 w) w
     ·rw [show rowV 6 n = rowA 0 0 .nilFunc from by unfold rowV; rw [show Ck.trow 6 n = none from by unfold Ck.trow; rw [if_neg (by omega), if_neg (by omega), if_neg (by omega), if_neg (by omega), if_neg (by omega), if_pos rfl, if_neg (by omega), if_neg (by omega)]]]
      by_cases h4 : n ≤ 0
      ·exact ckRow6n t n s ax kx cx (fun w => ckBinRow_lo h4 w) w
      ·exact ckRow6n t n s ax kx cx (fun w => ckBinRow_hi (by omega) w) w
  ·rw [show rowV 7 n = rowA 0 2 (.func (.func 119) #[] #[]) from by simp [rowV, Ck.trow, tfn, Ck.pI]]
   exact ckRow7 t n s ax kx cx w
  ·rw [show rowV 8 n = rowA 0 2 (.func (.func 119) #[] #[]) from by simp [rowV, Ck.trow, tfn, Ck.pI]]
   exact ckRow8 t n s ax kx cx w
  ·rw [show rowV 9 n = rowA 1 1 (.func (.func 120) #[] #[]) from by simp [rowV, Ck.trow, tfn, Ck.pI]]
   exact ckRow9 t n s ax kx cx w
  ·rw [show rowV 10 n = rowA 2 1 (.func (.func 121) #[] #[]) from by simp [rowV, Ck.trow, tfn, Ck.pI]]
   exact ckRow10 t n s ax kx cx w
  ·rw [show rowV 11 n = rowA 1 (-1) (.func (.func 122) #[] #[]) from by simp [rowV, Ck.trow, tfn, Ck.pI]]
   exact ckRow11 t n s ax kx cx w
  ·rw [show rowV 12 n = rowA 0 1 (.func (.func 123) #[] #[]) from by simp [rowV, Ck.trow, tfn, Ck.pI]]
   exact ckRow12 t n s ax kx cx w
  ·rw [show rowV 13 n = rowA 3 1 (.func (.func 124) #[] #[]) from by simp [rowV, Ck.trow, tfn, Ck.pI]]
   exact ckRow13 t n s ax kx cx w
  ·rw [show rowV 14 n = rowA 1 2 (.func (.func 125) #[] #[]) from by simp [rowV, Ck.trow, tfn, Ck.pI]]
   exact ckRow14 t n s ax kx cx w
  ·rw [show rowV 15 n = rowA 1 2 (.func (.func 126) #[] #[]) from by simp [rowV, Ck.trow, tfn, Ck.pI]]
   exact ckRow15 t n s ax kx cx w
  ·rw [show rowV 16 n = rowA 1 1 (.func (.func 127) #[] #[]) from by simp [rowV, Ck.trow, tfn, Ck.pI]]
   exact ckRow16 t n s ax kx cx w
  ·rw [show rowV 17 n = rowA 0 3 (.func (.func 128) #[] #[]) from by simp [rowV, Ck.trow, tfn, Ck.pI]]
   exact ckRow17 t n s ax kx cx w
  ·rw [show rowV 18 n = rowA 1 0 (.func (.func 129) #[] #[]) from by simp [rowV, Ck.trow, tfn, Ck.pI]]
   exact ckRow18 t n s ax kx cx w
  ·rw [show rowV 19 n = rowA 1 1 (.func (.func 130) #[] #[]) from by simp [rowV, Ck.trow, tfn, Ck.pI]]
   exact ckRow19 t n s ax kx cx w
 ·rw [show rowV op n = rowA 0 0 .nilFunc from by unfold rowV; rw [show Ck.trow op n = none from by unfold Ck.trow; repeat rw [if_neg (by omega)]]]
  exact ckRow0 op t n s ax kx cx h w
theorem ckParts_any (op t n : Int) (s : ByteArray) (ax : Option Addr) (kx cx : Nat) (hs : s.size ≤ reachBytes) (w : World) : Calls Tryz.prog 76 #[exV op t n s ax kx cx] w fun r w' => r = .returned (.int .i64 (Ck.pI (t != 0) (n != 0) (decide (0 < s.size)))) ∧ w.grownBy w' none := by
 have g1 := World.grownBy_alloc w (Obj.cells #[.int .i64 op, .int .i64 t, .int .i64 n, .string s, .slice ax kx cx] 45) none
 have kb : Bk (w.alloc (Obj.cells #[.int .i64 op, .int .i64 t, .int .i64 n, .string s, .slice ax kx cx] 45)) w.heap.size 45 [.int .i64 op, .int .i64 t, .int .i64 n, .string s, .slice ax kx cx] := Bk.new _ _ _
 obtain ⟨W1, hW1⟩ : ∃ W, W = w.alloc (Obj.cells #[.int .i64 op, .int .i64 t, .int .i64 n, .string s, .slice ax kx cx] 45) := ⟨_, rfl⟩
 obtain ⟨B4, hB4⟩ : ∃ B, B = w.heap.size := ⟨_, rfl⟩
 rw [← hW1] at g1 kb
 rw [← hB4] at kb
 have HW : Hid (w.alloc (Obj.cells #[.int .i64 op, .int .i64 t, .int .i64 n, .string s, .slice ax kx cx] 45) = W1 ∧ w.heap.size = B4) := ⟨hW1.symm, hB4.symm⟩
 have HG : Hid (w.grownBy W1 none) := g1
 have HX : Hid (∀ W, W1.grownBy W none → W.cell? ⟨B4, 1, none⟩ = some (.int .i64 t) ∧ W.cell? ⟨B4, 2, none⟩ = some (.int .i64 n) ∧ W.cell? ⟨B4, 3, none⟩ = some (.string s)) := fun W g => ⟨(kb.grow g).cell (i := 1) rfl, (kb.grow g).cell (i := 2) rfl, (kb.grow g).cell (i := 3) rfl⟩
 clear hW1 hB4 g1 kb
 have HP : Hid (∀ (p : Int) W, W1.grownBy W none → Calls Tryz.prog 131 #[.int .i64 p, .bool true] W fun r w' => r = .returned (.int .i64 p) ∧ W.grownBy w' none) := fun p W _ => (ckPart_any p true W).mono fun r w' h => ⟨h.1, by rw [h.2]; exact World.grownBy.refl _ _⟩
 have HP0 : Hid (∀ (p : Int) W, W1.grownBy W none → Calls Tryz.prog 131 #[.int .i64 p, .bool false] W fun r w' => r = .returned (.int .i64 0) ∧ W.grownBy w' none) := fun p W _ => (ckPart_any p false W).mono fun r w' h => ⟨h.1, by rw [h.2]; exact World.grownBy.refl _ _⟩
 rcases Bool.eq_false_or_eq_true (t != 0) with q0 | q0
 all_goals rcases Bool.eq_false_or_eq_true (n != 0) with q1 | q1
 all_goals rcases Bool.eq_false_or_eq_true (decide (0 < s.size)) with q2 | q2
 all_goals
  rw [q0, q1, q2]
  go_enter Tryz.func76, Tryz.ntmps76
  go_wp2_with fail
  rw [HW.out.1, HW.out.2]
  refine region_lg 15 (World.grownBy.refl _ _) (by kernel_rfl) (by kernel_rfl) (by kernel_rfl) (by kernel_rfl) ?_
  simp only [List.take_succ_cons, List.take_zero]
  repeat (first
   | (refine lx_end fun W0 GR => ?_)
   | (refine lx_no ?_ ?_ ?_; (· simp [Region.wanted]; done); (· kernel_rfl); simp only [Act.put, List.setIfInBounds_toArray, List.set_cons_succ, List.set_cons_zero])
   | (refine lx_val (v := ?_) ?_ ?_ ?_ ?_; rotate_left; (· kernel_rfl); (· exact ⟨by kernel_rfl, rfl⟩); (· intro W g; simp [go_sem, (HX.out W g).1, (HX.out W g).2.1, (HX.out W g).2.2, q0, q1, q2]; rfl); simp only [Act.put, List.setIfInBounds_toArray, List.set_cons_succ, List.set_cons_zero])
   | (refine lx_callg (HP.out 1) ?_ ?_ ?_ ?_; (· kernel_rfl); (· exact ⟨by kernel_rfl, rfl⟩); (· intro W g; simp [go_sem]; done); simp only [Act.put, List.setIfInBounds_toArray, List.set_cons_succ, List.set_cons_zero])
   | (refine lx_callg (HP0.out 1) ?_ ?_ ?_ ?_; (· kernel_rfl); (· exact ⟨by kernel_rfl, rfl⟩); (· intro W g; simp [go_sem]; done); simp only [Act.put, List.setIfInBounds_toArray, List.set_cons_succ, List.set_cons_zero])
   | (refine lx_callg (HP.out 2) ?_ ?_ ?_ ?_; (· kernel_rfl); (· exact ⟨by kernel_rfl, rfl⟩); (· intro W g; simp [go_sem]; done); simp only [Act.put, List.setIfInBounds_toArray, List.set_cons_succ, List.set_cons_zero])
   | (refine lx_callg (HP0.out 2) ?_ ?_ ?_ ?_; (· kernel_rfl); (· exact ⟨by kernel_rfl, rfl⟩); (· intro W g; simp [go_sem]; done); simp only [Act.put, List.setIfInBounds_toArray, List.set_cons_succ, List.set_cons_zero])
   | (refine lx_callg (HP.out 4) ?_ ?_ ?_ ?_; (· kernel_rfl); (· exact ⟨by kernel_rfl, rfl⟩); (· intro W g; simp [go_sem]; done); simp only [Act.put, List.setIfInBounds_toArray, List.set_cons_succ, List.set_cons_zero])
   | (refine lx_callg (HP0.out 4) ?_ ?_ ?_ ?_; (· kernel_rfl); (· exact ⟨by kernel_rfl, rfl⟩); (· intro W g; simp [go_sem]; done); simp only [Act.put, List.setIfInBounds_toArray, List.set_cons_succ, List.set_cons_zero]))
  simp only [List.drop_succ_cons, List.drop_zero]
  go_wp2
  go_ret
  exact ⟨rfl, grown_trans HG.out GR⟩
end Go.Proofs.YtpcgkggpmipiaaaGreat
