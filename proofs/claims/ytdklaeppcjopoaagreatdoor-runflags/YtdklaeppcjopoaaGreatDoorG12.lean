/- Contracts and plain facts that the walks share, text by text: RuNt, RuNu. -/
import Derived.Test.YtdklaeppcjopoaaGreatDoorG11
/- run.New: what is behind the composite. -/
namespace Go.Proofs.YtdklaeppcjopoaaGreatDoor
open Go.RowKit
set_option linter.unusedVariables false

noncomputable def newRest : Code := (Tryz.f33.body.bind (codeFrom1 8)).getD .skip
set_option maxRecDepth 100000 in
set_option maxHeartbeats 4000000 in
theorem new_rest1 {Post : Ending → World → Prop} (S an ac dn cn cap b0 N M : Nat) (aa ao : Option Addr) (en Z : Int) (zb : Bool) (R : Nat → Int) (W5 W8 : World) (v17 : Value) (s1 : (8192 : Int) ≤ S) (s2 : (S : Int) ≤ 1048576) (hd3 : (dn : Int) ≤ 1048576)
    (HPr : Hid (∀ W, Calls Tryz.prog 49 #[.int .u64 (4096 + (dn : Int))] W fun r w' => r = .returned (.tuple #[.int .u64 Z, .bool zb]) ∧ w' = W))
    (hcopy : (Builtin.copy_ #[35, 35] 3 #[.slice (some ⟨N, 2, none⟩) 16 16, .slice aa an ac]).run Tryz.prog ((W5.setCell ⟨N, 19, none⟩ (.int .u64 Z)).setCell ⟨N, 20, none⟩ (.int .u64 ((S : Int) - 4096))) = .ok (goInt an) W8)
    (c17 : W8.cell? ⟨N, 17, none⟩ = some v17) (f8 : W8.frozen? ⟨N, 17, none⟩ = false) (c19 : W5.cell? ⟨N, 19, none⟩ = some (.int .u64 0)) (c20 : W5.cell? ⟨N, 20, none⟩ = some (.int .u64 0)) (f5 : W5.frozen? ⟨N, 19, none⟩ = false) (f6 : W5.frozen? ⟨N, 20, none⟩ = false)
    (HT : Hid ((W8.setCell ⟨N, 17, none⟩ (.int .u64 (S : Int))).cell? ⟨b0, 0, none⟩ = some (.int .i64 1))) (HH : Hid ((W8.setCell ⟨N, 17, none⟩ (.int .u64 (S : Int))).heap[N]? = some (.cells #[.slice ao cn cap, .int .u64 en, .int .u64 (R 0), .int .u64 (R 1), .int .u64 (R 2), .int .u64 (R 3), .int .u64 (R 4), .int .u64 (R 5), .int .u64 (R 6), .int .u64 (R 7), .int .u64 (R 8), .int .u64 (R 9), .int .u64 (R 10), .int .u64 (R 11), .int .u64 (R 12), .int .u64 (R 13), .int .u64 (R 14), .int .u64 (R 15), .pointer (some ⟨M, 0, none⟩), .int .u64 Z, .int .u64 ((S : Int) - 4096), .int .i64 0, .int .i64 0] 85 (0, 0))))
    (HP : Hid (Post (.returned (.tuple #[.pointer (some ⟨(W8.setCell ⟨N, 17, none⟩ (.int .u64 (S : Int))).heap.size + 1, 0, none⟩), .int .i64 0])) (((W8.setCell ⟨N, 17, none⟩ (.int .u64 (S : Int))).alloc (Obj.cells #[.slice ao cn cap, .int .u64 en, .int .u64 (R 0), .int .u64 (R 1), .int .u64 (R 2), .int .u64 (R 3), .int .u64 (R 4), .int .u64 (R 5), .int .u64 (R 6), .int .u64 (R 7), .int .u64 (R 8), .int .u64 (R 9), .int .u64 (R 10), .int .u64 (R 11), .int .u64 (R 12), .int .u64 (R 13), .int .u64 (R 14), .int .u64 (R 15), .pointer (some ⟨M, 0, none⟩), .int .u64 Z, .int .u64 ((S : Int) - 4096), .int .i64 0, .int .i64 0] 113)).alloc (Obj.cells #[.iface 111 (.pointer (some ⟨(W8.setCell ⟨N, 17, none⟩ (.int .u64 (S : Int))).heap.size, 0, none⟩))] 81)))) (x0 x4 x5 x6 x7 x8 x9 x12 x13 x14 x15 x16 x17 x18 x19 x20 x21 x22 x23 x24 x25 x26 x27 x28 x29 x30 x31 x32 x33 x34 x35 x36 x37 x38 x39 x40 x41 x42 x43 x44 x45 x46 x47 x48 x49 x50 x51 x52 x53 x54 x55 x56 x57 x58 x59 x60 x61 x62 x63 x64 x65 x66 x67 x68 x69 x70 x71 x72 x73 x74 x75 x76 x77 x78 x79 x80 x81 x82 : Value) :
    Code.wp Tryz.prog newRest (bodyPost Tryz.prog Tryz.f33 Post) ⟨#[x0, .int .i64 (S : Int), .slice aa an ac, .pointer (some ⟨b0, 0, none⟩), x4, x5, x6, x7, x8, x9, .int .i64 (4096 + (dn : Int)), .pointer (some ⟨N, 0, none⟩), x12, x13, x14, x15, x16, x17, x18, x19, x20, x21, x22, x23, x24, x25, x26, x27, x28, x29, x30, x31, x32, x33, x34, x35, x36, x37, x38, x39, x40, x41, x42, x43, x44, x45, x46, x47, x48, x49, x50, x51, x52, x53, x54, x55, x56, x57, x58, x59, x60, x61, x62, x63, x64, x65, x66, x67, x68, x69, x70, x71, x72, x73, x74, x75, x76, x77, x78, x79, x80, x81, x82], []⟩ W5 := by
  conv => arg 2; whnf
  refine wp_seq_k (fun K hK => ?_)
  have HK : Hid _ := hK
  clear hK
  go_wp2_with (go_at_call 49; refine (HPr.out _).mono ?_; rintro r w9 ⟨rfl, rfl⟩)
  refine HK.out _ _ ?_
  clear HK
  refine wp_seq_k (fun K hK => ?_)
  have HK : Hid _ := hK
  clear hK
  go_wp2_with (go_at_call 49; refine (HPr.out _).mono ?_; rintro r w9 ⟨rfl, rfl⟩)
  refine HK.out _ _ ?_
  clear HK
  refine wp_seq_k (fun K hK => ?_)
  have HK : Hid _ := hK
  clear hK
  go_wp2_with (go_at_call 49; refine (HPr.out _).mono ?_; rintro r w9 ⟨rfl, rfl⟩)
  refine HK.out _ _ ?_
  clear HK
  refine wp_seq_k (fun K hK => ?_)
  have HK : Hid _ := hK
  clear hK
  go_wp2_with (go_at_call 49; refine (HPr.out _).mono ?_; rintro r w9 ⟨rfl, rfl⟩)
  refine HK.out _ _ ?_
  clear HK
  exact new_end1 cn cap b0 N M ao en Z ((S : Int) - 4096) R _ HT.out HH.out HP _ _ _ _ _ _ _ _ _ _ _ _ _ _ _ _ _ _ _ _ _ _ _ _ _ _ _ _ _ _ _ _ _ _ _ _ _ _ _ _ _ _ _ _ _ _ _ _ _ _ _ _ _ _ _ _ _ _ _ _ _ _ _ _ _ _ _ _ _ _ _ _ _ _ _ _ _ _ _ _ _
set_option maxRecDepth 100000 in
set_option maxHeartbeats 4000000 in
theorem new_rest2 {Post : Ending → World → Prop} (S an ac dn cn cap b0 N M : Nat) (aa ao : Option Addr) (en Z : Int) (zb : Bool) (R : Nat → Int) (W5 W8 : World) (v17 : Value) (s1 : (8192 : Int) ≤ S) (s2 : (S : Int) ≤ 1048576) (hd3 : (dn : Int) ≤ 1048576)
    (HPr : Hid (∀ W, Calls Tryz.prog 49 #[.int .u64 (4096 + (dn : Int))] W fun r w' => r = .returned (.tuple #[.int .u64 Z, .bool zb]) ∧ w' = W))
    (hcopy : (Builtin.copy_ #[35, 35] 3 #[.slice (some ⟨N, 2, none⟩) 16 16, .slice aa an ac]).run Tryz.prog ((W5.setCell ⟨N, 19, none⟩ (.int .u64 Z)).setCell ⟨N, 20, none⟩ (.int .u64 ((S : Int) - 4096))) = .ok (goInt an) W8)
    (c17 : W8.cell? ⟨N, 17, none⟩ = some v17) (f8 : W8.frozen? ⟨N, 17, none⟩ = false) (c19 : W5.cell? ⟨N, 19, none⟩ = some (.int .u64 0)) (c20 : W5.cell? ⟨N, 20, none⟩ = some (.int .u64 0)) (f5 : W5.frozen? ⟨N, 19, none⟩ = false) (f6 : W5.frozen? ⟨N, 20, none⟩ = false)
    (HT : Hid ((W8.setCell ⟨N, 17, none⟩ (.int .u64 (S : Int))).cell? ⟨b0, 0, none⟩ = some (.int .i64 2))) (HH : Hid ((W8.setCell ⟨N, 17, none⟩ (.int .u64 (S : Int))).heap[N]? = some (.cells #[.slice ao cn cap, .int .u64 en, .int .u64 (R 0), .int .u64 (R 1), .int .u64 (R 2), .int .u64 (R 3), .int .u64 (R 4), .int .u64 (R 5), .int .u64 (R 6), .int .u64 (R 7), .int .u64 (R 8), .int .u64 (R 9), .int .u64 (R 10), .int .u64 (R 11), .int .u64 (R 12), .int .u64 (R 13), .int .u64 (R 14), .int .u64 (R 15), .pointer (some ⟨M, 0, none⟩), .int .u64 Z, .int .u64 ((S : Int) - 4096), .int .i64 0, .int .i64 0] 85 (0, 0))))
    (HP : Hid (Post (.returned (.tuple #[.pointer (some ⟨(W8.setCell ⟨N, 17, none⟩ (.int .u64 (S : Int))).heap.size + 1, 0, none⟩), .int .i64 0])) (((W8.setCell ⟨N, 17, none⟩ (.int .u64 (S : Int))).alloc (Obj.cells #[.slice ao cn cap, .int .u64 en, .int .u64 (R 0), .int .u64 (R 1), .int .u64 (R 2), .int .u64 (R 3), .int .u64 (R 4), .int .u64 (R 5), .int .u64 (R 6), .int .u64 (R 7), .int .u64 (R 8), .int .u64 (R 9), .int .u64 (R 10), .int .u64 (R 11), .int .u64 (R 12), .int .u64 (R 13), .int .u64 (R 14), .int .u64 (R 15), .pointer (some ⟨M, 0, none⟩), .int .u64 Z, .int .u64 ((S : Int) - 4096), .int .i64 0, .int .i64 0, .int .i64 0, .int .u64 0, .int .u64 0] 118)).alloc (Obj.cells #[.iface 114 (.pointer (some ⟨(W8.setCell ⟨N, 17, none⟩ (.int .u64 (S : Int))).heap.size, 0, none⟩))] 81)))) (x0 x4 x5 x6 x7 x8 x9 x12 x13 x14 x15 x16 x17 x18 x19 x20 x21 x22 x23 x24 x25 x26 x27 x28 x29 x30 x31 x32 x33 x34 x35 x36 x37 x38 x39 x40 x41 x42 x43 x44 x45 x46 x47 x48 x49 x50 x51 x52 x53 x54 x55 x56 x57 x58 x59 x60 x61 x62 x63 x64 x65 x66 x67 x68 x69 x70 x71 x72 x73 x74 x75 x76 x77 x78 x79 x80 x81 x82 : Value) :
    Code.wp Tryz.prog newRest (bodyPost Tryz.prog Tryz.f33 Post) ⟨#[x0, .int .i64 (S : Int), .slice aa an ac, .pointer (some ⟨b0, 0, none⟩), x4, x5, x6, x7, x8, x9, .int .i64 (4096 + (dn : Int)), .pointer (some ⟨N, 0, none⟩), x12, x13, x14, x15, x16, x17, x18, x19, x20, x21, x22, x23, x24, x25, x26, x27, x28, x29, x30, x31, x32, x33, x34, x35, x36, x37, x38, x39, x40, x41, x42, x43, x44, x45, x46, x47, x48, x49, x50, x51, x52, x53, x54, x55, x56, x57, x58, x59, x60, x61, x62, x63, x64, x65, x66, x67, x68, x69, x70, x71, x72, x73, x74, x75, x76, x77, x78, x79, x80, x81, x82], []⟩ W5 := by
  conv => arg 2; whnf
  refine wp_seq_k (fun K hK => ?_)
  have HK : Hid _ := hK
  clear hK
  go_wp2_with (go_at_call 49; refine (HPr.out _).mono ?_; rintro r w9 ⟨rfl, rfl⟩)
  refine HK.out _ _ ?_
  clear HK
  refine wp_seq_k (fun K hK => ?_)
  have HK : Hid _ := hK
  clear hK
  go_wp2_with (go_at_call 49; refine (HPr.out _).mono ?_; rintro r w9 ⟨rfl, rfl⟩)
  refine HK.out _ _ ?_
  clear HK
  refine wp_seq_k (fun K hK => ?_)
  have HK : Hid _ := hK
  clear hK
  go_wp2_with (go_at_call 49; refine (HPr.out _).mono ?_; rintro r w9 ⟨rfl, rfl⟩)
  refine HK.out _ _ ?_
  clear HK
  refine wp_seq_k (fun K hK => ?_)
  have HK : Hid _ := hK
  clear hK
  go_wp2_with (go_at_call 49; refine (HPr.out _).mono ?_; rintro r w9 ⟨rfl, rfl⟩)
  refine HK.out _ _ ?_
  clear HK
  exact new_end2 cn cap b0 N M ao en Z ((S : Int) - 4096) R _ HT.out HH.out HP _ _ _ _ _ _ _ _ _ _ _ _ _ _ _ _ _ _ _ _ _ _ _ _ _ _ _ _ _ _ _ _ _ _ _ _ _ _ _ _ _ _ _ _ _ _ _ _ _ _ _ _ _ _ _ _ _ _ _ _ _ _ _ _ _ _ _ _ _ _ _ _ _ _ _ _ _ _ _ _ _
end Go.Proofs.YtdklaeppcjopoaaGreatDoor

/- run.New: a machine that has just been made. -/
namespace Go.Proofs.YtdklaeppcjopoaaGreatDoor
open Go.RowKit
set_option linter.unusedVariables false

/-- a row of which each cell is known, as a literal -/
theorem row_lit {w : World} {N n : Nat} {t : TypeId} (xs : Array Value) (hn : xs.size = n) (h : w.rowIs N t n (fun i => xs.getD i undef)) : w.heap[N]? = some (.cells xs t (0, 0)) := by
  obtain ⟨cur, h1, h2, h3⟩ := h
  have e : cur = xs := by
    apply Array.ext
    · omega
    · intro i ha hb
      have h4 := h3 i (by omega)
      rw [Array.getElem?_eq_getElem ha] at h4
      injection h4 with h4
      rw [h4]
      simp [Array.getD, hb]
  rw [← e]
  exact h1
theorem fresh_row1 (h : Pd) (s : Ru.St) (ht : h.t = 1) (W : World) (R : Nat → Int) (pl Z e n k x y : Int) (hR : ∀ i, R i = s.r i) (hp : pl = Ru.wr s.pl) (hZ : Z = s.hp) (he : e = s.e) (hn : n = s.n) (hk : k = s.k) (hx : x = s.x) (hy : y = s.y) :
    (W.alloc (Obj.cells #[.slice h.ao h.N h.cap, .int .u64 pl, .int .u64 (R 0), .int .u64 (R 1), .int .u64 (R 2), .int .u64 (R 3), .int .u64 (R 4), .int .u64 (R 5), .int .u64 (R 6), .int .u64 (R 7), .int .u64 (R 8), .int .u64 (R 9), .int .u64 (R 10), .int .u64 (R 11), .int .u64 (R 12), .int .u64 (R 13), .int .u64 (R 14), .int .u64 (R 15), .pointer (some ⟨h.M, 0, none⟩), .int .u64 Z, .int .u64 ((h.S : Int) - 4096), .int .i64 e, .int .i64 n] 113)).rowIs W.heap.size h.ty h.n (h.fld s) := by
  obtain rfl : R = s.r := funext hR
  subst hp hZ he hn hk hx hy
  have e1 : h.ty = 113 := by unfold Pd.ty; rw [ht]; rfl
  have e2 : h.n = 23 := by unfold Pd.n; rw [ht]; rfl
  rw [e1, e2]
  refine World.rowIs_alloc W _ _ _ (fun i hi => ?_)
  have hj : i = 0 ∨ i = 1 ∨ i = 2 ∨ i = 3 ∨ i = 4 ∨ i = 5 ∨ i = 6 ∨ i = 7 ∨ i = 8 ∨ i = 9 ∨ i = 10 ∨ i = 11 ∨ i = 12 ∨ i = 13 ∨ i = 14 ∨ i = 15 ∨ i = 16 ∨ i = 17 ∨ i = 18 ∨ i = 19 ∨ i = 20 ∨ i = 21 ∨ i = 22 := by
    have : i < 23 := hi
    omega
  rcases hj with rfl | rfl | rfl | rfl | rfl | rfl | rfl | rfl | rfl | rfl | rfl | rfl | rfl | rfl | rfl | rfl | rfl | rfl | rfl | rfl | rfl | rfl | rfl <;> rfl
theorem fresh_row2 (h : Pd) (s : Ru.St) (ht : h.t = 2) (W : World) (R : Nat → Int) (pl Z e n k x y : Int) (hR : ∀ i, R i = s.r i) (hp : pl = Ru.wr s.pl) (hZ : Z = s.hp) (he : e = s.e) (hn : n = s.n) (hk : k = s.k) (hx : x = s.x) (hy : y = s.y) :
    (W.alloc (Obj.cells #[.slice h.ao h.N h.cap, .int .u64 pl, .int .u64 (R 0), .int .u64 (R 1), .int .u64 (R 2), .int .u64 (R 3), .int .u64 (R 4), .int .u64 (R 5), .int .u64 (R 6), .int .u64 (R 7), .int .u64 (R 8), .int .u64 (R 9), .int .u64 (R 10), .int .u64 (R 11), .int .u64 (R 12), .int .u64 (R 13), .int .u64 (R 14), .int .u64 (R 15), .pointer (some ⟨h.M, 0, none⟩), .int .u64 Z, .int .u64 ((h.S : Int) - 4096), .int .i64 e, .int .i64 n, .int .i64 k, .int .u64 x, .int .u64 y] 118)).rowIs W.heap.size h.ty h.n (h.fld s) := by
  obtain rfl : R = s.r := funext hR
  subst hp hZ he hn hk hx hy
  have e1 : h.ty = 118 := by unfold Pd.ty; rw [ht]; rfl
  have e2 : h.n = 26 := by unfold Pd.n; rw [ht]; rfl
  rw [e1, e2]
  refine World.rowIs_alloc W _ _ _ (fun i hi => ?_)
  have hj : i = 0 ∨ i = 1 ∨ i = 2 ∨ i = 3 ∨ i = 4 ∨ i = 5 ∨ i = 6 ∨ i = 7 ∨ i = 8 ∨ i = 9 ∨ i = 10 ∨ i = 11 ∨ i = 12 ∨ i = 13 ∨ i = 14 ∨ i = 15 ∨ i = 16 ∨ i = 17 ∨ i = 18 ∨ i = 19 ∨ i = 20 ∨ i = 21 ∨ i = 22 ∨ i = 23 ∨ i = 24 ∨ i = 25 := by
    have : i < 26 := hi
    omega
  rcases hj with rfl | rfl | rfl | rfl | rfl | rfl | rfl | rfl | rfl | rfl | rfl | rfl | rfl | rfl | rfl | rfl | rfl | rfl | rfl | rfl | rfl | rfl | rfl | rfl | rfl | rfl <;> rfl
end Go.Proofs.YtdklaeppcjopoaaGreatDoor
