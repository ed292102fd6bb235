/- form.bytes, gantryref3.Encode: contracts. -/
import Derived.Test.YtkpmhgkljedapaaRcDefs
import Derived.Test.YtkpmhgkljedapaaMHelp
namespace Go.Proofs.Ytkpmhgkljedapaa
open Go.RowKit
set_option linter.unusedVariables false

namespace Rc
/-- a form's bytes -/
def fb (f : FmV) (i : Nat) : Int :=
  if i = 0 then f.code % 256 else if i = 1 then f.a % 256 else if i = 2 then f.b % 256 else if i = 3 then f.c % 256 else Mm.by8 f.n (i - 4)
theorem bytes8 (g : Nat → Int) : bytesL 8 g = [.int .u8 (g 0), .int .u8 (g 1), .int .u8 (g 2), .int .u8 (g 3), .int .u8 (g 4), .int .u8 (g 5), .int .u8 (g 6), .int .u8 (g 7)] := rfl
end Rc
theorem own8 {w : World} {base : Nat} (hb : base ≤ w.heap.size) (g : Nat → Int) (x0 x1 x2 x3 x4 x5 x6 x7 : Int) (h0 : x0 = g 0) (h1 : x1 = g 1) (h2 : x2 = g 2) (h3 : x3 = g 3) (h4 : x4 = g 4) (h5 : x5 = g 5) (h6 : x6 = g 6) (h7 : x7 = g 7) :
    OwnB (w.alloc (.cells #[.int .u8 x0, .int .u8 x1, .int .u8 x2, .int .u8 x3, .int .u8 x4, .int .u8 x5, .int .u8 x6, .int .u8 x7] 5)) base (.slice (some ⟨w.heap.size, 0, none⟩) 8 8) 8 g := by
  subst h0 h1 h2 h3 h4 h5 h6 h7
  exact World.ownsRow_lit w #[.int .u8 (g 0), .int .u8 (g 1), .int .u8 (g 2), .int .u8 (g 3), .int .u8 (g 4), .int .u8 (g 5), .int .u8 (g 6), .int .u8 (g 7)] 8 hb (by decide) (by rfl)
theorem size_alloc (w : World) (o : Obj) : (w.alloc o).heap.size = w.heap.size + 1 := by simp

set_option maxHeartbeats 8000000 in
theorem fbytes_any (f : FmV) (w : World) :
    Calls Try.prog 18 #[formv f] w fun e w' => ∃ T, e = .returned (.slice (some ⟨T, 0, none⟩) 8 8) ∧ OwnB w' w.heap.size (.slice (some ⟨T, 0, none⟩) 8 8) 8 (Rc.fb f) ∧ w.grownBy w' none := by
  unfold formv
  go_enter Try.func18, Try.ntmps18
  go_wp2
  go_returns
  refine ⟨w.heap.size + 1, rfl, ?_, grown_alloc2 _ _ _⟩
  rw [← size_alloc w]
  refine own8 (by rw [size_alloc]; omega) (Rc.fb f) _ _ _ _ _ _ _ _ rfl rfl rfl rfl ?_ rfl rfl rfl
  show _ = Mm.by8 f.n 0
  unfold Mm.by8
  simp

set_option maxHeartbeats 8000000 in
theorem rencode_any (v : InV) (w : World) :
    Calls Try.prog 10 #[inst v] w fun e w' => ∃ T, e = .returned (.slice (some ⟨T, 0, none⟩) 8 8) ∧ OwnB w' w.heap.size (.slice (some ⟨T, 0, none⟩) 8 8) 8 (Rc.enc v) ∧ w.grownBy w' none := by
  unfold inst
  go_enter Try.func10, Try.ntmps10
  go_wp2
  all_goals
    go_returns
    refine ⟨w.heap.size + 1, rfl, ?_, grown_alloc2 _ _ _⟩
    rw [← size_alloc w]
    simp only [beq_iff_eq, beq_eq_false_iff_ne] at *
    refine own8 (by rw [size_alloc]; omega) (Rc.enc v) _ _ _ _ _ _ _ _ rfl rfl rfl ?_ ?_ ?_ ?_ ?_
    · show _ = Rc.cc v % 256
      unfold Rc.cc
      simp [*]
    all_goals
      first | show _ = Rc.nn v % 4294967296 / 1 % 256 | show _ = Rc.nn v % 4294967296 / 256 % 256 | show _ = Rc.nn v % 4294967296 / 65536 % 256 | show _ = Rc.nn v % 4294967296 / 16777216 % 256
      unfold Rc.nn
      simp only [*, if_true, if_false, or_true, or_self, or_false, Int.reduceEq] <;> (try unfold wrap64) <;> omega

end Go.Proofs.Ytkpmhgkljedapaa
