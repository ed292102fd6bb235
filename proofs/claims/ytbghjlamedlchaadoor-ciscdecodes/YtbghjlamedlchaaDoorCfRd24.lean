/- gantryref4.read: the row that has no letters. -/
import Derived.Test.YtbghjlamedlchaaDoorCfNum
import Derived.Test.YtbghjlamedlchaaDoorCfUse
import Derived.Test.YtbghjlamedlchaaDoorCdInst
import Derived.Test.YtbghjlamedlchaaDoorCfEnc
namespace Go.Proofs.YtbghjlamedlchaaDoor
open Go.RowKit
set_option linter.unusedVariables false

set_option maxRecDepth 100000 in
set_option maxHeartbeats 8000000 in
theorem rread_24 {w : World} {b off n cap : Nat} {g : Nat → Int} (hn : 0 < n) (hb : b < w.heap.size) (hc : w.cell? ⟨b, off, none⟩ = some (.int .u8 24)) :
    Calls Tryd.prog 38 #[.slice (some ⟨b, off, none⟩) n cap] w fun e w' => e = .returned (.tuple #[.agg #[.int .i64 24, .int .i64 0, .int .i64 0, .int .i64 0, .int .i64 0, .int .i64 0, .int .i64 0, .int .i64 0, .int .i64 0], .int .i64 1]) ∧ w.grownBy w' none := by
  have HR : Hid (∀ W, Calls Tryd.prog 18 #[.int .i64 24] W fun e w' => e = .returned (.string ⟨#[45]⟩) ∧ w' = W) := rrow_any 24
  have hn0 : (0 : Int) < n := by omega
  go_enter Tryd.func38, Tryd.ntmps38
  go_wp2_with (go_at_call 18; refine (HR.out _).mono ?_; rintro e w1 ⟨rfl, rfl⟩)
  have h1 : InstAt ((w.alloc (Obj.cells #[.int .i64 0, .int .i64 0, .int .i64 0, .int .i64 0, .int .i64 0, .int .i64 0, .int .i64 0, .int .i64 0, .int .i64 0] 28)).alloc (Obj.cells #[.int .i64 24, .int .i64 0, .int .i64 0, .int .i64 0, .int .i64 0, .int .i64 0, .int .i64 0, .int .i64 0, .int .i64 0] 28)) (w.heap.size + 1) ⟨24, 0, 0, 0, 0, 0, 0, 0, 0⟩ := by
    have h1 := InstAt.new (w.alloc (Obj.cells #[.int .i64 0, .int .i64 0, .int .i64 0, .int .i64 0, .int .i64 0, .int .i64 0, .int .i64 0, .int .i64 0, .int .i64 0] 28)) ⟨24, 0, 0, 0, 0, 0, 0, 0, 0⟩
    rwa [size_alloc] at h1
  have h2 : InstAt ((w.alloc (Obj.cells #[.int .i64 0, .int .i64 0, .int .i64 0, .int .i64 0, .int .i64 0, .int .i64 0, .int .i64 0, .int .i64 0, .int .i64 0] 28)).alloc (Obj.cells #[.int .i64 24, .int .i64 0, .int .i64 0, .int .i64 0, .int .i64 0, .int .i64 0, .int .i64 0, .int .i64 0, .int .i64 0] 28)) w.heap.size Cc.zero := (InstAt.new w Cc.zero).kept (World.grownBy_alloc _ _ none) (by simp)
  have h3 := grown_alloc2 w (Obj.cells #[.int .i64 0, .int .i64 0, .int .i64 0, .int .i64 0, .int .i64 0, .int .i64 0, .int .i64 0, .int .i64 0, .int .i64 0] 28) (Obj.cells #[.int .i64 24, .int .i64 0, .int .i64 0, .int .i64 0, .int .i64 0, .int .i64 0, .int .i64 0, .int .i64 0, .int .i64 0] 28)
  generalize (w.alloc (Obj.cells #[.int .i64 0, .int .i64 0, .int .i64 0, .int .i64 0, .int .i64 0, .int .i64 0, .int .i64 0, .int .i64 0, .int .i64 0] 28)).alloc (Obj.cells #[.int .i64 24, .int .i64 0, .int .i64 0, .int .i64 0, .int .i64 0, .int .i64 0, .int .i64 0, .int .i64 0, .int .i64 0] 28) = W3 at *
  go_loopw [6, 7, 8] (fun sp sz sk wr => sk = .int .i64 0 ∧ sp = .int .i64 1 ∧ sz = .int .i64 0 ∧ wr = W3) (fun _ _ _ _ => 0)
  case atStart => exact ⟨rfl, rfl, rfl, rfl⟩
  case round =>
    obtain ⟨rfl, rfl, rfl, rfl⟩ := hrel
    have Hh1 : Hid (InstAt wr (w.heap.size + 1) ⟨24, 0, 0, 0, 0, 0, 0, 0, 0⟩) := h1
    have Hh2 : Hid (InstAt wr w.heap.size Cc.zero) := h2
    obtain ⟨d0, d1, d2, d3, d4, d5, d6, d7, d8, dz⟩ := h1
    obtain ⟨e0, e1, e2, e3, e4, e5, e6, e7, e8, ez⟩ := h2
    have y0 := ez 0
    have y1 := ez 1
    have y2 := ez 2
    have y3 := ez 3
    have y4 := ez 4
    have y5 := ez 5
    have y6 := ez 6
    have y7 := ez 7
    have y8 := ez 8
    clear dz ez
    go_wp2_with fail
    have P9 := Hh2.out.put9 ⟨24, 0, 0, 0, 0, 0, 0, 0, 0⟩
    have G9 := grown_newR h3 (grown_put9 wr w.heap.size ⟨24, 0, 0, 0, 0, 0, 0, 0, 0⟩) (Nat.le_refl _)
    change bodyPost _ _ _ _ _ (put9 wr w.heap.size ⟨24, 0, 0, 0, 0, 0, 0, 0, 0⟩)
    generalize put9 wr w.heap.size ⟨24, 0, 0, 0, 0, 0, 0, 0, 0⟩ = W9 at *
    obtain ⟨x0, x1, x2, x3, x4, x5, x6, x7, x8, xz⟩ := P9
    refine bodyPost_ret (by simp [results, Tryd.results38, go_sem, x0, x1, x2, x3, x4, x5, x6, x7, x8]; try rfl) rfl ?_
    exact ⟨rfl, G9⟩
end Go.Proofs.YtbghjlamedlchaaDoor
