/- mem.New, Size and the page's own New, May: contracts. -/
import Derived.Test.YtkpmhgkljedapaaMRoom
namespace Go.Proofs.Ytkpmhgkljedapaa
open Go.RowKit
set_option linter.unusedVariables false

theorem info_u8 : (Try.prog.info? 5).map (fun i => (i.zero, i.size, i.bytes)) = some (some (.int .u8 0), 1, 1) := by kernel_rfl

theorem born (t : TypeId) (w : World) (S : Nat) : IsMem t ((w.alloc (.cells (madeCells #[.int .u8 0] S) 5)).alloc (.cells #[.slice (some ⟨w.heap.size, 0, none⟩) S S] t)) (w.heap.size + 1) w.heap.size S (fun _ => 0) ∧
    w.grownBy ((w.alloc (.cells (madeCells #[.int .u8 0] S) 5)).alloc (.cells #[.slice (some ⟨w.heap.size, 0, none⟩) S S] t)) none := by
  refine ⟨⟨?_, (World.rowIs_made w _ S _).alloc _, fun _ => by omega⟩, grown_trans (World.grownBy_alloc _ _ _) (World.grownBy_alloc _ _ _)⟩
  have := World.rowIs_alloc (w.alloc (.cells (madeCells #[.int .u8 0] S) 5)) #[.slice (some ⟨w.heap.size, 0, none⟩) S S] t (fun _ => .slice (some ⟨w.heap.size, 0, none⟩) S S)
    (fun i hi => by simp at hi; subst hi; rfl)
  simpa using this

end Go.Proofs.Ytkpmhgkljedapaa
