/- gantryref3.Decode: its contract. -/
import Derived.Test.YtkpmhgkljedapaaRcH1
import Derived.Test.YtkpmhgkljedapaaRcH2
import Derived.Test.YtkpmhgkljedapaaRcH3
import Derived.Test.YtkpmhgkljedapaaRcD
namespace Go.Proofs.Ytkpmhgkljedapaa
open Go.RowKit
set_option linter.unusedVariables false

set_option maxHeartbeats 8000000 in
theorem rdecode_short (ao : Option Addr) (n cap : Nat) (w : World) (hn : (n : Int) < 8) :
    Calls Try.prog 15 #[.slice ao n cap] w fun e w' => e = .returned (.tuple #[inst zeroI, .int .i64 31]) ∧ w.grownBy w' none := by
  go_enter Try.func15, Try.ntmps15
  go_wp2
  go_returns
  exact ⟨rfl, World.grownBy_alloc _ _ _⟩

theorem rdecode_any (b off n cap : Nat) (g : Nat → Int) (w : World) (hn : 8 ≤ n) (hnc : n ≤ cap) (hg : Mm.Fit g) (hc : ∀ i, i < n → w.cell? ⟨b, off + i, none⟩ = some (.int .u8 (g i))) :
    Calls Try.prog 15 #[.slice (some ⟨b, off, none⟩) n cap] w fun e w' => e = .returned (.tuple #[inst (Rc.dv g), .int .i64 (Rc.de g)]) ∧ w.grownBy w' none := by
  by_cases hA : g 0 = 4 ∨ g 0 = 7 ∨ g 0 = 8
  · by_cases hB : Rc.s32 (Mm.ld g 4 4) < 0 ∨ 65536 ≤ Rc.s32 (Mm.ld g 4 4)
    · exact rdecode_1 b off n cap g w hn hnc hg hc hA hB
    · exact rdecode_2 b off n cap g w hn hnc hg hc hA hB
  · exact rdecode_3 b off n cap g w hn hnc hg hc hA

end Go.Proofs.Ytkpmhgkljedapaa
