/- The law WordExact, walked. -/
import Derived.Test.YtjhcamcdmebpnaaRConv
import Derived.Test.YtjhcamcdmebpnaaOps
namespace Go.Proofs.Ytjhcamcdmebpnaa
open Go.RowKit
set_option linter.unusedVariables false

set_option maxHeartbeats 2000000 in
set_option maxRecDepth 100000 in
theorem exact_some (b off len cap : Nat) (V : Nat → OpV) (w : World) (hl : len ≤ cap) (hm : cap ≤ maxLen) (hbb : b < w.heap.size) (hV : ∀ i, i < len → OpAt w b (off + i * 5) (V i) ∧ OpFit (V i)) :
    Calls Try.prog 3 #[.slice (some ⟨b, off, none⟩) len cap] w fun e w' => e = .returned (.bool true) ∧ Below w.heap.size w w' := by
  unfold maxLen at hm
  have HV : Hid (∀ i, i < len → OpAt w b (off + i * 5) (V i) ∧ OpFit (V i)) := hV
  clear hV
  go_enter Try.func3, Try.ntmps3
  go_wp2
  go_loopw [3] (fun s wr => ∃ i : Nat, i ≤ len ∧ s = .int .i64 i ∧ Below w.heap.size w wr) (fun s _ => len - (intOf s).toNat)
  case atStart => exact ⟨0, Nat.zero_le _, rfl, Below.refl _ _⟩
  case round =>
    obtain ⟨i, hi, rfl, hbel⟩ := hrel
    by_cases hlt : i < len
    · by_cases h200 : (i : Int) < 200
      · obtain ⟨⟨c0, c1, c2, c3, c4⟩, fit⟩ := HV.out i hlt
        have d0 := (hbel.cell (p := ⟨b, off + i * 5, none⟩) hbb).trans c0
        have d1 := (hbel.cell (p := ⟨b, off + i * 5 + 1, none⟩) hbb).trans c1
        have d2 := (hbel.cell (p := ⟨b, off + i * 5 + 2, none⟩) hbb).trans c2
        have d3 := (hbel.cell (p := ⟨b, off + i * 5 + 3, none⟩) hbb).trans c3
        have d4 := (hbel.cell (p := ⟨b, off + i * 5 + 4, none⟩) hbb).trans c4
        obtain ⟨_, _, _, _, _, _, x1, x2, y1, y2⟩ := fit
        generalize (V i).op = op at *
        generalize (V i).k = k at *
        generalize (V i).to = t at *
        generalize (V i).x = x at *
        generalize (V i).y = y at *
        clear c0 c1 c2 c3 c4 HV
        go_wp2_with (first | (go_at_call 8; refine (un_any _ _ _ _ (by assumption) (by assumption)).mono ?_; rintro e w' ⟨rfl, rfl⟩) | (go_at_call 9; refine (binA_any _ _ _ _ _ (by assumption) (by assumption) (by assumption) (by assumption)).mono ?_; rintro e w' ⟨rfl, n1, rfl⟩) | (go_at_call 10; refine (conv_any _ _ _ _ (by assumption) (by assumption)).mono ?_; rintro e w' ⟨rfl, rfl⟩) | (go_at_call 11; refine (run_any _ _ _ _ (by assumption) (by assumption)).mono ?_; rintro e w' ⟨rfl, rfl⟩) | (go_at_call 12; refine (rbin_any _ _ _ _ _ (by assumption) (by assumption) (by assumption) (by assumption)).mono ?_; rintro e w' ⟨rfl, n2, rfl⟩) | (go_at_call 13; refine (rconv_any _ _ _ _ (by assumption) (by assumption)).mono ?_; rintro e w' ⟨rfl, rfl⟩) | (go_at_call 14; refine (num_any _ _).mono ?_; rintro e w' ⟨rfl, rfl⟩))
        have bel2 : Below w.heap.size w ((wr.alloc (Obj.cells #[Value.int IntKind.i64 op, Value.int IntKind.i64 k, Value.int IntKind.i64 t, Value.int IntKind.u64 x, Value.int IntKind.u64 y] 25)).drewN (n1 + n2)) := below_drewN (hbel.alloc hbel.size _) _
        have q1 : ((wr.alloc (Obj.cells #[Value.int IntKind.i64 op, Value.int IntKind.i64 k, Value.int IntKind.i64 t, Value.int IntKind.u64 x, Value.int IntKind.u64 y] 25)).drewN (n1 + n2)).cell? ⟨wr.heap.size, 1, none⟩ = some (.int .i64 k) := by simp
        have q3 : ((wr.alloc (Obj.cells #[Value.int IntKind.i64 op, Value.int IntKind.i64 k, Value.int IntKind.i64 t, Value.int IntKind.u64 x, Value.int IntKind.u64 y] 25)).drewN (n1 + n2)).cell? ⟨wr.heap.size, 3, none⟩ = some (.int .u64 x) := by simp
        generalize (wr.alloc (Obj.cells #[Value.int IntKind.i64 op, Value.int IntKind.i64 k, Value.int IntKind.i64 t, Value.int IntKind.u64 x, Value.int IntKind.u64 y] 25)).drewN (n1 + n2) = W at *
        clear d0 d1 d2 d3 d4
        go_quiet ((first | (go_at_call 15; exact Calls.quiet_of_same (width_any _ _)) | (go_at_call 16; exact Calls.quiet_of_same (rwidth_any _ _)) | (go_at_call 17; exact Calls.quiet_of_same (bytes_any _ _)) | (go_at_call 18; exact Calls.quiet_of_same (rbytes_any _ _)) | (go_at_call 19; exact Calls.quiet_of_same (canon_any _ _ _ (by assumption) (by assumption))) | (go_at_call 20; exact Calls.quiet_of_same (rcanon_any _ _ _ (by assumption) (by assumption))) | (go_at_call 21; exact Calls.quiet_of_same (is_any _ _ _ (by assumption) (by assumption))) | (go_at_call 22; exact Calls.quiet_of_same (ris_any _ _ _ (by assumption) (by assumption)))))
        go_wp2
        go_roundw
        case rel => exact ⟨i + 1, by omega, by go_num, below_drewN bel2 _⟩
        case measure => simp [intOf]; omega
      · go_wp2_with (go_at_call 23; refine (wakes_any _).mono ?_; rintro e w' ⟨rfl, rfl⟩)
        go_ret
        exact ⟨rfl, hbel⟩
    · go_wp2_with (go_at_call 23; refine (wakes_any _).mono ?_; rintro e w' ⟨rfl, rfl⟩)
      go_ret
      exact ⟨rfl, hbel⟩

set_option maxHeartbeats 1000000 in
set_option maxRecDepth 100000 in
theorem exact_walk (a0 : Option Addr) (len0 cap0 : Nat) (V : Nat → OpV) (w : World) (w0 : IsOps w a0 len0 cap0 V) :
    Calls Try.prog 3 #[.slice a0 len0 cap0] w fun e w' => e = .returned (.bool true) ∧ Below w.heap.size w w' := by
  rcases w0 with rfl | ⟨b, off, rfl, hl, hm, hbb, hV⟩
  · go_enter Try.func3, Try.ntmps3
    go_wp2
    refine wp_loop_rounds 1 ?_
    rw [rounds_succ]
    go_wp2_with (go_at_call 23; refine (wakes_any _).mono ?_; rintro e w' ⟨rfl, rfl⟩)
    go_ret
    exact ⟨rfl, Below.refl _ _⟩
  · exact exact_some b off len0 cap0 V w hl hm hbb hV

end Go.Proofs.Ytjhcamcdmebpnaa
