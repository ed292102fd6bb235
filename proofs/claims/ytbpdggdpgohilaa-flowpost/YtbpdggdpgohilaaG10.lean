/- Contracts and plain facts that the walks share. -/
import Derived.Test.YtbpdggdpgohilaaG9
import Derived.Laws.CopyOwn
import Derived.Laws.Bits64b
namespace Go.Proofs.Ytbpdggdpgohilaa
open Go.RowKit
set_option linter.unusedVariables false
set_option maxRecDepth 100000
set_option maxHeartbeats 4000000
theorem saMul64 (c : Nat) (hc : c < 4294967296) (w : World) : Calls Try.prog 53 #[.int .u64 1, .int .u64 (c : Int)] w fun r w' => r = .returned (.tuple #[.int .u64 0, .int .u64 (c : Int)]) ∧ w' = w := by
  have e1 : bits .and .u64 (c : Int) 4294967295 = (c : Int) := by
    have h := bits_and_u64_nat c 4294967295 (by omega) (by omega)
    have e : c &&& 4294967295 = c % 4294967296 := Nat.and_two_pow_sub_one_eq_mod c 32
    rw [e, Nat.mod_eq_of_lt hc] at h
    exact h
  have e2 : (c : Int) / 4294967296 = 0 := by omega
  have e3 : bits .and .u64 1 4294967295 = 1 := by kernel_rfl
  have e4 : IntKind.u64.wrap (c : Int) = (c : Int) := by rw [IntKind.wrap_u64]; omega
  have e5 : bits .and .u64 0 4294967295 = 0 := by kernel_rfl
  have e6 : IntKind.u64.wrap 0 = 0 := by kernel_rfl
  go_enter Try.func53, Try.ntmps53
  go_wp2

  go_ret2
  exact ⟨rfl, rfl⟩
theorem saMul (c : Nat) (hc : c < 4294967296) (w : World) : Calls Try.prog 44 #[.int .u64 1, .int .u64 (c : Int)] w fun r w' => r = .returned (.tuple #[.int .u64 0, .int .u64 (c : Int)]) ∧ w' = w := by
  have HM := saMul64 c hc w
  go_enter Try.func44, Try.ntmps44
  go_wp2_with (go_at_call 53; refine HM.mono ?_; rintro e w' ⟨rfl, hw⟩; rw [hw])
  go_ret2
  exact ⟨rfl, rfl⟩
theorem OwnN.bk {w : World} {base n T : Nat} {g : Nat → Int} (h : OwnN w base (.slice (some ⟨T, 0, none⟩) n n) n g) : Bk w T 3 ((List.range n).map fun i => .int .i64 (g i)) := by
  rcases h.2 with ⟨e, _⟩ | ⟨q, cap, cur, e, _, e3, _, _, e6, e7⟩
  · cases e
  · injection e with e1 e2 e3'
    injection e1 with e1
    injection e1 with e1
    subst e1
    subst e3'
    have : cur.toList = (List.range n).map fun i => Value.int .i64 (g i) := by
      rw [← e7, List.take_of_length_le (by simp; omega)]
    show w.heap[T]? = _
    rw [← this, e3]
theorem OwnN.of_bk {w : World} {base n T : Nat} {g : Nat → Int} (hb : base ≤ T) (hn : n ≤ maxLen) (h : Bk w T 3 ((List.range n).map fun i => .int .i64 (g i))) : OwnN w base (.slice (some ⟨T, 0, none⟩) n n) n g :=
  ⟨by simp, .inr ⟨T, n, _, rfl, hb, h, Nat.le_refl _, hn, by simp, by simp; exact List.take_of_length_le (by simp)⟩⟩
theorem splice_fill (n k m : Nat) (x : Int) (h : k + m ≤ n) : splice ((List.range n).map fun i => Value.int .i64 (if i < k then x else 0)) k (List.replicate m (.int .i64 x)) = (List.range n).map fun i => Value.int .i64 (if i < k + m then x else 0) := by
  have e1 : ((List.range n).map fun i => Value.int .i64 (if i < k then x else 0)).take k = ((List.range n).map fun i => Value.int .i64 (if i < k + m then x else 0)).take k := by
    rw [← List.map_take, ← List.map_take]
    refine List.map_congr_left fun i hi => ?_
    have : i < k := by have := List.mem_take_iff_getElem.1 hi; obtain ⟨j, hj, e⟩ := this; simp at e; simp at hj; omega
    simp [this, show i < k + m by omega]
  refine List.ext_getElem? fun i => ?_
  unfold splice
  rw [e1]
  simp only [List.length_replicate]
  by_cases h1 : i < k
  · rw [List.getElem?_append_left (by simp; omega), List.getElem?_take_of_lt h1]
  · rw [List.getElem?_append_right (by simp; omega)]
    rw [show (((List.range n).map fun i => Value.int .i64 (if i < k + m then x else 0)).take k).length = k by simp; omega]
    by_cases h2 : i < k + m
    · rw [List.getElem?_append_left (by simp; omega)]
      rw [List.getElem?_replicate]
      simp [show i - k < m by omega, h2, show i < n by omega]
    · rw [List.getElem?_append_right (by simp; omega), List.length_replicate, List.getElem?_drop, show k + m + (i - k - m) = i by omega]
      by_cases h3 : i < n
      · simp [h1, h2, h3]
      · simp [h3]
theorem below_grown {w w1 w2 : World} {T : Nat} (g : w.grownBy w1 none) (hT : T = w.heap.size) (hb : Below T w1 w2) : w.grownBy w2 none :=
  ⟨hb.os.trans g.os, hb.tape.trans g.tape, hb.output.trans g.output, Nat.le_trans g.size hb.size, fun k hk _ => (hb.block k (by omega)).trans (g.block k hk (by simp))⟩
theorem saRep_any (n : Nat) (hn : n ≤ 16384) {w : World} {sb : Nat} {x : Int} {sc : Nat} (hx : w.cell? ⟨sb, 0, none⟩ = some (.int .i64 x)) (hs1 : 1 ≤ sc) (hs2 : sc ≤ maxLen) : Calls Try.prog 31 #[.slice (some ⟨sb, 0, none⟩) 1 sc, .int .i64 (n : Int)] w fun r w' => ∃ T, r = .returned (.slice (some ⟨T, 0, none⟩) n n) ∧ OwnN w' w.heap.size (.slice (some ⟨T, 0, none⟩) n n) n (fun _ => x) ∧ w.grownBy w' none := by
  have HMu : Hid (∀ W, Calls Try.prog 44 #[.int .u64 1, .int .u64 (n : Int)] W fun r w' => r = .returned (.tuple #[.int .u64 0, .int .u64 (n : Int)]) ∧ w' = W) := fun W => saMul n (by omega) W
  obtain ⟨w1, hmk, ho1, hg1⟩ := run_make_n w n (by omega)
  obtain ⟨T, hT⟩ : ∃ T, T = w.heap.size := ⟨_, rfl⟩
  rw [← hT] at hmk ho1 ⊢
  have HB1 : Hid (w1.heap[T]? = some (.cells ((List.range n).map fun i => Value.int .i64 (if i < 0 then x else 0)).toArray 3 (0, 0))) := by
    have := ho1.bk
    show _ = _
    simpa [Bk] using this
  have HG1 : Hid (w.grownBy w1 none) := hg1
  have HX : Hid (w.cell? ⟨sb, 0, none⟩ = some (.int .i64 x)) := hx
  have HT : Hid (T = w.heap.size) := hT
  obtain ⟨cs, hcs⟩ : ∃ cs, cs = List.replicate (Nat.min 1 n) (Value.int .i64 x) := ⟨_, rfl⟩
  have HCS : Hid (cs = List.replicate (Nat.min 1 n) (Value.int .i64 x)) := hcs
  have HCL : Hid (cs.length = Nat.min 1 n) := by show _ = _; rw [hcs]; simp
  obtain ⟨CU, hCU⟩ : ∃ CU, CU = (List.range n).map fun i => Value.int .i64 (if i < 0 then x else 0) := ⟨_, rfl⟩
  rw [← hCU] at HB1
  have HCU : Hid (CU = (List.range n).map fun i => Value.int .i64 (if i < 0 then x else 0)) := hCU
  have HSr : Hid (∀ (j : Nat) (v : Value), cs[j]? = some v → w1.cell? (Addr.add ⟨sb, 0, none⟩ j) = some v) := fun j v hj => by
    rw [hcs] at hj
    obtain ⟨h1, h2⟩ := List.getElem?_eq_some_iff.1 hj
    rw [List.length_replicate] at h1
    rw [List.getElem_replicate] at h2
    have h9 : Nat.min 1 n ≤ 1 := Nat.min_le_left 1 n
    obtain rfl : j = 0 := by omega
    subst h2
    exact HG1.out.cell HX.out (by simp)
  have HFi : Hid (0 + cs.length ≤ CU.length) := by
    show 0 + cs.length ≤ CU.length
    have h9 : Nat.min 1 n ≤ n := Nat.min_le_right 1 n
    rw [hcs, hCU, List.length_replicate, List.length_map, List.length_range]
    omega
  have HOn : Hid (∀ v, v ∈ cs → v.oneCell' = true) := fun v hv => by rw [hcs] at hv; rw [(List.mem_replicate.1 hv).2]; first | rfl | done
  clear hg1 hx hT ho1 hcs hCU
  go_enter Try.func31, Try.ntmps31
  go_wp2_with (first
    | (go_at_call 44; refine (HMu.out _).mono ?_; rintro e w' ⟨rfl, hw⟩; rw [hw]; clear hw)
    | (refine wpList_copy_splice rfl (.tmp 31) (.tmp 32) 24 24 rfl 3 Try.underlying24 (by kernel_rfl) _ _ _ _ _ _ rfl rfl T 0 CU 3 HB1.out cs HCL.out (fun _ => ⟨rfl, _, rfl, HSr.out⟩) HFi.out HOn.out T w1 (Below.refl _ _) (Nat.le_refl _) ?_; intro w2 HB2 hb2; simp only [HCL.out]))
  have HB3 : Hid (w2.heap[T]? = some (.cells ((List.range n).map fun i => Value.int .i64 (if i < Nat.min 1 n then x else 0)).toArray 3 (0, 0))) := by
    have h9 := HB2.out
    rw [HCU.out, HCS.out, splice_fill n 0 (Nat.min 1 n) x (by have h9 : Nat.min 1 n ≤ n := Nat.min_le_right 1 n; omega), Nat.zero_add] at h9
    exact h9
  have HG2 : Hid (w.grownBy w2 none) := below_grown HG1.out HT.out hb2
  clear HB2 hb2 HCU HCS HCL HB1 hmk
  go_loopw [8] (fun nv wr => ∃ k : Nat, nv = .int .i64 k ∧ k ≤ n ∧ (0 < n → 0 < k) ∧ wr.heap[T]? = some (.cells ((List.range n).map fun i => Value.int .i64 (if i < k then x else 0)).toArray 3 (0, 0)) ∧ w.grownBy wr none) (fun nv _ => n - (intOf nv).toNat)
  case atStart => exact ⟨Nat.min 1 n, rfl, Nat.min_le_right 1 n, fun h => by show 0 < min _ _; rw [Nat.min_def]; split <;> omega, HB3.out, HG2.out⟩
  case round =>
    obtain ⟨k, rfl, hk, hk0, hb, hg⟩ := hrel
    have HG : Hid (w.grownBy wr none) := hg
    have HBr : Hid (wr.heap[T]? = some (.cells ((List.range n).map fun i => Value.int .i64 (if i < k then x else 0)).toArray 3 (0, 0))) := hb
    clear hb hg HB3 HG2
    by_cases hkn : k < n
    case neg =>
      obtain rfl : k = n := by omega
      go_wp2
      go_ret
      refine ⟨T, rfl, OwnN.of_bk (Nat.le_refl _) (by unfold maxLen; omega) ?_, HG.out⟩
      have h9 := HBr.out
      show wr.heap[T]? = _
      rw [h9]
      congr 2
      refine congrArg List.toArray (List.map_congr_left fun i hi => ?_)
      rw [if_pos (List.mem_range.1 hi)]
    have hkn' : (k : Int) < n := by omega
    have hk1 : 0 < k := hk0 (by omega)
    obtain ⟨cs, hcs⟩ : ∃ cs, cs = List.replicate (Nat.min k (n - k)) (Value.int .i64 x) := ⟨_, rfl⟩
    have HCS : Hid (cs = List.replicate (Nat.min k (n - k)) (Value.int .i64 x)) := hcs
    have HCL : Hid (cs.length = Nat.min k (n - k)) := by show _ = _; rw [hcs]; simp
    have HD : Hid (wr.grownBy wr.drew none) := grown_drew (World.grownBy.refl _ _)
    have HBr : Hid (wr.drew.heap[T]? = some (.cells ((List.range n).map fun i => Value.int .i64 (if i < k then x else 0)).toArray 3 (0, 0))) := by
      have h9 := HBr.out
      have hlt : T < wr.heap.size := (Array.getElem?_eq_some_iff.1 h9).1
      exact (HD.out.block T hlt (by simp)).trans h9
    have hnk : ¬ n = k := by omega
    have HCJ : Hid (∀ j, j < Nat.min k (n - k) → wr.drew.cell? ⟨T, j, none⟩ = some (.int .i64 x)) := fun j hj => by
      have hjk : j < k := Nat.lt_of_lt_of_le hj (Nat.min_le_left _ _)
      have h9 := HBr.out
      simp [World.cell?, h9, show j < n by omega, hjk]
    obtain ⟨CU, hCU⟩ : ∃ CU, CU = (List.range n).map fun i => Value.int .i64 (if i < k then x else 0) := ⟨_, rfl⟩
    have HBk : Hid (wr.drew.heap[T]? = some (.cells CU.toArray 3 (0, 0))) := by rw [hCU]; exact HBr.out
    have HCU : Hid (CU = (List.range n).map fun i => Value.int .i64 (if i < k then x else 0)) := hCU
    have hml : k + Nat.min k (n - k) ≤ n := by have h9 : Nat.min k (n - k) ≤ n - k := Nat.min_le_right k (n - k); omega
    have hm0 : 0 < Nat.min k (n - k) := by show 0 < min _ _; rw [Nat.min_def]; split <;> omega
    have HSr : Hid (∀ (j : Nat) (v : Value), cs[j]? = some v → wr.drew.cell? (Addr.add ⟨T, 0, none⟩ j) = some v) := fun j v hj => by
      rw [hcs] at hj
      obtain ⟨h1, h2⟩ := List.getElem?_eq_some_iff.1 hj
      rw [List.length_replicate] at h1
      rw [List.getElem_replicate] at h2
      subst h2
      have h9 := HCJ.out j h1
      by_cases e : j = 0
      · subst e; exact h9
      · simpa [Addr.add, e] using h9
    have HFi : Hid (k + cs.length ≤ CU.length) := by
      show k + cs.length ≤ CU.length
      rw [hcs, hCU, List.length_replicate, List.length_map, List.length_range]
      omega
    have HOn : Hid (∀ v, v ∈ cs → v.oneCell' = true) := fun v hv => by rw [hcs] at hv; rw [(List.mem_replicate.1 hv).2]; first | rfl | done
    clear hcs hCU
    go_wp2_with fail
    go_region_law (refine step_copy_splice (o := { dst := some 45, op := _, type := _, pos := _, after := _, guard := _ }) rfl (.tmp 41) (.tmp 44) 24 24 ?h1 3 Try.underlying24 ?h2 (some ⟨T, k, none⟩) (some ⟨T, 0, none⟩) (n - k) (n - k) k n ?h3 ?h4 T k CU 3 HBk.out cs HCL.out (fun _ => ⟨rfl, _, rfl, HSr.out⟩) HFi.out HOn.out T wr.drew (Below.refl _ _) (Nat.le_refl _) ?_; (case h1 => rfl); (case h2 => kernel_rfl); (case h3 => simp [go_sem]; done); (case h4 => simp [go_sem]; done); intro w4 hg4 hb4)
    have HB3 : Hid (w4.heap[T]? = some (.cells ((List.range n).map fun i => Value.int .i64 (if i < k + Nat.min k (n - k) then x else 0)).toArray 3 (0, 0))) := by
      have h9 := hg4.out
      rw [HCU.out, HCS.out, splice_fill n k (Nat.min k (n - k)) x hml] at h9
      exact h9
    have HG4 : Hid (w.grownBy w4 none) := below_grown (grown_trans HG.out HD.out) HT.out hb4
    rw [HCL.out]
    clear hg4 hb4 HBk HCS HCU HSr HFi HOn HCL HCJ HBr HD
    have hw9 : IntKind.i64.wrap ((k : Int) + (Nat.min k (n - k) : Nat)) = ((k + Nat.min k (n - k) : Nat) : Int) := by rw [IntKind.wrap_i64]; omega
    go_simp
    go_roundw
    case rel => exact ⟨_, _, _, _, _, _, _, _, _, _, _, _, _, _, ⟨k + Nat.min k (n - k), by rw [Int.natCast_add], hml, fun _ => by omega, HB3.out, HG4.out⟩, rfl⟩
    case measure => simp [intOf]; omega
end Go.Proofs.Ytbpdggdpgohilaa
namespace Go.Proofs.Ytbpdggdpgohilaa
open Go.RowKit
set_option linter.unusedVariables false
set_option maxRecDepth 100000
set_option maxHeartbeats 8000000
/-- numbers made in a walk -/
theorem wp_mkn {ops : Array Oper} {rest : List Oper} {o : Oper} {a : Act} {Q : Exit → Act → World → Prop} {W : World} (hg : o.guard = none) (l c : Operand) (hop : o.op = Op.makeSlice 24 l c) (n : Nat) (hn : (n : Int) ≤ 8796093022208) (hl : a.eval l = .int .i64 n) (hc : a.eval c = .int .i64 n)
    (h : ∀ w1, OwnN w1 W.heap.size (.slice (some ⟨W.heap.size, 0, none⟩) n n) n (fun _ => 0) → W.grownBy w1 none → wpList Try.prog ops Q rest (a.put o.dst (.slice (some ⟨W.heap.size, 0, none⟩) n n)) w1) : wpList Try.prog ops Q (o :: rest) a W := by
  refine wpList_plain hg fun K hK' => ?_
  obtain ⟨w', hrun, r1, r2⟩ := run_make_n W n hn
  unfold Oper.wp
  simp [execOp, hop, hl, hc, hrun, Result.andThen]
  exact hK' _ _ (h w' r1 r2)
theorem OwnN.keptS {w w' : World} {base n : Nat} {v : Value} {g : Nat → Int} {row : Option Nat} (h : OwnN w base v n g) (hg : w.grownBy w' row) (hne : v.ownBlock = none ∨ v.ownBlock ≠ row) : OwnN w' base v n g := World.ownsRow.kept h hg hne
/-- where lists lie -/
def RdA.ls (A : RdA) (n H S : Nat) : RdA := { A with hm := .slice (some ⟨H, 0, none⟩) n n, sp := .slice (some ⟨S, 0, none⟩) n n }
theorem Ch.newL {w w1 w2 : World} {l m : List Nat} (h1 : Ch w w1 l) (h2 : Ch w1 w2 m) (hm : ∀ k, k ∈ m → w.heap.size ≤ k) : Ch w w2 l :=
  ⟨h2.os.trans h1.os, h2.tape.trans h1.tape, h2.output.trans h1.output, Nat.le_trans h1.size h2.size, fun k hk hl => (h2.block k (Nat.lt_of_lt_of_le hk h1.size) (fun hx => by have := hm k hx; omega)).trans (h1.block k hk hl)⟩
theorem Sa.lsAll_step {c : Sa.Cd} {k : Nat} {s : Sa.Ls} (hk : k < c.blocks.length) : Sa.lsAll c (c.blocks.drop k) k s = (if (Sa.lsIn c k (c.blocks[k]).list 0 (k != 0) s).1 then Sa.lsAll c (c.blocks.drop (k + 1)) (k + 1) (Sa.lsIn c k (c.blocks[k]).list 0 (k != 0) s).2 else (false, s)) := by
  rw [List.drop_eq_getElem_cons hk]
  rfl
theorem Sa.lsIn_step {c : Sa.Cd} {b i : Nat} {l : List Int} {ph : Bool} {s : Sa.Ls} (hi : i < l.length) : Sa.lsIn c b (l.drop i) i ph s = (if (Sa.isVal c l[i] && s.home (l[i]).toNat == -1) && (ph || (c.v l[i]).op != 6) then Sa.lsIn c b (l.drop (i + 1)) (i + 1) ((c.v l[i]).op == 6) (s.put (l[i]).toNat b i) else (false, s)) := by
  rw [List.drop_eq_getElem_cons hi]
  rfl
end Go.Proofs.Ytbpdggdpgohilaa
