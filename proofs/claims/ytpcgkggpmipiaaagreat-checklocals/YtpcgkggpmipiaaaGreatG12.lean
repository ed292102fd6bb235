/- Contracts and plain facts that the walks share. -/
import Derived.Test.YtpcgkggpmipiaaaGreatRuLx
import Derived.Test.YtpcgkggpmipiaaaGreatG1
import Derived.WalkLawsBesides
import Derived.Laws.FloatArith
import Derived.Deep.Draws
namespace Go.Proofs.YtpcgkggpmipiaaaGreat
set_option maxRecDepth 100000
set_option maxHeartbeats 32000000
open Go.RowKit
set_option linter.unusedVariables false
section
variable {P : Program} {ops : Array Oper} {R : World → World → Prop}
theorem any_of_all (htr : ∀ {w w1 w2 : World}, R w w1 → R w1 w2 → R w w2) (hrf : ∀ w : World, R w w) {n : Nat} {a0 : Act} {W : World} {Q : Exit → Act → World → Prop} {Ψ : Nat → Value → World → Prop} {Z : List PanicEntry → World → Prop} (hZ : ∀ c a w, a.defers = a0.defers → Z c w → Q (.panic c) a w) {l : List Oper} (hl : ops = l.toArray)
  (hst : ∀ i v w w', i < n → Ψ i v w → R w w' → Ψ i v w')
  (hsel : Region.noSelect ops = true) (hn : n = ops.size) (hlex : Region.lexHead .any ops 0 n 0 (lexed ops.size 0) = true)
  (hL : lookG ops n = true) (hD : dstR ops n a0.tmps.size = true)
  (hstep : ∀ i, i < n → ∀ V w', R W w' → (∀ j, (depsOf ops i).contains j = true → Ψ j (V j) w') → stepVX P ops R Z Ψ i (frV ops a0 V i) w')
  (hend : ∀ V w', R W w' → (∀ i, i < n → Ψ i (V i) w') → Q .normal (frV ops a0 V n) w') (f : Nat) :
  ∀ listed a w, left listed n = f → HeadInv .any ops n listed → FrInv ops n a0 Ψ listed a w → R W w → wpAny P .any ops Q f listed a w := by
 have hval : ∀ {listed a w i}, FrInv ops n a0 Ψ listed a w → i < n → listed.getD i false = true → Ψ i (valOf ops a i) w := by
  intro listed a w i inv hi hli
  unfold valOf
  cases hd : dstOf ops i with
  | none => exact inv.non i hi hli hd
  | some d => exact inv.val i d hi hli hd
 induction f with
 | zero =>
  intro listed a w hf hinv inv hg
  have hall := left_zero hf
  have ea : a = frV ops a0 (valOf ops a) n := by
   obtain ⟨tm, df⟩ := a
   have h1 : tm = (frV ops a0 (valOf ops ⟨tm, df⟩) n).tmps := by
    apply Array.ext_getElem?
    intro s
    by_cases hex : ∃ j, j < n ∧ dstOf ops j = some s
    ·obtain ⟨j, hj, hd⟩ := hex
     exact (frV_in a0 ⟨tm, df⟩ inv.size n s ⟨j, hj, hd⟩ (dstR_lt hD hj hd)).symm
    ·have hno : ∀ j, j < n → dstOf ops j ≠ some s := fun j hj hd => hex ⟨j, hj, hd⟩
     rw [frV_out a0 _ n s hno]
     exact inv.old s fun i hi _ => hno i hi
   have h2 : df = (frV ops a0 (valOf ops ⟨tm, df⟩) n).defers := by rw [frV_defers]; exact inv.defers
   generalize frV ops a0 (valOf ops ⟨tm, df⟩) n = b at *
   obtain ⟨bt, bd⟩ := b
   simp_all
  have hw := hend (valOf ops a) w hg fun i hi => hval inv hi (hall i hi)
  rw [← ea] at hw
  refine ⟨?_, hw⟩
  apply List.eq_nil_iff_forall_not_mem.2
  intro i hi
  obtain ⟨h1, o, ho, _⟩ := mem_ready.1 hi
  have hlt : i < n := by
   rw [hn]
   rcases Nat.lt_or_ge i ops.size with h' | h'
   ·exact h'
   ·rw [Array.getElem?_eq_none h'] at ho; cases ho
  have h2 := hall i hlt
  have h3 := getD_both h1
  rw [h3] at h2
  cases h2
 | succ f ih =>
  intro listed a w hf hinv inv hg
  obtain ⟨k, hk, hkf, hkall⟩ := left_pos (by rw [hf]; exact Nat.succ_ne_zero f)
  have hkt : listed.getD k true = false := getD_in (by rw [hinv.size]; omega) hkf
  have hkr : k ∈ Region.ready .any ops listed := by
   have h0 := lexHead_at ops.size n 0 (by simpa using hlex) k (Nat.zero_le _) (by omega)
   obtain ⟨_, o, ho, hall⟩ := mem_ready.1 h0
   refine mem_ready.2 ⟨hkt, o, ho, fun e he hb => ?_⟩
   have h1 := hall e he hb
   have h2 : e.on < ops.size := by
    rcases Nat.lt_or_ge e.on (lexed ops.size k).size with h' | h'
    ·rw [lexed_size] at h'; exact h'
    ·simp [Array.getElem?_eq_none h'] at h1
   rw [lexed_get ops.size k e.on h2] at h1
   exact hkall e.on (by simpa using h1)
  refine ⟨fun h0 => absurd h0 (List.ne_nil_of_mem hkr), fun i hi => ?_⟩
  obtain ⟨hiun, o, ho, hall⟩ := mem_ready.1 hi
  have hin : i < n := by
   rw [hn]
   rcases Nat.lt_or_ge i ops.size with h' | h'
   ·exact h'
   ·rw [Array.getElem?_eq_none h'] at ho; cases ho
  have hlk := lookG_spec hL hin ho
  have hd : dstOf ops i = o.dst := by unfold dstOf; rw [ho]; rfl
  have S := hstep i hin (valOf ops a) w hg fun j hj => by
   have hj' := List.mem_filter.1 (show j ∈ depsOf ops i by simpa using hj)
   have hlt := List.mem_range.1 hj'.1
   exact hval inv (by omega) (waits_listed hi hj'.2)
  unfold stepVX at S
  simp only [ho] at S
  have hex : execOp a.eval o = execOp (frV ops a0 (valOf ops a) i).eval o := by
   refine execOp_congr o (fun cs b => Region.noSelect_spec hsel i o cs b ho) fun x hx => eval_same fun t ht => ?_
   subst ht
   have htl : t ∈ o.looksAt ops := List.mem_append_left _ (List.mem_filterMap.2 ⟨.tmp t, by simpa using hx, rfl⟩)
   by_cases hexi : ∃ j, j < n ∧ dstOf ops j = some t
   ·obtain ⟨j, hj, hdj⟩ := hexi
    obtain ⟨hji, _⟩ := hlk t htl j hj hdj
    exact (frV_in a0 a inv.size i t ⟨j, hji, hdj⟩ (dstR_lt hD hj hdj)).symm
   ·have hno : ∀ j, j < n → dstOf ops j ≠ some t := fun j hj hd => hexi ⟨j, hj, hd⟩
    rw [frV_out a0 _ i t fun j hj => hno j (by omega)]
    exact inv.old t fun j hj _ => hno j hj
  have next : ∀ v w', (dstOf ops i = none → v = undef) → R w w' → Ψ i v w' → wpAny P .any ops Q f (listed.setIfInBounds i true) (a.put o.dst v) w' := by
   intro v w' hun hg' hv
   have hlf : left (listed.setIfInBounds i true) n = f := by have := left_set hin hiun; omega
   refine ih _ _ _ hlf (hinv.set hi hin) ?_ (htr hg hg')
   have hset : ∀ j, j ≠ i → (listed.setIfInBounds i true).getD j false = true → listed.getD j false = true := fun j hj h => by rwa [getD_set_ne false (Ne.symm hj)] at h
   refine ⟨(put_size _ _ _).trans inv.size, (put_defers _ _ _).trans inv.defers, fun s hs' => ?_, fun j d hj hjl hjd => ?_, fun j hj hjl hjd => ?_⟩
   ·have h1 : dstOf ops i ≠ some s := hs' i hin (by
     have : i < listed.size := by rw [hinv.size]; omega
     simp [this])
    rw [put_other _ _ (by rw [← hd]; exact h1)]
    exact inv.old s fun j hj hjl => hs' j hj (getD_set_true hjl)
   ·by_cases hji : j = i
    ·subst hji
     have e : o.dst = some d := by rw [← hd]; exact hjd
     rw [e]
     have hlt : d < a.tmps.size := by rw [inv.size]; exact dstR_lt hD hin hjd
     have := put_same a d v hlt
     rw [Array.getD_eq_getD_getElem?, this]
     exact hv
    ·have hne : o.dst ≠ some d := by rw [← hd]; exact dstR_ne hD hj hin hji hjd
     have := put_other a v hne
     rw [Array.getD_eq_getD_getElem?, this, ← Array.getD_eq_getD_getElem?]
     exact hst _ _ _ _ hj (inv.val j d hj (hset j hji hjl) hjd) hg'
   ·by_cases hji : j = i
    ·subst hji
     rw [← hun hjd]; exact hv
    ·exact hst _ _ _ _ hj (inv.non j hj (hset j hji hjl) hjd) hg'
  have hwv : Region.wanted o (yielded ops a.tmps) = Region.wanted o (yielded ops (frV ops a0 (valOf ops a) i).tmps) := by
   unfold Region.wanted
   cases hgd : o.guard with
   | none => rfl
   | some x =>
    obtain ⟨g, want⟩ := x
    have hy : yielded ops a.tmps g = yielded ops (frV ops a0 (valOf ops a) i).tmps g := by
     unfold yielded
     cases hdg : (ops[g]?).bind (·.dst) with
     | none => rfl
     | some t =>
      have htl : t ∈ o.looksAt ops := by
       unfold Oper.looksAt
       rw [hgd]
       exact List.mem_append_right _ (by simp only [hdg]; simp)
      have he : a.tmps[t]? = (frV ops a0 (valOf ops a) i).tmps[t]? := by
       by_cases hexi : ∃ j, j < n ∧ dstOf ops j = some t
       ·obtain ⟨j, hj, hdj⟩ := hexi
        obtain ⟨hji, _⟩ := hlk t htl j hj hdj
        exact (frV_in a0 a inv.size i t ⟨j, hji, hdj⟩ (dstR_lt hD hj hdj)).symm
       ·have hno : ∀ j, j < n → dstOf ops j ≠ some t := fun j hj hd => hexi ⟨j, hj, hd⟩
        rw [frV_out a0 _ i t fun j hj => hno j (by omega)]
        exact inv.old t fun j hj _ => hno j hj
      simp only [Option.bind_some, he]
    simp only [hy]
  unfold wpOp
  simp only [ho]
  rw [hwv]
  by_cases hwa : Region.wanted o (yielded ops (frV ops a0 (valOf ops a) i).tmps) = true
  case neg =>
   rw [if_neg hwa]
   rw [if_neg hwa] at S
   exact next undef w (fun _ => rfl) (hrf w) S
  rw [if_pos hwa]
  rw [if_pos hwa] at S
  refine .inl ?_
  unfold Oper.wp
  rw [hex]
  generalize (execOp (frV ops a0 (valOf ops a) i).eval o).run P w = r at S
  match r, S with
  | .ok (.value v) w', S => exact next v w' (fun e => by rw [e] at S; cases S.1) S.2.1 S.2.2
  | .ok .skip w', S => exact next undef w' (fun _ => rfl) S.1 S.2
  | .ok (.enter fn args) w', S =>
   rw [Oper.upon_enter]
   obtain ⟨hS, S⟩ := S
   refine Calls.mono S ?_
   rintro e w'' (⟨v, rfl, h1, h2⟩ | ⟨c, rfl, hz⟩)
   ·exact next v w'' (fun e => by rw [e] at hS; cases hS) h1 h2
   ·exact hZ c a w'' inv.defers hz
  | .halt (.panic v) w', S => exact hZ _ a w' inv.defers S
theorem region_invA (htr : ∀ {w w1 w2 : World}, R w w1 → R w1 w2 → R w w2) (hrf : ∀ w : World, R w w) {id : Nat} {Q : Exit → Act → World → Prop} {a : Act} {w : World} {l : List Oper} (n : Nat) (Ψ : Nat → Value → World → Prop) {Z : List PanicEntry → World → Prop} (hZ : ∀ c a' w, a'.defers = a.defers → Z c w → Q (.panic c) a' w)
  (hm : P.follows .mixedOrders = true) (hsel : Region.noSelect l.toArray = true) (hn : n = l.toArray.size) (hlex : Region.lexHead .any l.toArray 0 n 0 (lexed l.toArray.size 0) = true) (hL : lookG l.toArray n = true) (hD : dstR l.toArray n a.tmps.size = true)
  (hst : ∀ i v w w', i < n → Ψ i v w → R w w' → Ψ i v w')
  (hstep : ∀ i, i < n → ∀ V w', R w.drew w' → (∀ j, (depsOf l.toArray i).contains j = true → Ψ j (V j) w') → stepVX P l.toArray R Z Ψ i (frV l.toArray a V i) w')
  (hend : ∀ V w', R w.drew w' → (∀ i, i < n → Ψ i (V i) w') → Q .normal (frV l.toArray a V n) w') : (Code.region id l.toArray true).wp P Q a w := by
 have inv0 : HeadInv .any l.toArray n (Array.replicate l.toArray.size false) :=
  ⟨by simp, fun j oj _ hl => (by rw [getD_replicate_false] at hl; cases hl), fun t _ ht => getD_in (by simpa using ht) (getD_replicate_false _ _)⟩
 have hl0 : left (Array.replicate l.toArray.size false) n = n := by
  unfold left
  rw [List.filter_eq_self.2 fun i _ => by rw [getD_replicate_false]; rfl]
  simp
 have fr0 : FrInv l.toArray n a Ψ (Array.replicate l.toArray.size false) a w.drew :=
  ⟨rfl, rfl, fun _ _ => rfl, fun i d _ h => (by rw [getD_replicate_false] at h; cases h), fun i _ h => (by rw [getD_replicate_false] at h; cases h)⟩
 have T := any_of_all (R := R) htr hrf (P := P) (Q := Q) (ops := l.toArray) (n := n) (a0 := a) (W := w.drew) (Ψ := Ψ) hZ rfl hst hsel hn (by simpa [lexed] using hlex) hL hD hstep hend n _ a w.drew hl0 inv0 fr0 (hrf _)
 rw [hn] at T
 exact wp_region_any hm T
theorem region_la (K : World → Prop) {id : Nat} {Q : Exit → Act → World → Prop} {a : Act} {w : World} {l : List Oper} (n : Nat) (hm : P.follows .mixedOrders = true) (hB : (Region.noSelect l.toArray && decide (n = l.toArray.size) && Region.lexHead .any l.toArray 0 n 0 (lexed l.toArray.size 0)) = true) (hL : lookG l.toArray n = true) (hD : dstR l.toArray n a.tmps.size = true)
  (hK : K w.drew) (h : lxs P l.toArray K (fun c w => ∀ a', a'.defers = a.defers → Q (.panic c) a' w) (fun A => ∀ w', K w' → Q .normal A w') [] 0 l a) : (Code.region id l.toArray true).wp P Q a w := by
 simp only [Bool.and_eq_true, decide_eq_true_eq] at hB
 obtain ⟨⟨hsel, hnn⟩, hlex⟩ := hB
 have hn : n = l.length := by simpa using hnn
 obtain ⟨outs, -, hst, hE⟩ := lxs_outs (ops := l.toArray) (P := P) (a := a) (fun _ => some undef) rfl (by simp) h
 simp only [Nat.zero_add] at hst hE
 rw [← hn] at hE
 refine region_invA (R := fun w w' => K w → K w') (fun h1 h2 h3 => h2 (h1 h3)) (fun _ h => h) n (fun i v _ => outs i = some v) (Z := fun c w => ∀ a', a'.defers = a.defers → Q (.panic c) a' w) (fun c a' w hd h => h a' hd) hm hsel hnn hlex hL hD (fun i v w w' _ h _ => h) (fun i hi V w' g hV => ?_) fun V w' g hV => ?_
 ·have ho : l[i]? = some l[i] := by rw [List.getElem?_eq_getElem (by omega)]
  have ho' : l.toArray[i]? = some l[i] := by rw [List.getElem?_toArray, List.getElem?_eq_getElem (by omega)]
  unfold stepVX
  rw [ho']
  have hlk := lookG_spec hL hi ho'
  rcases hst i _ ho with ⟨_, j, hj, hc⟩ | hs
  ·have := hV j hc
   rw [hj] at this
   cases this
  ·have hs := hs w' (g hK)
   have same : ∀ t, t ∈ (l[i]).looksAt l.toArray → (frV l.toArray a V i).tmps[t]? = (frV l.toArray a (fun j => (outs j).getD undef) i).tmps[t]? := fun t ht => frV_same fun j hj hd => by
    have h9 := (hlk t ht j (by omega) hd).2
    have h8 := hV j (by
     have : j ∈ depsOf l.toArray i := List.mem_filter.2 ⟨List.mem_range.2 hj, h9⟩
     simpa using this)
    simp only [h8]
    rfl
   have hex : execOp (frV l.toArray a V i).eval l[i] = execOp (frV l.toArray a (fun j => (outs j).getD undef) i).eval l[i] := by
    refine execOp_congr _ (fun cs b => Region.noSelect_spec hsel i _ cs b ho') fun x hx => eval_same fun t ht => ?_
    subst ht
    exact same t (List.mem_append_left _ (List.mem_filterMap.2 ⟨.tmp t, by simpa using hx, rfl⟩))
   have hwn : Region.wanted l[i] (yielded l.toArray (frV l.toArray a V i).tmps) = Region.wanted l[i] (yielded l.toArray (frV l.toArray a (fun j => (outs j).getD undef) i).tmps) := by
    unfold Region.wanted
    cases hgd : (l[i]).guard with
    | none => rfl
    | some x =>
     obtain ⟨g, want⟩ := x
     have hy : yielded l.toArray (frV l.toArray a V i).tmps g = yielded l.toArray (frV l.toArray a (fun j => (outs j).getD undef) i).tmps g := by
      unfold yielded
      cases hdg : (l.toArray[g]?).bind (·.dst) with
      | none => rfl
      | some t =>
       have he := same t (by
        unfold Oper.looksAt
        rw [hgd]
        exact List.mem_append_right _ (by simp only [hdg]; simp))
       simp only [Option.bind_some, he]
     simp only [hy]
   show (if Region.wanted l[i] (yielded l.toArray (frV l.toArray a V i).tmps) = true then _ else _)
   rw [hwn, hex]
   unfold lxStep at hs
   by_cases hwa : Region.wanted l[i] (yielded l.toArray (frV l.toArray a (fun j => (outs j).getD undef) i).tmps) = true
   ·rw [if_pos hwa] at hs ⊢
    generalize (execOp (frV l.toArray a (fun j => (outs j).getD undef) i).eval l[i]).run P w' = r at hs
    match r, hs with
    | .ok (.value v) w2, hs => exact ⟨hs.1, fun _ => hs.2.1, hs.2.2⟩
    | .ok .skip w2, hs => exact ⟨fun _ => hs.1, hs.2⟩
    | .ok (.enter fn args) w2, hs =>
     refine ⟨hs.1, hs.2.mono ?_⟩
     rintro e w3 (⟨x, h1, h2, h3⟩ | h1)
     ·exact .inl ⟨x, h1, fun _ => h2, h3⟩
     ·exact .inr h1
    | .halt (.panic v) w2, hs => exact hs
   ·rw [if_neg hwa] at hs ⊢
    exact hs
 ·have hall : ∀ j, j < n → outs j ≠ none := fun j hj => by rw [hV j hj]; simp
  have h9 := hE hall w' (g hK)
  rw [frV_congr (V' := fun j => (outs j).getD undef) fun j hj => by simp only [hV j hj]; rfl]
  exact h9
theorem region_lga {W1 : World} {id : Nat} {Q : Exit → Act → World → Prop} {a : Act} {w : World} {l : List Oper} (n : Nat) (hg : W1.grownBy w none) (hm : P.follows .mixedOrders = true) (hB : (Region.noSelect l.toArray && decide (n = l.toArray.size) && Region.lexHead .any l.toArray 0 n 0 (lexed l.toArray.size 0)) = true) (hL : lookG l.toArray n = true) (hD : dstR l.toArray n a.tmps.size = true)
  (h : lxs P l.toArray (fun W => W1.grownBy W none) (fun c w => ∀ a', a'.defers = a.defers → Q (.panic c) a' w) (fun A => ∀ w', W1.grownBy w' none → wpList P l.toArray Q [] A w') [] 0 l a) : (Code.region id l.toArray true).wp P Q a w :=
 region_la (fun W => W1.grownBy W none) n hm hB hL hD (grown_drew hg) h
end
end Go.Proofs.YtpcgkggpmipiaaaGreat
namespace Go.Proofs.YtpcgkggpmipiaaaGreat
set_option maxRecDepth 100000
set_option maxHeartbeats 32000000
open Go.RowKit
theorem compareU_any (op a b : Int) (w : World) :
  Calls Tryz.prog 245 #[.int .i64 op, .int .u64 a, .int .u64 b] w fun e w' => e = .returned (.int .u64 (Wd.cmpI op a b)) ∧ w' = w := by
 go_enter Tryz.func245, Tryz.ntmps245
 go_wp2
 all_goals (go_ret; refine ⟨ret_u64 ?_, rfl⟩; simp only [beq_iff_eq, beq_eq_false_iff_ne] at *; unfold Wd.cmpI Wd.tr; simp_all <;> omega)
theorem compareI_any (op a b : Int) (w : World) :
  Calls Tryz.prog 244 #[.int .i64 op, .int .i64 a, .int .i64 b] w fun e w' => e = .returned (.int .u64 (Wd.cmpI op a b)) ∧ w' = w := by
 go_enter Tryz.func244, Tryz.ntmps244
 go_wp2
 all_goals (go_ret; refine ⟨ret_u64 ?_, rfl⟩; simp only [beq_iff_eq, beq_eq_false_iff_ne] at *; unfold Wd.cmpI Wd.tr; simp_all <;> omega)
end Go.Proofs.YtpcgkggpmipiaaaGreat
namespace Go.Proofs.YtpcgkggpmipiaaaGreat
set_option maxRecDepth 100000
set_option maxHeartbeats 32000000
open Go.RowKit
set_option linter.unusedVariables false
theorem ops16 {op : Int} (h1 : 1 ≤ op) (h2 : op ≤ 16) : op = 1 ∨ op = 2 ∨ op = 3 ∨ op = 4 ∨ op = 5 ∨ op = 6 ∨ op = 7 ∨ op = 8 ∨ op = 9 ∨ op = 10 ∨ op = 11 ∨ op = 12 ∨ op = 13 ∨ op = 14 ∨ op = 15 ∨ op = 16 := by omega
theorem wrap_rng (x : Int) : 0 ≤ IntKind.u64.wrap x ∧ IntKind.u64.wrap x < 18446744073709551616 := by rw [IntKind.wrap_u64]; omega
theorem land_lt {a b : Int} (ha : 0 ≤ a) (ha2 : a < 18446744073709551616) (hb : 0 ≤ b) (hb2 : b < 18446744073709551616) : ((a.toNat &&& b.toNat : Nat) : Int) < 18446744073709551616 := by
  have := Nat.and_lt_two_pow (n := 64) a.toNat (y := b.toNat) (by omega); omega
theorem lor_lt {a b : Int} (ha : 0 ≤ a) (ha2 : a < 18446744073709551616) (hb : 0 ≤ b) (hb2 : b < 18446744073709551616) : ((a.toNat ||| b.toNat : Nat) : Int) < 18446744073709551616 := by
  have := Nat.or_lt_two_pow (n := 64) (x := a.toNat) (y := b.toNat) (by omega) (by omega); omega
theorem lxor_lt {a b : Int} (ha : 0 ≤ a) (ha2 : a < 18446744073709551616) (hb : 0 ≤ b) (hb2 : b < 18446744073709551616) : ((a.toNat ^^^ b.toNat : Nat) : Int) < 18446744073709551616 := by
  have := Nat.xor_lt_two_pow (n := 64) (x := a.toNat) (y := b.toNat) (by omega) (by omega); omega
theorem div_rng {x y : Int} (hx : 0 ≤ x) (hx2 : x < 18446744073709551616) (hy : 0 < y) : 0 ≤ x / y ∧ x / y < 18446744073709551616 :=
  ⟨Int.ediv_nonneg hx (by omega), Int.lt_of_le_of_lt (Int.ediv_le_self y hx) hx2⟩
theorem mod_rng {x y : Int} (hx : 0 ≤ x) (hy2 : y < 18446744073709551616) (hy : 0 < y) : 0 ≤ x % y ∧ x % y < 18446744073709551616 :=
  ⟨Int.emod_nonneg x (by omega), Int.lt_trans (Int.emod_lt_of_pos x hy) hy2⟩
theorem shr_rng {x : Int} (n : Nat) (hx : 0 ≤ x) (hx2 : x < 18446744073709551616) : 0 ≤ x / 2 ^ n ∧ x / 2 ^ n < 18446744073709551616 :=
  div_rng hx hx2 (Int.pow_pos (by omega))
theorem binU_any (op k x y : Int) (w : World) (hx : 0 ≤ x) (hx2 : x < 18446744073709551616) (hy : 0 ≤ y) (hy2 : y < 18446744073709551616) (h1 : 1 ≤ op) (h2 : op ≤ 16) (hz : op = 4 ∨ op = 5 → 0 < y) :
    Calls Tryz.prog 237 #[.int .i64 op, .int .i64 k, .int .u64 x, .int .u64 y] w fun e w' => e = .returned (.int .u64 (Wd.bu op k x y)) ∧ w' = w := by
  have Hz : Hid (op = 4 ∨ op = 5 → 0 < y) := hz
  clear hz
  rcases ops16 h1 h2 with h | h | h | h | h | h | h | h | h | h | h | h | h | h | h | h
  all_goals
    subst h
    first | have hy0 : 0 < y := Hz.out (by decide) | skip
    clear Hz h1 h2
    go_enter Tryz.func237, Tryz.ntmps237
    go_wp2_with (first | (go_at_call 241; go_in) | (go_at_call 245; refine (compareU_any _ _ _ _).mono ?_; rintro e w' ⟨rfl, rfl⟩))
    first
      | (go_ret; exact ⟨rfl, rfl⟩)
      | (refine (canon_any _ _ _ ?_ ?_).mono ?_
         · first | exact (wrap_rng _).1 | exact (div_rng hx hx2 hy0).1 | exact (mod_rng hx hy2 hy0).1 | exact (shr_rng _ hx hx2).1 | (simp only [Go.u64_and _ _ hx hx2 hy hy2, Go.u64_or _ _ hx hx2 hy hy2, Go.u64_xor _ _ hx hx2 hy hy2]; omega)
         · first | exact (wrap_rng _).2 | exact (div_rng hx hx2 hy0).2 | exact (mod_rng hx hy2 hy0).2 | exact (shr_rng _ hx hx2).2 | (rw [Go.u64_and _ _ hx hx2 hy hy2]; exact land_lt hx hx2 hy hy2) | (rw [Go.u64_or _ _ hx hx2 hy hy2]; exact lor_lt hx hx2 hy hy2) | (rw [Go.u64_xor _ _ hx hx2 hy hy2]; exact lxor_lt hx hx2 hy hy2)
         · rintro e w' ⟨rfl, rfl⟩
           go_wp2
           go_ret
           refine ⟨ret_u64 ?_, rfl⟩
           simp only [Wd.bu1, Wd.bu2, Wd.bu3, Wd.bu4, Wd.bu5, Wd.bu6, Wd.bu7, Wd.bu8, Wd.bu9, Wd.bu10, Wd.canon_wrap, Go.u64_and _ _ hx hx2 hy hy2, Go.u64_or _ _ hx hx2 hy hy2, Go.u64_xor _ _ hx hx2 hy hy2])
theorem sg_wrap (x : Int) : wrap64 x = Wd.sg x := by unfold wrap64 Wd.sg; rfl
theorem sg_ne {y : Int} (h : 0 < y) (h2 : y < 18446744073709551616) : (wrap64 y == 0) = false := by rw [beq_eq_false_iff_ne]; unfold wrap64; omega
theorem canon_sg (k x : Int) : Wd.canon k (Wd.sg x) = Wd.canon k x := by
  rw [← Wd.canon_mod k x, ← Wd.canon_mod k (Wd.sg x)]; congr 1; unfold Wd.sg; omega
theorem binS_any (op k x y : Int) (w : World) (hx : 0 ≤ x) (hx2 : x < 18446744073709551616) (hy : 0 ≤ y) (hy2 : y < 18446744073709551616) (h1 : 1 ≤ op) (h2 : op ≤ 16) (hz : op = 4 ∨ op = 5 → 0 < y) :
    Calls Tryz.prog 236 #[.int .i64 op, .int .i64 k, .int .u64 x, .int .u64 y] w fun e w' => e = .returned (.int .u64 (Wd.bs op k x y)) ∧ w' = w := by
  have Hz : Hid (op = 4 ∨ op = 5 → 0 < y) := hz
  clear hz
  rcases ops16 h1 h2 with h | h | h | h | h | h | h | h | h | h | h | h | h | h | h | h
  all_goals
    subst h
    first | (have hy0 : 0 < y := Hz.out (by decide); have hy3 : ¬ wrap64 y = 0 := by have := sg_ne hy0 hy2; simpa using this) | skip
    clear Hz h1 h2
    go_enter Tryz.func236, Tryz.ntmps236
    go_wp2_with (first | (go_at_call 241; go_in) | (go_at_call 244; refine (compareI_any _ _ _ _).mono ?_; rintro e w' ⟨rfl, rfl⟩) | (go_at_call 237; refine (binU_any _ _ _ _ _ (by assumption) (by assumption) (by assumption) (by assumption) (by decide) (by decide) (by intro h; simp at h)).mono ?_; rintro e w' ⟨rfl, rfl⟩))
    first
      | (go_ret; refine ⟨ret_u64 ?_, rfl⟩; first | exact (Wd.bsu _ _ _ _ (by decide) (by decide) (by decide) (by decide)).symm | (rw [Wd.bsc _ _ _ _ (by decide)]; simp only [sg_wrap]) | (rw [Wd.bs10, IntKind.wrap_u64, sg_wrap]))
      | (refine (canon_any _ _ _ (wrap_rng _).1 (wrap_rng _).2).mono ?_
         rintro e w' ⟨rfl, rfl⟩
         go_wp2
         go_ret
         refine ⟨ret_u64 ?_, rfl⟩
         simp only [Wd.bs4, Wd.bs5, Wd.canon_wrap, canon_sg, sg_wrap])
theorem ret_bin {a b c d : Int} (h : (c, d) = (a, b)) : Ending.returned (.tuple #[.int .u64 a, .int .i64 b]) = .returned (.tuple #[.int .u64 c, .int .i64 d]) := by cases h; rfl
theorem opcases (op : Int) : op = 9 ∨ op = 10 ∨ op = 4 ∨ op = 5 ∨ ((op == 9) = false ∧ (op == 10) = false ∧ (op == 4) = false ∧ (op == 5) = false) := by
 simp only [beq_eq_false_iff_ne]; omega
theorem binI_kind (op k x y : Int) (w : World) (hh : Wd.hasBinB op k = false) :
  Calls Tryz.prog 224 #[.int .i64 op, .int .i64 k, .int .u64 x, .int .u64 y] w fun e w' => e = .returned (.tuple #[.int .u64 0, .int .i64 10]) ∧ w' = w := by
 go_enter Tryz.func224, Tryz.ntmps224
 go_wp2_with (go_at_call 234; refine (hasBin_any _ _ _).mono ?_; rintro e w' ⟨rfl, rfl⟩)
 go_ret2
 exact ⟨rfl, rfl⟩
theorem binI_form (op k x y : Int) (w : World) (hx : 0 ≤ x) (hx2 : x < 18446744073709551616) (hy : 0 ≤ y) (hy2 : y < 18446744073709551616)
  (hh : Wd.hasBinB op k = true) (hf : Wd.isB k x = false ∨ Wd.isB (if Wd.shB op then 9 else k) y = false) :
  Calls Tryz.prog 224 #[.int .i64 op, .int .i64 k, .int .u64 x, .int .u64 y] w fun e w' => e = .returned (.tuple #[.int .u64 0, .int .i64 11]) ∧ w' = w := by
 cases hix : Wd.isB k x
 ·clear hf
  rcases opcases op with h | h | h | h | ⟨h9, h10, h4, h5⟩
  all_goals
   first | subst h | skip
   go_enter Tryz.func224, Tryz.ntmps224
   go_wp2_with (first | (go_at_call 234; refine (hasBin_any _ _ _).mono ?_; rintro e w' ⟨rfl, rfl⟩) | (go_at_call 159; refine (is_any _ _ _ (by assumption) (by assumption)).mono ?_; rintro e w' ⟨rfl, rfl⟩))
   go_ret2
   exact ⟨rfl, rfl⟩
 ·have Hf : Hid (Wd.isB (if Wd.shB op then 9 else k) y = false) := by rcases hf with h | h; { rw [hix] at h; cases h }; exact h
  clear hf
  rcases opcases op with h | h | h | h | ⟨h9, h10, h4, h5⟩
  all_goals
   first | subst h | skip
   first
    | have hf : Wd.isB 9 y = false := Hf.out
    | have hf : Wd.isB k y = false := Hf.out
    | have hf : Wd.isB k y = false := by have := Hf.out; unfold Wd.shB at this; rw [h9, h10] at this; exact this
   clear Hf
   go_enter Tryz.func224, Tryz.ntmps224
   go_wp2_with (first | (go_at_call 234; refine (hasBin_any _ _ _).mono ?_; rintro e w' ⟨rfl, rfl⟩) | (go_at_call 159; refine (is_any _ _ _ (by assumption) (by assumption)).mono ?_; rintro e w' ⟨rfl, rfl⟩))
   go_ret2
   exact ⟨rfl, rfl⟩
theorem binI_zero (op k x : Int) (w : World) (hx : 0 ≤ x) (hx2 : x < 18446744073709551616) (ho : op = 4 ∨ op = 5) (hk : (k == 10) = false)
  (hh : Wd.hasBinB op k = true) (hix : Wd.isB k x = true) (hiy : Wd.isB k 0 = true) :
  Calls Tryz.prog 224 #[.int .i64 op, .int .i64 k, .int .u64 x, .int .u64 0] w fun e w' => e = .returned (.tuple #[.int .u64 0, .int .i64 12]) ∧ w' = w := by
 rcases ho with h | h
 all_goals
  subst h
  go_enter Tryz.func224, Tryz.ntmps224
  go_wp2_with (first | (go_at_call 234; refine (hasBin_any _ _ _).mono ?_; rintro e w' ⟨rfl, rfl⟩) | (go_at_call 159; refine (is_any _ _ _ (by first | assumption | decide) (by first | assumption | decide)).mono ?_; rintro e w' ⟨rfl, rfl⟩))
  go_ret2
  exact ⟨rfl, rfl⟩
theorem binI_ok (op k x y : Int) (w : World) (hx : 0 ≤ x) (hx2 : x < 18446744073709551616) (hy : 0 ≤ y) (hy2 : y < 18446744073709551616) (hk : (k == 10) = false)
  (hh : Wd.hasBinB op k = true) (hix : Wd.isB k x = true) (hf : Wd.isB (if Wd.shB op then 9 else k) y = true) (hz : op = 4 ∨ op = 5 → 0 < y) :
  Calls Tryz.prog 224 #[.int .i64 op, .int .i64 k, .int .u64 x, .int .u64 y] w fun e w' => e = .returned (.tuple #[.int .u64 (if Wd.sgnB k then Wd.bs op k x y else Wd.bu op k x y), .int .i64 0]) ∧ w' = w := by
 have Hz : Hid (op = 4 ∨ op = 5 → 0 < y) := hz
 obtain ⟨ho1, ho2⟩ := Wd.hasBin_ops hh
 have hfc : (op = 9 ∨ op = 10) ∧ Wd.isB 9 y = true ∨ ((op == 9) = false ∧ (op == 10) = false) ∧ Wd.isB k y = true := by
  by_cases h : op = 9 ∨ op = 10
  ·left; refine ⟨h, ?_⟩; have e : Wd.shB op = true := by rcases h with rfl | rfl <;> rfl
   rw [e] at hf; exact hf
  ·right; have e : (op == 9) = false ∧ (op == 10) = false := by simp only [beq_eq_false_iff_ne]; omega
   refine ⟨e, ?_⟩; unfold Wd.shB at hf; rw [e.1, e.2] at hf; exact hf
 clear hf
 have hyc : y = 0 ∧ (op == 4) = false ∧ (op == 5) = false ∨ (y == 0) = false := by
  by_cases h : y = 0
  ·left; refine ⟨h, ?_⟩; simp only [beq_eq_false_iff_ne]; constructor <;> (intro e; have := hz (by omega); omega)
  ·right; simpa using h
 clear hz
 cases hs : Wd.sgnB k
 all_goals
  rcases hyc with ⟨rfl, h4, h5⟩ | hyc
  all_goals
   rcases hfc with ⟨rfl | rfl, hf⟩ | ⟨⟨h9, h10⟩, hf⟩
   all_goals
    go_enter Tryz.func224, Tryz.ntmps224
    go_wp2_with (first | (go_at_call 234; refine (hasBin_any _ _ _).mono ?_; rintro e w' ⟨rfl, rfl⟩) | (go_at_call 159; refine (is_any _ _ _ (by first | assumption | decide) (by first | assumption | decide)).mono ?_; rintro e w' ⟨rfl, rfl⟩) | (go_at_call 221; refine (signed_any _ _).mono ?_; rintro e w' ⟨rfl, rfl⟩) | (go_at_call 236; refine (binS_any _ _ _ _ _ (by assumption) (by assumption) (by first | assumption | decide) (by first | assumption | decide) (by first | assumption | decide) (by first | assumption | decide) Hz.out).mono ?_; rintro e w' ⟨rfl, rfl⟩) | (go_at_call 237; refine (binU_any _ _ _ _ _ (by assumption) (by assumption) (by first | assumption | decide) (by first | assumption | decide) (by first | assumption | decide) (by first | assumption | decide) Hz.out).mono ?_; rintro e w' ⟨rfl, rfl⟩))
    all_goals
     go_ret2
     exact ⟨ret_bin rfl, rfl⟩
theorem binI_any (op k x y : Int) (w : World) (hx : 0 ≤ x) (hx2 : x < 18446744073709551616) (hy : 0 ≤ y) (hy2 : y < 18446744073709551616) (hk : k ≠ 10) :
  Calls Tryz.prog 224 #[.int .i64 op, .int .i64 k, .int .u64 x, .int .u64 y] w fun e w' => e = .returned (.tuple #[.int .u64 (Wd.binI op k x y).1, .int .i64 (Wd.binI op k x y).2]) ∧ w' = w := by
 have hk' : (k == 10) = false := by simpa using hk
 unfold Wd.binI
 cases hh : Wd.hasBinB op k
 ·rw [if_pos rfl]; exact binI_kind op k x y w hh
 ·rw [if_neg (by simp)]
  by_cases hf : Wd.isB k x = false ∨ Wd.isB (if Wd.shB op then 9 else k) y = false
  ·rw [if_pos hf]; exact binI_form op k x y w hx hx2 hy hy2 hh hf
  ·rw [if_neg hf]
   have hix : Wd.isB k x = true := by cases h : Wd.isB k x; { exact absurd (.inl h) hf }; rfl
   have hiy : Wd.isB (if Wd.shB op then 9 else k) y = true := by cases h : Wd.isB (if Wd.shB op then 9 else k) y; { exact absurd (.inr h) hf }; rfl
   by_cases hz : y = 0 ∧ (op = 4 ∨ op = 5)
   ·rw [if_pos hz]
    obtain ⟨rfl, ho⟩ := hz
    have hs : Wd.shB op = false := by rcases ho with rfl | rfl <;> rfl
    rw [hs] at hiy
    exact binI_zero op k x w hx hx2 ho hk' hh hix hiy
   ·rw [if_neg hz]
    refine (binI_ok op k x y w hx hx2 hy hy2 hk' hh hix hiy (by intro h; have : y ≠ 0 := fun e => hz ⟨e, h⟩; omega)).mono ?_
    rintro e w' ⟨rfl, rfl⟩
    refine ⟨?_, rfl⟩
    split <;> rfl
end Go.Proofs.YtpcgkggpmipiaaaGreat
namespace Go.Proofs.YtpcgkggpmipiaaaGreat
open Go.RowKit
set_option linter.unusedVariables false
namespace Wd
end Wd
end Go.Proofs.YtpcgkggpmipiaaaGreat
namespace Go.Proofs.YtpcgkggpmipiaaaGreat
set_option maxRecDepth 100000
set_option maxHeartbeats 32000000
open Go.RowKit
set_option linter.unusedVariables false
namespace Wd
def flip (x : Int) : Int := if x < 9223372036854775808 then x + 9223372036854775808 else x - 9223372036854775808
def unI (op k x : Int) : Int × Int :=
 if hasUnB op k = false then (0, 10) else if isB k x = false then (0, 11)
 else if op = 2 then (1 - x, 0) else if op = 3 then (canon k (18446744073709551615 - x), 0) else if k = 10 then (flip x, 0) else (canon k (-x), 0)
end Wd
theorem xor_top {a : Nat} (h : a < 9223372036854775808) : a ^^^ 9223372036854775808 = 9223372036854775808 + a := by
 have e : (9223372036854775808 : Nat) = 2 ^ 63 := by decide
 rw [e] at *
 refine Nat.eq_of_testBit_eq fun i => ?_
 rw [Nat.testBit_xor, Nat.testBit_two_pow]
 rcases Nat.lt_trichotomy i 63 with hi | hi | hi
 ·rw [Nat.testBit_two_pow_add_gt hi, decide_eq_false (by omega), Bool.xor_false]
 ·subst hi; rw [Nat.testBit_two_pow_add_eq, decide_eq_true rfl, Bool.xor_true]
 ·have p : 2 ^ 64 ≤ 2 ^ i := Nat.pow_le_pow_right (by omega) hi
  have q : 2 ^ 64 = 2 ^ 63 + 2 ^ 63 := by decide
  rw [Nat.testBit_lt_two_pow (x := a) (by omega), Nat.testBit_lt_two_pow (x := 2 ^ 63 + a) (by omega), decide_eq_false (by omega), Bool.xor_false]
theorem xor_ones {a : Nat} (h : a < 18446744073709551616) : 18446744073709551615 ^^^ a = 18446744073709551615 - a := by
 have e1 : (18446744073709551615 : Nat) = 2 ^ 64 - 1 := by decide
 have e2 : (18446744073709551615 - a : Nat) = 2 ^ 64 - (a + 1) := by omega
 have h' : a < 2 ^ 64 := h
 rw [e2, e1]
 refine Nat.eq_of_testBit_eq fun i => ?_
 rw [Nat.testBit_xor, Nat.testBit_two_pow_sub_one, Nat.testBit_two_pow_sub_succ h']
 by_cases hi : i < 64
 ·simp [hi]
 ·have p : 2 ^ 64 ≤ 2 ^ i := Nat.pow_le_pow_right (by omega) (by omega)
  rw [Nat.testBit_lt_two_pow (x := a) (by omega)]; simp [hi]
theorem bits_flip {x : Int} (h1 : 0 ≤ x) (h2 : x < 18446744073709551616) : bits .xor .u64 x 9223372036854775808 = Wd.flip x := by
 rw [Go.u64_xor _ _ h1 h2 (by decide) (by decide), show (9223372036854775808 : Int).toNat = 9223372036854775808 from rfl]
 unfold Wd.flip
 split
 ·rw [xor_top (by omega)]; omega
 ·have e : x.toNat = (x - 9223372036854775808).toNat ^^^ 9223372036854775808 := by rw [xor_top (by omega)]; omega
  rw [e, Nat.xor_assoc, Nat.xor_self, Nat.xor_zero]; omega
theorem bits_com {x : Int} (h1 : 0 ≤ x) (h2 : x < 18446744073709551616) : bits .xor .u64 IntKind.u64.max x = 18446744073709551615 - x := by
 rw [show IntKind.u64.max = 18446744073709551615 from by decide, Go.u64_xor _ _ (by decide) (by decide) h1 h2, show (18446744073709551615 : Int).toNat = 18446744073709551615 from rfl, xor_ones (by omega)]; omega
theorem bits_not {x : Int} (h1 : 0 ≤ x) (h2 : x ≤ 1) : bits .xor .u64 x 1 = 1 - x := by
 rw [Go.u64_xor _ _ h1 (by omega) (by decide) (by decide)]
 have : x = 0 ∨ x = 1 := by omega
 rcases this with rfl | rfl <;> decide
theorem unI_ok {op k x : Int} (hh : Wd.hasUnB op k = true) (hi : Wd.isB k x = true) :
  Wd.unI op k x = if op = 2 then (1 - x, 0) else if op = 3 then (Wd.canon k (18446744073709551615 - x), 0) else if k = 10 then (Wd.flip x, 0) else (Wd.canon k (-x), 0) := by
 unfold Wd.unI; rw [if_neg (by simp [hh]), if_neg (by simp [hi])]
theorem un_ok (op k x : Int) (w : World) (hx : 0 ≤ x) (hx2 : x < 18446744073709551616) (hh : Wd.hasUnB op k = true) (hi : Wd.isB k x = true) :
  Calls Tryz.prog 203 #[.int .i64 op, .int .i64 k, .int .u64 x] w fun e w' => e = .returned (.tuple #[.int .u64 (Wd.unI op k x).1, .int .i64 (Wd.unI op k x).2]) ∧ w' = w := by
 have Hu : Hid (_ = _) := unI_ok hh hi
 have Hn : Hid (op = 2 → x ≤ 1) := by
  show op = 2 → x ≤ 1
  rintro rfl
  have hk : k = 1 := by simpa [Wd.hasUnB] using hh
  subst hk
  simp only [Wd.isB, Wd.canon1, Bool.and_eq_true, beq_iff_eq] at hi
  omega
 go_enter Tryz.func203, Tryz.ntmps203
 go_wp2_with (first | (go_at_call 222; refine (hasUn_any _ _ _).mono ?_; rintro e w' ⟨rfl, rfl⟩) | (go_at_call 159; refine (is_any _ _ _ (by first | assumption | decide) (by first | assumption | decide)).mono ?_; rintro e w' ⟨rfl, rfl⟩) | (go_at_call 223; go_in) | (go_at_call 202; refine (canon_any _ _ _ (by first | exact (wrap_rng _).1 | (rw [bits_com (by assumption) (by assumption)]; omega)) (by first | exact (wrap_rng _).2 | (rw [bits_com (by assumption) (by assumption)]; omega))).mono ?_; rintro e w' ⟨rfl, rfl⟩))
 all_goals
  go_ret2
  refine ⟨ret_bin ?_, rfl⟩
  show Wd.unI op k x = _
  rw [Hu.out]
 ·rw [if_pos (by simpa using ‹(op == 2) = true›), bits_not hx (Hn.out (by simpa using ‹(op == 2) = true›))]
 ·rw [if_neg (by simpa using ‹(op == 2) = false›), if_pos (by simpa using ‹(op == 3) = true›), bits_com hx hx2]
 ·rw [if_neg (by simpa using ‹(op == 2) = false›), if_neg (by simpa using ‹(op == 3) = false›), if_pos (by simpa using ‹(k == 10) = true›), bits_flip hx hx2]
 ·rw [if_neg (by simpa using ‹(op == 2) = false›), if_neg (by simpa using ‹(op == 3) = false›), if_neg (by simpa using ‹(k == 10) = false›), Wd.canon_wrap]
theorem un_kind (op k x : Int) (w : World) (hh : Wd.hasUnB op k = false) :
  Calls Tryz.prog 203 #[.int .i64 op, .int .i64 k, .int .u64 x] w fun e w' => e = .returned (.tuple #[.int .u64 0, .int .i64 10]) ∧ w' = w := by
 go_enter Tryz.func203, Tryz.ntmps203
 go_wp2_with (go_at_call 222; refine (hasUn_any _ _ _).mono ?_; rintro e w' ⟨rfl, rfl⟩)
 go_ret2
 exact ⟨rfl, rfl⟩
theorem un_form (op k x : Int) (w : World) (hx : 0 ≤ x) (hx2 : x < 18446744073709551616) (hh : Wd.hasUnB op k = true) (hi : Wd.isB k x = false) :
  Calls Tryz.prog 203 #[.int .i64 op, .int .i64 k, .int .u64 x] w fun e w' => e = .returned (.tuple #[.int .u64 0, .int .i64 11]) ∧ w' = w := by
 go_enter Tryz.func203, Tryz.ntmps203
 go_wp2_with (first | (go_at_call 222; refine (hasUn_any _ _ _).mono ?_; rintro e w' ⟨rfl, rfl⟩) | (go_at_call 159; refine (is_any _ _ _ (by assumption) (by assumption)).mono ?_; rintro e w' ⟨rfl, rfl⟩))
 go_ret2
 exact ⟨rfl, rfl⟩
theorem un_any (op k x : Int) (w : World) (hx : 0 ≤ x) (hx2 : x < 18446744073709551616) :
  Calls Tryz.prog 203 #[.int .i64 op, .int .i64 k, .int .u64 x] w fun e w' => e = .returned (.tuple #[.int .u64 (Wd.unI op k x).1, .int .i64 (Wd.unI op k x).2]) ∧ w' = w := by
 cases hh : Wd.hasUnB op k
 ·have e : Wd.unI op k x = (0, 10) := by unfold Wd.unI; rw [if_pos hh]
  rw [e]; exact un_kind op k x w hh
 ·cases hi : Wd.isB k x
  ·have e : Wd.unI op k x = (0, 11) := by unfold Wd.unI; rw [if_neg (by simp [hh]), if_pos hi]
   rw [e]; exact un_form op k x w hx hx2 hh hi
  ·exact un_ok op k x w hx hx2 hh hi
end Go.Proofs.YtpcgkggpmipiaaaGreat
namespace Go.Proofs.YtpcgkggpmipiaaaGreat
open Ieee
namespace Fl
set_option linter.unusedVariables false
def theNaN : Int := 9221120237041090560
def ordN (a b : Nat) : Option Ordering := double.order a b
def cmpN (op : Int) (a b : Nat) : Int :=
  if op = 11 then Wd.tr (ordN a b == some .eq) else if op = 12 then Wd.tr (ordN a b != some .eq) else if op = 13 then Wd.tr (ordN a b == some .lt)
  else if op = 14 then Wd.tr (ordN a b == some .lt || ordN a b == some .eq) else if op = 15 then Wd.tr (ordN a b == some .gt) else if op = 16 then Wd.tr (ordN a b == some .gt || ordN a b == some .eq) else 0
def cmpF (op x y : Int) : Int := cmpN op x.toNat y.toNat
def raw (op x y : Int) : Option Nat :=
  if op = 1 then double.add x.toNat y.toNat else if op = 2 then double.sub x.toNat y.toNat else if op = 3 then double.mul x.toNat y.toNat else double.div x.toNat y.toNat
def ar (op x y : Int) : Int := match raw op x y with | some r => r | none => theNaN
def bf (op x y : Int) : Int := if Wd.cmpB op then cmpF op x y else ar op x y
theorem sw : double.signWeight = 9223372036854775808 := by decide +kernel
theorem bn : double.binade = 4503599627370496 := by decide +kernel
theorem ir : double.infRung = 9218868437227405312 := by decide +kernel
theorem lp : double.leastPlace = -1074 := by decide +kernel
def rdOf (neg : Bool) (rung : Nat) : Datum :=
  if rung < 4503599627370496 then .number neg rung (-1074)
  else if rung < 9218868437227405312 then .number neg (4503599627370496 + rung % 4503599627370496) (-1074 + (rung / 4503599627370496 - 1 : Nat))
  else if rung = 9218868437227405312 then .infinity neg
  else .nan neg (rung - 9218868437227405312)
theorem read_is (n : Nat) : double.read n = rdOf (n / 9223372036854775808 % 2 == 1) (n % 9223372036854775808) := by
  unfold Format.read rdOf
  simp only [sw, bn, ir, lp]
theorem read_word (neg : Bool) {rung : Nat} (h : rung < 9223372036854775808) : double.read (double.word neg rung) = rdOf neg rung := by
  rw [read_is]
  unfold Format.word
  rw [sw]
  cases neg
  · rw [if_neg (by simp), show rung / 9223372036854775808 % 2 = 0 by omega, show rung % 9223372036854775808 = rung by omega]; rfl
  · rw [if_pos rfl, show (9223372036854775808 + rung) / 9223372036854775808 % 2 = 1 by omega, show (9223372036854775808 + rung) % 9223372036854775808 = rung by omega]; rfl
theorem nearest_word (neg : Bool) (mag : Nat) (place : Int) : ∃ rung, rung ≤ 9218868437227405312 ∧ double.nearest neg mag place = double.word neg rung := by
  unfold Format.nearest
  split
  · exact ⟨0, by omega, rfl⟩
  · dsimp only
    refine ⟨_, ?_, rfl⟩
    rw [ir]; exact Nat.min_le_right _ _
theorem write_num (neg : Bool) (mag : Nat) (place : Int) : (double.read (double.write (.number neg mag place))).isNaN = false := by
  obtain ⟨r, h, e⟩ := nearest_word neg mag place
  show (double.read (double.nearest neg mag place)).isNaN = false
  rw [e, read_word neg (by omega)]
  unfold rdOf
  repeat' split
  all_goals first | rfl | omega
theorem write_inf (neg : Bool) : (double.read (double.write (.infinity neg))).isNaN = false := by
  show (double.read (double.word neg double.infRung)).isNaN = false
  rw [ir, read_word neg (by omega)]
  unfold rdOf
  repeat' split
  all_goals first | rfl | omega
theorem cmp_self (a : Int) : compare a a = Ordering.eq := by simp [compare, compareOfLessAndEq]
theorem cmp_selfN (a : Nat) : compare a a = Ordering.eq := by simp [compare, compareOfLessAndEq]
theorem order_self {d : Datum} (h : d.isNaN = false) : d.order d = some .eq := by
  cases d with
  | number s m i => simp only [Datum.order]; rw [cmp_self]
  | infinity s => simp only [Datum.order]; rw [cmp_selfN]
  | nan s t => cases h
theorem order_nan {d e : Datum} (h : d.isNaN = true) : d.order e = none := by
  cases d with
  | nan s t => cases e <;> rfl
  | number s m i => cases h
  | infinity s => cases h
theorem raw_ok {op x y : Int} {r : Nat} (h : raw op x y = some r) : (double.read r).isNaN = false := by
  have key : ∀ d : Option Datum, (∀ e, d = some e → e.isNaN = false) → d.map double.write = some r → (double.read r).isNaN = false := by
    intro d hd hr
    cases d with
    | none => cases hr
    | some e =>
      have h1 := hd e rfl
      have : double.write e = r := by simpa using hr
      subst this
      cases e with
      | number s m i => exact write_num s m i
      | infinity s => exact write_inf s
      | nan s t => cases h1
  have hs : ∀ a b e, Datum.sum a b = some e → e.isNaN = false := by
    intro a b e he
    cases a <;> cases b <;> simp only [Datum.sum] at he
    all_goals first | (cases he; done) | skip
    all_goals first | (cases he; rfl) | (split at he; · cases he; rfl
                                         · cases he)
  have hp : ∀ a b e, Datum.product a b = some e → e.isNaN = false := by
    intro a b e he
    cases a <;> cases b <;> simp only [Datum.product] at he
    all_goals first | (cases he; done) | skip
    all_goals first | (cases he; rfl) | (split at he; · cases he
                                         · cases he; rfl)
  have hq : ∀ n a b e, Datum.quotient n a b = some e → e.isNaN = false := by
    intro n a b e he
    cases a <;> cases b <;> simp only [Datum.quotient] at he
    all_goals first | (cases he; done) | skip
    all_goals first | (cases he; rfl) | (split at he; · split at he
                                                        · cases he
                                                        · cases he; rfl
                                         · cases he; rfl)
  unfold raw at h
  split at h
  · exact key _ (hs _ _) h
  · split at h
    · exact key _ (hs _ _) h
    · split at h
      · exact key _ (hp _ _) h
      · exact key _ (hq _ _ _) h
end Fl
end Go.Proofs.YtpcgkggpmipiaaaGreat
namespace Go.Proofs.YtpcgkggpmipiaaaGreat
set_option maxRecDepth 100000
set_option maxHeartbeats 32000000
open Go.RowKit
set_option linter.unusedVariables false
theorem frombits (x : Int) (w : World) : (callFunc 226 #[.int .u64 x]).run Tryz.prog w = .ok (.value (.float .f64 x.toNat)) w := by kernel_rfl
theorem tobits (b : Nat) (w : World) : (callFunc 227 #[.float .f64 b]).run Tryz.prog w = .ok (.value (.int .u64 b)) w := by kernel_rfl
theorem ord_nat (a b : Nat) : Fl.ordN a b = FloatKind.f64.format.order a b := rfl
theorem compareF_any (op : Int) (a b : Nat) (w : World) :
  Calls Tryz.prog 242 #[.int .i64 op, .float .f64 a, .float .f64 b] w fun e w' => e = .returned (.int .u64 (Fl.cmpN op a b)) ∧ w' = w := by
 go_enter Tryz.func242, Tryz.ntmps242
 go_wp2
 all_goals
  go_ret
  refine ⟨ret_u64 ?_, rfl⟩
  unfold Fl.cmpN Wd.tr
  rw [ord_nat]
  generalize FloatKind.f64.format.order a b = o at *
  simp_all
theorem self_eq {b : Nat} (h : (Ieee.double.read b).isNaN = false) : (FloatKind.f64.format.order b b != some Ordering.eq) = false := by
 show (Ieee.Datum.order (Ieee.double.read b) (Ieee.double.read b) != some Ordering.eq) = false
 rw [Fl.order_self h]; rfl
theorem self_ne {b : Nat} (h : (Ieee.double.read b).isNaN = true) : (FloatKind.f64.format.order b b != some Ordering.eq) = true := by
 show (Ieee.Datum.order (Ieee.double.read b) (Ieee.double.read b) != some Ordering.eq) = true
 rw [Fl.order_nan h]; rfl
theorem oneNaN_no (b : Nat) (w : World) (h : (Ieee.double.read b).isNaN = false) :
  Calls Tryz.prog 243 #[.float .f64 b] w fun e w' => e = .returned (.int .u64 b) ∧ w' = w := by
 have hb := tobits b
 have hs := self_eq h
 clear h
 go_enter Tryz.func243, Tryz.ntmps243
 go_wp2
 go_ret
 exact ⟨rfl, rfl⟩
theorem oneNaN_yes (b : Nat) (w : World) (h : (Ieee.double.read b).isNaN = true) :
  Calls Tryz.prog 243 #[.float .f64 b] w fun e w' => e = .returned (.int .u64 Fl.theNaN) ∧ w' = w := by
 have hs := self_ne h
 clear h
 go_enter Tryz.func243, Tryz.ntmps243
 go_wp2
 go_ret
 exact ⟨rfl, rfl⟩
def anyNaN (w : World) (x y : Nat) : Nat := Question.cut (.nanBits .f64 x y) (w.tape w.drawn (.nanBits .f64 x y))
theorem anyNaN_is (w : World) (x y : Nat) : (Ieee.double.read (anyNaN w x y)).isNaN = true := by
 unfold anyNaN
 generalize w.tape w.drawn (.nanBits .f64 x y) = t
 show (Ieee.double.read ((t % 2) * 2 ^ 63 + 0x7ff0000000000000 + 1 + (t / 2) % (2 ^ 52 - 1))).isNaN = true
 rw [Fl.read_is]
 have h1 : ((t % 2) * 2 ^ 63 + 0x7ff0000000000000 + 1 + (t / 2) % (2 ^ 52 - 1)) % 9223372036854775808 = 0x7ff0000000000000 + 1 + (t / 2) % (2 ^ 52 - 1) := by omega
 rw [h1]
 unfold Fl.rdOf
 rw [if_neg (by omega), if_neg (by omega), if_neg (by omega)]; rfl
theorem run_nan (op : BinOp) (t : TypeId) (x y : Nat) (h : floatBits op .f64 x y = none) (ho : op = .add ∨ op = .sub ∨ op = .mul ∨ op = .quo) (w : World) :
  (binOp op t (.float .f64 x) (.float .f64 y)).run Tryz.prog w = .ok (.float .f64 (anyNaN w x y)) w.drew := by
 unfold floatBits at h
 rcases ho with rfl | rfl | rfl | rfl <;> simp only at h <;> simp [binOp, Op.floatArith, h, anyNaN, Question.forced]
theorem binF_add (x y : Int) (w : World) :
  Calls Tryz.prog 235 #[.int .i64 1, .int .u64 x, .int .u64 y] w fun e w' => e = .returned (.int .u64 (Fl.ar 1 x y)) ∧ ∃ n, w' = w.drewN n := by
 have f1 := frombits
 cases hr : floatBits .add .f64 x.toNat y.toNat with
 | some r =>
  have Ha : Hid (Fl.ar 1 x y = r) := by show (match floatBits .add .f64 x.toNat y.toNat with | some r => (r : Int) | none => Fl.theNaN) = (r : Int); rw [hr]
  have Hn : Hid ((Ieee.double.read r).isNaN = false) := Fl.raw_ok (op := 1) (x := x) (y := y) hr
  have hrun := fun (w : World) (t : TypeId) => run_float_arith (P := Tryz.prog) w .add t .f64 x.toNat y.toNat r hr
  clear hr
  go_enter Tryz.func235, Tryz.ntmps235
  go_wp2_with (first | (go_at_call 241; go_in) | (go_at_call 243; refine (oneNaN_no _ _ Hn.out).mono ?_; rintro e w' ⟨rfl, rfl⟩))
  go_ret
  exact ⟨ret_u64 Ha.out.symm, 0, rfl⟩
 | none =>
  have Ha : Hid (Fl.ar 1 x y = Fl.theNaN) := by show (match floatBits .add .f64 x.toNat y.toNat with | some r => (r : Int) | none => Fl.theNaN) = _; rw [hr]
  have hrun := fun (w : World) (t : TypeId) => run_nan .add t x.toNat y.toNat hr (by simp) w
  clear hr
  go_enter Tryz.func235, Tryz.ntmps235
  go_wp2_with (first | (go_at_call 241; go_in) | (go_at_call 243; refine (oneNaN_yes _ _ (anyNaN_is _ _ _)).mono ?_; rintro e w' ⟨rfl, rfl⟩))
  go_ret
  exact ⟨ret_u64 Ha.out.symm, 1, rfl⟩
theorem binF_sub (x y : Int) (w : World) :
  Calls Tryz.prog 235 #[.int .i64 2, .int .u64 x, .int .u64 y] w fun e w' => e = .returned (.int .u64 (Fl.ar 2 x y)) ∧ ∃ n, w' = w.drewN n := by
 have f1 := frombits
 cases hr : floatBits .sub .f64 x.toNat y.toNat with
 | some r =>
  have Ha : Hid (Fl.ar 2 x y = r) := by show (match floatBits .sub .f64 x.toNat y.toNat with | some r => (r : Int) | none => Fl.theNaN) = (r : Int); rw [hr]
  have Hn : Hid ((Ieee.double.read r).isNaN = false) := Fl.raw_ok (op := 2) (x := x) (y := y) hr
  have hrun := fun (w : World) (t : TypeId) => run_float_arith (P := Tryz.prog) w .sub t .f64 x.toNat y.toNat r hr
  clear hr
  go_enter Tryz.func235, Tryz.ntmps235
  go_wp2_with (first | (go_at_call 241; go_in) | (go_at_call 243; refine (oneNaN_no _ _ Hn.out).mono ?_; rintro e w' ⟨rfl, rfl⟩))
  go_ret
  exact ⟨ret_u64 Ha.out.symm, 0, rfl⟩
 | none =>
  have Ha : Hid (Fl.ar 2 x y = Fl.theNaN) := by show (match floatBits .sub .f64 x.toNat y.toNat with | some r => (r : Int) | none => Fl.theNaN) = _; rw [hr]
  have hrun := fun (w : World) (t : TypeId) => run_nan .sub t x.toNat y.toNat hr (by simp) w
  clear hr
  go_enter Tryz.func235, Tryz.ntmps235
  go_wp2_with (first | (go_at_call 241; go_in) | (go_at_call 243; refine (oneNaN_yes _ _ (anyNaN_is _ _ _)).mono ?_; rintro e w' ⟨rfl, rfl⟩))
  go_ret
  exact ⟨ret_u64 Ha.out.symm, 1, rfl⟩
theorem binF_mul (x y : Int) (w : World) :
  Calls Tryz.prog 235 #[.int .i64 3, .int .u64 x, .int .u64 y] w fun e w' => e = .returned (.int .u64 (Fl.ar 3 x y)) ∧ ∃ n, w' = w.drewN n := by
 have f1 := frombits
 cases hr : floatBits .mul .f64 x.toNat y.toNat with
 | some r =>
  have Ha : Hid (Fl.ar 3 x y = r) := by show (match floatBits .mul .f64 x.toNat y.toNat with | some r => (r : Int) | none => Fl.theNaN) = (r : Int); rw [hr]
  have Hn : Hid ((Ieee.double.read r).isNaN = false) := Fl.raw_ok (op := 3) (x := x) (y := y) hr
  have hrun := fun (w : World) (t : TypeId) => run_float_arith (P := Tryz.prog) w .mul t .f64 x.toNat y.toNat r hr
  clear hr
  go_enter Tryz.func235, Tryz.ntmps235
  go_wp2_with (first | (go_at_call 241; go_in) | (go_at_call 243; refine (oneNaN_no _ _ Hn.out).mono ?_; rintro e w' ⟨rfl, rfl⟩))
  go_ret
  exact ⟨ret_u64 Ha.out.symm, 0, rfl⟩
 | none =>
  have Ha : Hid (Fl.ar 3 x y = Fl.theNaN) := by show (match floatBits .mul .f64 x.toNat y.toNat with | some r => (r : Int) | none => Fl.theNaN) = _; rw [hr]
  have hrun := fun (w : World) (t : TypeId) => run_nan .mul t x.toNat y.toNat hr (by simp) w
  clear hr
  go_enter Tryz.func235, Tryz.ntmps235
  go_wp2_with (first | (go_at_call 241; go_in) | (go_at_call 243; refine (oneNaN_yes _ _ (anyNaN_is _ _ _)).mono ?_; rintro e w' ⟨rfl, rfl⟩))
  go_ret
  exact ⟨ret_u64 Ha.out.symm, 1, rfl⟩
theorem binF_quo (x y : Int) (w : World) :
  Calls Tryz.prog 235 #[.int .i64 4, .int .u64 x, .int .u64 y] w fun e w' => e = .returned (.int .u64 (Fl.ar 4 x y)) ∧ ∃ n, w' = w.drewN n := by
 have f1 := frombits
 cases hr : floatBits .quo .f64 x.toNat y.toNat with
 | some r =>
  have Ha : Hid (Fl.ar 4 x y = r) := by show (match floatBits .quo .f64 x.toNat y.toNat with | some r => (r : Int) | none => Fl.theNaN) = (r : Int); rw [hr]
  have Hn : Hid ((Ieee.double.read r).isNaN = false) := Fl.raw_ok (op := 4) (x := x) (y := y) hr
  have hrun := fun (w : World) (t : TypeId) => run_float_arith (P := Tryz.prog) w .quo t .f64 x.toNat y.toNat r hr
  clear hr
  go_enter Tryz.func235, Tryz.ntmps235
  go_wp2_with (first | (go_at_call 241; go_in) | (go_at_call 243; refine (oneNaN_no _ _ Hn.out).mono ?_; rintro e w' ⟨rfl, rfl⟩))
  go_ret
  exact ⟨ret_u64 Ha.out.symm, 0, rfl⟩
 | none =>
  have Ha : Hid (Fl.ar 4 x y = Fl.theNaN) := by show (match floatBits .quo .f64 x.toNat y.toNat with | some r => (r : Int) | none => Fl.theNaN) = _; rw [hr]
  have hrun := fun (w : World) (t : TypeId) => run_nan .quo t x.toNat y.toNat hr (by simp) w
  clear hr
  go_enter Tryz.func235, Tryz.ntmps235
  go_wp2_with (first | (go_at_call 241; go_in) | (go_at_call 243; refine (oneNaN_yes _ _ (anyNaN_is _ _ _)).mono ?_; rintro e w' ⟨rfl, rfl⟩))
  go_ret
  exact ⟨ret_u64 Ha.out.symm, 1, rfl⟩
theorem binF_cmp (op x y : Int) (w : World) (hc : Wd.cmpB op = true) :
  Calls Tryz.prog 235 #[.int .i64 op, .int .u64 x, .int .u64 y] w fun e w' => e = .returned (.int .u64 (Fl.cmpF op x y)) ∧ w' = w := by
 have f1 := frombits
 go_enter Tryz.func235, Tryz.ntmps235
 go_wp2_with (first | (go_at_call 241; refine (compares_any _ _).mono ?_; rintro e w' ⟨rfl, rfl⟩) | (go_at_call 242; refine (compareF_any _ _ _ _).mono ?_; rintro e w' ⟨rfl, rfl⟩))
 go_ret
 exact ⟨rfl, rfl⟩
theorem binF_any (op x y : Int) (w : World) (hop : Wd.hasBinB op 10 = true) :
  Calls Tryz.prog 235 #[.int .i64 op, .int .u64 x, .int .u64 y] w fun e w' => e = .returned (.int .u64 (Fl.bf op x y)) ∧ ∃ n, w' = w.drewN n := by
 unfold Fl.bf
 cases hc : Wd.cmpB op
 ·have ho : op = 1 ∨ op = 2 ∨ op = 3 ∨ op = 4 := by
   simp [Wd.hasBinB, Wd.intB, hc] at hop; omega
  rw [if_neg (by simp)]
  rcases ho with rfl | rfl | rfl | rfl
  ·exact binF_add x y w
  ·exact binF_sub x y w
  ·exact binF_mul x y w
  ·exact binF_quo x y w
 ·rw [if_pos rfl]
  refine (binF_cmp op x y w hc).mono ?_
  rintro e w' ⟨rfl, rfl⟩
  exact ⟨rfl, 0, rfl⟩
end Go.Proofs.YtpcgkggpmipiaaaGreat
namespace Go.Proofs.YtpcgkggpmipiaaaGreat
namespace Wd
def pw (k : Int) : Int := if k = 1 then 2 else if k = 2 ∨ k = 6 then 256 else if k = 3 ∨ k = 7 then 65536 else if k = 4 ∨ k = 8 then 4294967296 else 18446744073709551616
theorem ints {k : Int} (h1 : 2 ≤ k) (h2 : k ≤ 9) : k = 2 ∨ k = 3 ∨ k = 4 ∨ k = 5 ∨ k = 6 ∨ k = 7 ∨ k = 8 ∨ k = 9 := by omega
theorem pw2 : pw 2 = 256 := rfl
theorem pw3 : pw 3 = 65536 := rfl
theorem pw4 : pw 4 = 4294967296 := rfl
theorem pw5 : pw 5 = 18446744073709551616 := rfl
theorem pw6 : pw 6 = 256 := rfl
theorem pw7 : pw 7 = 65536 := rfl
theorem pw8 : pw 8 = 4294967296 := rfl
theorem pw9 : pw 9 = 18446744073709551616 := rfl
theorem canon_is (k a : Int) (h1 : 2 ≤ k) (h2 : k ≤ 9) : ∃ t, canon k a = a + pw k * t := by
 refine ⟨(canon k a - a) / pw k, ?_⟩
 rcases ints h1 h2 with h | h | h | h | h | h | h | h <;> (subst h; simp only [canon2, canon3, canon4, canon5, canon6, canon7, canon8, canon9, pw2, pw3, pw4, pw5, pw6, pw7, pw8, pw9]; omega)
theorem pw_dvd {k : Int} (h1 : 2 ≤ k) (h2 : k ≤ 9) : ∃ t, (18446744073709551616 : Int) = pw k * t := by
 refine ⟨18446744073709551616 / pw k, ?_⟩
 rcases ints h1 h2 with h | h | h | h | h | h | h | h <;> (subst h; simp only [pw2, pw3, pw4, pw5, pw6, pw7, pw8, pw9]; omega)
theorem is_word {k x : Int} (h1 : 1 ≤ k) (h2 : k ≤ 11) (hw : canon k x = x) : isB k x = true := by simp [isB, h1, h2, hw]
end Wd
namespace Wd
set_option linter.unusedVariables false
def Cg (k a b : Int) : Prop := ∃ t, a = b + pw k * t
theorem Cg.canon {k a : Int} (h1 : 2 ≤ k) (h2 : k ≤ 9) : Cg k (canon k a) a := canon_is k a h1 h2
theorem Cg.sg {k x : Int} (h1 : 2 ≤ k) (h2 : k ≤ 9) : Cg k (sg x) x := by
 obtain ⟨t, ht⟩ := pw_dvd h1 h2
 refine ⟨t * ((Wd.sg x - x) / 18446744073709551616), ?_⟩
 rw [← Int.mul_assoc, ← ht]; unfold Wd.sg; omega
end Wd
end Go.Proofs.YtpcgkggpmipiaaaGreat
namespace Go.Proofs.YtpcgkggpmipiaaaGreat
set_option maxRecDepth 100000
set_option maxHeartbeats 32000000
open Go.RowKit
set_option linter.unusedVariables false
namespace Fl
def binF (op x y : Int) : Int × Int := if Wd.hasBinB op 10 then (bf op x y, 0) else (0, 10)
def binA (op k x y : Int) : Int × Int := if k = 10 then binF op x y else Wd.binI op k x y
end Fl
theorem is10 {x : Int} (h1 : 0 ≤ x) (h2 : x < 18446744073709551616) : Wd.isB 10 x = true := Wd.is_word (by omega) (by omega) (by rw [Wd.canon10]; omega)
theorem binF_ok (op x y : Int) (w : World) (hx : 0 ≤ x) (hx2 : x < 18446744073709551616) (hy : 0 ≤ y) (hy2 : y < 18446744073709551616) (hh : Wd.hasBinB op 10 = true) :
  Calls Tryz.prog 224 #[.int .i64 op, .int .i64 10, .int .u64 x, .int .u64 y] w fun e w' => e = .returned (.tuple #[.int .u64 (Fl.bf op x y), .int .i64 0]) ∧ ∃ n, w' = w.drewN n := by
 have i1 := is10 hx hx2
 have i2 := is10 hy hy2
 have o9 : (op == 9) = false := by rw [beq_eq_false_iff_ne]; rintro rfl; simp [Wd.hasBinB, Wd.intB, Wd.cmpB] at hh
 have o10 : (op == 10) = false := by rw [beq_eq_false_iff_ne]; rintro rfl; simp [Wd.hasBinB, Wd.intB, Wd.cmpB] at hh
 go_enter Tryz.func224, Tryz.ntmps224
 go_wp2_with (first | (go_at_call 234; refine (hasBin_any _ _ _).mono ?_; rintro e w' ⟨rfl, rfl⟩) | (go_at_call 159; refine (is_any _ _ _ (by assumption) (by assumption)).mono ?_; rintro e w' ⟨rfl, rfl⟩) | (go_at_call 235; refine (binF_any _ _ _ _ (by assumption)).mono ?_; rintro e w' ⟨rfl, n, rfl⟩))
 go_ret2
 exact ⟨rfl, _, rfl⟩
theorem binA_any (op k x y : Int) (w : World) (hx : 0 ≤ x) (hx2 : x < 18446744073709551616) (hy : 0 ≤ y) (hy2 : y < 18446744073709551616) :
  Calls Tryz.prog 224 #[.int .i64 op, .int .i64 k, .int .u64 x, .int .u64 y] w fun e w' => e = .returned (.tuple #[.int .u64 (Fl.binA op k x y).1, .int .i64 (Fl.binA op k x y).2]) ∧ ∃ n, w' = w.drewN n := by
 by_cases hk : k = 10
 ·subst hk
  rw [show Fl.binA op 10 x y = Fl.binF op x y from rfl]
  unfold Fl.binF
  cases hh : Wd.hasBinB op 10
  ·rw [if_neg (by simp)]
   refine (binI_kind op 10 x y w hh).mono ?_
   rintro e w' ⟨rfl, rfl⟩
   exact ⟨rfl, 0, rfl⟩
  ·rw [if_pos rfl]
   exact binF_ok op x y w hx hx2 hy hy2 hh
 ·rw [show Fl.binA op k x y = Wd.binI op k x y from if_neg hk]
  refine (binI_any op k x y w hx hx2 hy hy2 hk).mono ?_
  rintro e w' ⟨rfl, rfl⟩
  exact ⟨rfl, 0, rfl⟩
namespace Fl
end Fl
end Go.Proofs.YtpcgkggpmipiaaaGreat
namespace Go.Proofs.YtpcgkggpmipiaaaGreat
namespace Fl
open Ieee
set_option linter.unusedVariables false
end Fl
end Go.Proofs.YtpcgkggpmipiaaaGreat
