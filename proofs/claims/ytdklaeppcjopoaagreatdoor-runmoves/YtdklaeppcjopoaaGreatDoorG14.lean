/- Contracts and plain facts that the walks share, text by text: RuWake, RuCode, RuRan, RuPg, RuPw, RuWs, RuSrc, RuLate, RuOp6, RLeaf, RBin, RBig, RAll, RTop, RuWw, RuPv. -/
import Derived.Test.YtdklaeppcjopoaaGreatDoorRuRun
import Derived.Test.YtdklaeppcjopoaaGreatDoorG7
import Derived.Test.YtdklaeppcjopoaaGreatDoorG11
import Derived.Test.YtdklaeppcjopoaaGreatDoorG1
import Derived.Test.YtdklaeppcjopoaaGreatDoorG2
import Derived.Deep.RegionWith
import Derived.ArgAppend
import Derived.Deep.QuietTactic
import Derived.BigQuiet
import Derived.RegionTactic
import Derived.Deep.DeepCutAuto
/- The small program that the statements of layer 5 end with. -/
namespace Go.Proofs.YtdklaeppcjopoaaGreatDoor
open Go.RowKit
set_option linter.unusedVariables false

theorem num5_any (e : Int) (w : World) : Calls Tryz.prog 28 #[.int .i64 e] w fun r w' => r = .returned (.int .i64 e) ∧ w' = w := by
  go_enter Tryz.func28, Tryz.ntmps28
  go_wp2
  go_ret
  exact ⟨rfl, rfl⟩
def wkL : List Int := [1, 0, 0, 0, 7, 0, 0, 0, 27, 0, 0, 0, 0, 0, 0, 0, 28, 0, 0, 0, 0, 0, 0, 0]
def wkG (i : Nat) : Int := wkL.getD i 0
def wkI (b : Nat) : Ig := ⟨1, some ⟨b, 0, none⟩, 24, 24, wkG, none, 0, 0, fun _ => 0, 0, none, 0, 0, fun _ => 0⟩
theorem wk_out : (Ru.it ⟨1, 24, wkG, 8192⟩ 9 (Ru.init (wkI 0) 8192 0 (fun _ => 0))).out = [7] := by decide
theorem wk_e : (Ru.it ⟨1, 24, wkG, 8192⟩ 9 (Ru.init (wkI 0) 8192 0 (fun _ => 0))).e = 1 := by decide
theorem wk_n : (Ru.it ⟨1, 24, wkG, 8192⟩ 9 (Ru.init (wkI 0) 8192 0 (fun _ => 0))).n = 7 := by decide
theorem wk_c : Ru.cnt ⟨1, 24, wkG, 8192⟩ 9 (Ru.init (wkI 0) 8192 0 (fun _ => 0)) = 3 := by decide
theorem OwnW.single {w : World} {base : Nat} {v : Value} {x : Int} (h : OwnW w base v [x]) : ∃ g cp, v = .slice (some ⟨g, 0, none⟩) 1 cp ∧ w.cell? ⟨g, 0, none⟩ = some (.int .u64 x) := by
  obtain ⟨h1, h⟩ := h
  rcases h with ⟨_, h0⟩ | ⟨b, cap, cur, rfl, hb, hh, hn, hc, hs, ht⟩
  · simp at h0
  · refine ⟨b, cap, rfl, ?_⟩
    simp only [World.cell?, hh]
    have e : cur.toList[0]? = some (.int .u64 x) := by
      have : (cur.toList.take 1)[0]? = some (.int .u64 x) := by
        have ht' : cur.toList.take 1 = [.int .u64 x] := by simpa using ht
        rw [ht']; rfl
      rw [List.getElem?_take, if_pos (by decide)] at this
      exact this
    simpa using e
theorem wk_fit : Mm.Fit wkG := fun i => by
  rcases Nat.lt_or_ge i 24 with h | h
  · have hall : ∀ j, j < 24 → 0 ≤ wkG j ∧ wkG j < 256 := by decide
    exact hall i h
  · have : wkG i = 0 := by
      unfold wkG
      rw [List.getD_eq_getElem?_getD, List.getElem?_eq_none (by show 24 ≤ i; exact h)]
      rfl
    rw [this]; decide
theorem wk_at (i : Nat) (hi : i < 24) : (#[.int .u8 1, .int .u8 0, .int .u8 0, .int .u8 0, .int .u8 7, .int .u8 0, .int .u8 0, .int .u8 0, .int .u8 27, .int .u8 0, .int .u8 0, .int .u8 0, .int .u8 0, .int .u8 0, .int .u8 0, .int .u8 0, .int .u8 28, .int .u8 0, .int .u8 0, .int .u8 0, .int .u8 0, .int .u8 0, .int .u8 0, .int .u8 0] : Array Value)[i]? = some (.int .u8 (wkG i)) := by
  show ((wkL.map (Value.int .u8)).toArray)[i]? = _
  have hl : i < wkL.length := hi
  rw [List.getElem?_toArray, List.getElem?_map, List.getElem?_eq_getElem hl]
  unfold wkG
  rw [List.getD_eq_getElem?_getD, List.getElem?_eq_getElem hl]
  rfl
theorem wk_run {W : World} {b : Nat} (hB : BsIn W (some ⟨b, 0, none⟩) 24 24 wkG) :
    Calls Tryz.prog 27 #[.agg #[.int .i64 1, .slice (some ⟨b, 0, none⟩) 24 24, .slice none 0 0, .int .i64 0, .slice none 0 0], .int .i64 8192, .slice none 0 0, .slice none 0 0, .int .i64 9] W fun r w' => ∃ g cp, r = .returned (.tuple #[.agg #[.slice (some ⟨g, 0, none⟩) 1 cp, .slice none 0 0, .int .i64 1, .int .i64 7, .int .i64 3], .int .i64 0]) ∧ w'.cell? ⟨g, 0, none⟩ = some (.int .u64 7) ∧ W.grownBy w' none := by
  have hI : (wkI b).In W := ⟨hB, ⟨fun _ => ⟨rfl, rfl⟩, Nat.le_refl _, Nat.zero_le _, fun _ => (⟨Int.le_refl 0, by decide⟩ : (0 : Int) ≤ 0 ∧ (0 : Int) < 256), .inl rfl, fun _ _ h => absurd h (Nat.lt_irrefl 0)⟩, ⟨fun _ => ⟨rfl, rfl⟩, Nat.le_refl _, Nat.zero_le _, .inl rfl, fun _ _ h => absurd h (Nat.lt_irrefl 0)⟩⟩
  have hA : RwIn .u64 W none 0 0 (fun _ => 0) := ⟨fun _ => ⟨rfl, rfl⟩, Nat.le_refl _, Nat.zero_le _, .inl rfl, fun _ _ h => absurd h (Nat.lt_irrefl 0)⟩
  have hm : mayRun (wkI b) 8192 0 = true := by
    have h1 : mayRun (wkI 0) 8192 0 = true := by decide
    exact h1
  have H := run_nil hI 8192 none 0 0 (fun _ => 0) hA (fun i h => absurd h (Nat.not_lt_zero i)) 9 (by decide) hm
  refine H.mono ?_
  rintro r w' ⟨tr, rfl, ho, hg⟩
  have e1 : (Ru.it ⟨(wkI b).t, (wkI b).cn, (wkI b).cg, 8192⟩ 9 (Ru.init (wkI b) 8192 0 (fun _ => 0))) = Ru.it ⟨1, 24, wkG, 8192⟩ 9 (Ru.init (wkI 0) 8192 0 (fun _ => 0)) := rfl
  have e2 : (Ru.cnt ⟨(wkI b).t, (wkI b).cn, (wkI b).cg, 8192⟩ 9 (Ru.init (wkI b) 8192 0 (fun _ => 0))) = Ru.cnt ⟨1, 24, wkG, 8192⟩ 9 (Ru.init (wkI 0) 8192 0 (fun _ => 0)) := rfl
  rw [e1, wk_out] at ho
  rw [e1, e2, wk_c]
  unfold runV
  rw [wk_e, wk_n, if_neg (by decide)]
  obtain ⟨g, cp, rfl, hc⟩ := ho.single
  exact ⟨g, cp, rfl, hc, hg⟩
theorem wk_bs (w : World) : BsIn ((w.alloc (Obj.cells #[.int .u8 1, .int .u8 0, .int .u8 0, .int .u8 0, .int .u8 7, .int .u8 0, .int .u8 0, .int .u8 0, .int .u8 27, .int .u8 0, .int .u8 0, .int .u8 0, .int .u8 0, .int .u8 0, .int .u8 0, .int .u8 0, .int .u8 28, .int .u8 0, .int .u8 0, .int .u8 0, .int .u8 0, .int .u8 0, .int .u8 0, .int .u8 0] 5)).alloc (Obj.cells #[.int .i64 1, .slice (some ⟨w.heap.size, 0, none⟩) 24 24, .slice none 0 0, .int .i64 0, .slice none 0 0] 64)) (some ⟨w.heap.size, 0, none⟩) 24 24 wkG := by
  have h1 : BsIn (w.alloc (Obj.cells #[.int .u8 1, .int .u8 0, .int .u8 0, .int .u8 0, .int .u8 7, .int .u8 0, .int .u8 0, .int .u8 0, .int .u8 27, .int .u8 0, .int .u8 0, .int .u8 0, .int .u8 0, .int .u8 0, .int .u8 0, .int .u8 0, .int .u8 28, .int .u8 0, .int .u8 0, .int .u8 0, .int .u8 0, .int .u8 0, .int .u8 0, .int .u8 0] 5)) (some ⟨w.heap.size, 0, none⟩) 24 24 wkG := by
    refine ⟨(fun h => by cases h), Nat.le_refl _, by decide, wk_fit, .inr ⟨w.heap.size, 0, rfl, fun i hi => ?_⟩, fun b off _ e => ?_⟩
    · have hh : (w.alloc (Obj.cells #[.int .u8 1, .int .u8 0, .int .u8 0, .int .u8 0, .int .u8 7, .int .u8 0, .int .u8 0, .int .u8 0, .int .u8 27, .int .u8 0, .int .u8 0, .int .u8 0, .int .u8 0, .int .u8 0, .int .u8 0, .int .u8 0, .int .u8 28, .int .u8 0, .int .u8 0, .int .u8 0, .int .u8 0, .int .u8 0, .int .u8 0, .int .u8 0] 5)).heap[w.heap.size]? = _ := heap_alloc_new _ _
      have hr : (w.alloc (Obj.cells #[.int .u8 1, .int .u8 0, .int .u8 0, .int .u8 0, .int .u8 7, .int .u8 0, .int .u8 0, .int .u8 0, .int .u8 27, .int .u8 0, .int .u8 0, .int .u8 0, .int .u8 0, .int .u8 0, .int .u8 0, .int .u8 0, .int .u8 28, .int .u8 0, .int .u8 0, .int .u8 0, .int .u8 0, .int .u8 0, .int .u8 0, .int .u8 0] 5)).rowIs w.heap.size 5 24 (fun i => .int .u8 (wkG i)) := ⟨_, hh, rfl, fun i hi => wk_at i hi⟩
      rw [Nat.zero_add]
      exact hr.cell hi
    · injection e with e
      injection e with e
      rw [← e, size_alloc]
      omega
  exact h1.kept (World.grownBy_alloc _ _ _)
set_option maxRecDepth 100000 in
set_option maxHeartbeats 4000000 in
theorem wakes5_any (w : World) : Calls Tryz.prog 14 #[] w fun r w' => r = .returned (.bool true) ∧ w.grownBy w' none := by
  have HB : Hid (BsIn ((w.alloc (Obj.cells #[.int .u8 1, .int .u8 0, .int .u8 0, .int .u8 0, .int .u8 7, .int .u8 0, .int .u8 0, .int .u8 0, .int .u8 27, .int .u8 0, .int .u8 0, .int .u8 0, .int .u8 0, .int .u8 0, .int .u8 0, .int .u8 0, .int .u8 28, .int .u8 0, .int .u8 0, .int .u8 0, .int .u8 0, .int .u8 0, .int .u8 0, .int .u8 0] 5)).alloc (Obj.cells #[.int .i64 1, .slice (some ⟨w.heap.size, 0, none⟩) 24 24, .slice none 0 0, .int .i64 0, .slice none 0 0] 64)) (some ⟨w.heap.size, 0, none⟩) 24 24 wkG) := wk_bs w
  have HG : Hid (w.grownBy ((w.alloc (Obj.cells #[.int .u8 1, .int .u8 0, .int .u8 0, .int .u8 0, .int .u8 7, .int .u8 0, .int .u8 0, .int .u8 0, .int .u8 27, .int .u8 0, .int .u8 0, .int .u8 0, .int .u8 0, .int .u8 0, .int .u8 0, .int .u8 0, .int .u8 28, .int .u8 0, .int .u8 0, .int .u8 0, .int .u8 0, .int .u8 0, .int .u8 0, .int .u8 0] 5)).alloc (Obj.cells #[.int .i64 1, .slice (some ⟨w.heap.size, 0, none⟩) 24 24, .slice none 0 0, .int .i64 0, .slice none 0 0] 64)) none) := ga (World.grownBy_alloc _ _ _) _
  go_enter Tryz.func14, Tryz.ntmps14
  go_wp2_with fail
  generalize ((w.alloc (Obj.cells #[.int .u8 1, .int .u8 0, .int .u8 0, .int .u8 0, .int .u8 7, .int .u8 0, .int .u8 0, .int .u8 0, .int .u8 27, .int .u8 0, .int .u8 0, .int .u8 0, .int .u8 0, .int .u8 0, .int .u8 0, .int .u8 0, .int .u8 28, .int .u8 0, .int .u8 0, .int .u8 0, .int .u8 0, .int .u8 0, .int .u8 0, .int .u8 0] 5)).alloc (Obj.cells #[.int .i64 1, .slice (some ⟨w.heap.size, 0, none⟩) 24 24, .slice none 0 0, .int .i64 0, .slice none 0 0] 64)) = W at *
  refine (wk_run HB.out).mono ?_
  rintro r w1 ⟨g, cp, rfl, hc, hg⟩
  have HG1 : Hid (w.grownBy w1 none) := grown_trans HG.out hg
  have hc' := (World.grownBy_alloc w1 (Obj.cells #[.slice (some ⟨g, 0, none⟩) 1 cp, .slice none 0 0, .int .i64 1, .int .i64 7, .int .i64 3] 38) none).cell hc (by simp)
  clear hc hg
  go_wp2_with (go_at_call 28; refine (num5_any _ _).mono ?_; rintro r w2 ⟨rfl, rfl⟩)
  go_ret
  exact ⟨rfl, ga HG1.out _⟩
end Go.Proofs.YtdklaeppcjopoaaGreatDoor

/- gantrylaw5.code: instructions' bytes. -/
namespace Go.Proofs.YtdklaeppcjopoaaGreatDoor
open Go.RowKit
set_option linter.unusedVariables false

theorem own_grown {w w1 w2 : World} {row : Option Nat} (g1 : w.grownBy w1 none) (g2 : w1.grownBy w2 row) (h : ∀ b, row = some b → w.heap.size ≤ b) : w.grownBy w2 none :=
  ⟨g2.os.trans g1.os, g2.tape.trans g1.tape, g2.output.trans g1.output, Nat.le_trans g1.size g2.size, fun k hk _ => (g2.block k (Nat.lt_of_lt_of_le hk g1.size) (fun e => by have := h k e.symm; omega)).trans (g1.block k hk (by simp))⟩
theorem take_snoc {α : Type} (l : List α) (k : Nat) (hk : k < l.length) : l.take (k + 1) = l.take k ++ [l[k]] := List.take_succ_eq_append_getElem hk
theorem enc_t {t : Int} (ht : t = 1 ∨ t = 2) (v : InV) (W : World) (hT : TabAt W) (hr : InRng v) (hm : Ru.mayT t v = true) (f : Nat) (hf : f = (if t = 1 then 30 else 31)) :
    Calls Tryz.prog f #[.agg #[.int .i64 v.op, .int .i64 v.a, .int .i64 v.b, .int .i64 v.c, .int .i64 v.k, .int .i64 v.sub, .int .i64 v.scale, .int .i64 v.imm, .int .i64 v.label]] W fun e w' => ∃ T' c', e = .returned (.tuple #[.slice (some ⟨T', 0, none⟩) (Ru.encT t v).length c', .int .i64 0]) ∧ OwnL w' W.heap.size (.slice (some ⟨T', 0, none⟩) (Ru.encT t v).length c') (Ru.encT t v) ∧ W.grownBy w' none := by
  have hpos := (Ru.encT_len t v).1
  rcases ht with rfl | rfl
  · rw [if_pos rfl] at hf
    subst hf
    unfold Ru.mayT at hm
    rw [if_pos rfl] at hm
    have e1 : Ru.encT 1 v = (List.range 8).map (Rc.enc v) := by unfold Ru.encT; rw [if_pos rfl]
    have el : (Ru.encT 1 v).length = 8 := by rw [e1]; simp
    refine (encode_ok v W hr.i1 hr.i2 hm).mono ?_
    rintro e w' ⟨T, rfl, ho, hg⟩
    rw [el]
    refine ⟨T, 8, rfl, ?_, hg⟩
    rw [e1]
    exact ho.toL
  · rw [if_neg (by decide)] at hf
    subst hf
    unfold Ru.mayT at hm
    rw [if_neg (by decide)] at hm
    have e1 : Ru.encT 2 v = Cc.enc v := by unfold Ru.encT; rw [if_neg (by decide)]
    refine (cencode_ok v W hT hr hm).mono ?_
    rintro e w' ⟨x, rfl, ho, hg⟩
    rw [e1] at hpos ⊢
    obtain ⟨T, c, rfl, _, _⟩ := own_slice ho.toB hpos
    exact ⟨T, c, rfl, ho, hg⟩
set_option maxRecDepth 100000 in
set_option maxHeartbeats 4000000 in
theorem code_any (t : Int) (ht : t = 1 ∨ t = 2) (base T n c : Nat) (L : List InV) (w : World) (hT : TabAt w) (hn : n = L.length) (hn2 : n ≤ 20) (hI : OwnI w base (.slice (some ⟨T, 0, none⟩) n c) L) (hm : ∀ v ∈ L, Ru.mayT t v = true ∧ InRng v) :
    Calls Tryz.prog 26 #[.int .i64 t, .slice (some ⟨T, 0, none⟩) n c] w fun r w' => ∃ x, r = .returned (.tuple #[x, .bool true]) ∧ OwnL w' w.heap.size x (Ru.codeT t L) ∧ w.grownBy w' none := by
  have HI : Hid (∀ i, i < n → ∀ W, w.grownBy W none → InAt W T (i * 9) (L.getD i Cc.zero)) := fun i hi W g => by
    have h1 := hI.inAt hn (i := i) (by omega)
    rw [Nat.zero_add] at h1
    rw [List.getD_eq_getElem?_getD, List.getElem?_eq_getElem (by omega)]
    exact h1.kept g (by simp)
  clear hI
  have HM : Hid (∀ v ∈ L, Ru.mayT t v = true ∧ InRng v) := hm
  have HTb : Hid (TabAt w) := hT
  have HN : Hid (n = L.length) := hn
  clear hm hT hn
  go_enter Tryz.func26, Tryz.ntmps26
  go_wp2_with fail
  go_loopw [6, 7] (fun al i wr => ∃ k : Nat, i = .int .i64 k ∧ k ≤ n ∧ OwnL wr w.heap.size al (Ru.codeT t (L.take k)) ∧ w.grownBy wr none) (fun _ i _ => n - (intOf i).toNat)
  case atStart => exact ⟨0, rfl, Nat.zero_le _, World.ownsRow_nil _ _ _ _, World.grownBy.refl _ _⟩
  case round =>
    obtain ⟨al, hal⟩ : ∃ al, al = u6 := ⟨_, rfl⟩
    obtain ⟨k, rfl, hk, ho, gr⟩ := hrel
    rw [← hal] at ho ⊢
    clear hal
    have HO : Hid (OwnL wr w.heap.size al (Ru.codeT t (L.take k))) := ho
    have HG : Hid (w.grownBy wr none) := gr
    by_cases hkn : k < n
    · have hkn' : (k : Int) < n := by omega
      obtain ⟨v, hv⟩ : ∃ v, L.getD k Cc.zero = v := ⟨_, rfl⟩
      have hin := HI.out k hkn wr gr
      rw [hv] at hin
      have hkl : k < L.length := by have := HN.out; omega
      have hLk : L[k] = v := by rw [← hv, List.getD_eq_getElem?_getD, List.getElem?_eq_getElem hkl]; rfl
      have hmv := HM.out v (by rw [← hLk]; exact List.getElem_mem hkl)
      obtain ⟨c0, c1, c2, c3, c4, c5, c6, c7, c8⟩ := hin
      have HE : Hid (∀ W, wr.grownBy W none → ∀ f, f = (if t = 1 then 30 else 31) → Calls Tryz.prog f #[.agg #[.int .i64 v.op, .int .i64 v.a, .int .i64 v.b, .int .i64 v.c, .int .i64 v.k, .int .i64 v.sub, .int .i64 v.scale, .int .i64 v.imm, .int .i64 v.label]] W fun e w' => ∃ T' c', e = .returned (.tuple #[.slice (some ⟨T', 0, none⟩) (Ru.encT t v).length c', .int .i64 0]) ∧ OwnL w' W.heap.size (.slice (some ⟨T', 0, none⟩) (Ru.encT t v).length c') (Ru.encT t v) ∧ W.grownBy w' none) := fun W g f hf => enc_t ht v W (HTb.out.kept (grown_trans HG.out g) (by simp)) hmv.2 hmv.1 f hf
      have hel := Ru.encT_len t v
      have hcl := Ru.codeT_len t (L.take k)
      have htl : (L.take k).length = k := by simp; omega
      have HS : Hid (Ru.codeT t (L.take (k + 1)) = Ru.codeT t (L.take k) ++ Ru.encT t v) := by show _ = _; rw [take_snoc L k hkl, Ru.codeT_snoc, hLk]
      have hc6 : (Ru.codeT t (L.take k)).length ≤ 100000 := by omega
      have he6 : (Ru.encT t v).length ≤ 1000 := by omega
      clear hv hmv hLk gr hcl htl ho
      obtain ⟨ms, hms⟩ : ∃ ms, Ru.encT t v = ms := ⟨_, rfl⟩
      rw [hms] at HE HS hel he6
      clear hms
      obtain ⟨cs, hcs⟩ : ∃ cs, Ru.codeT t (L.take k) = cs := ⟨_, rfl⟩
      rw [hcs] at HO HS hc6
      clear hcs hkl
      obtain ⟨ao, ln, cp, rfl, hln⟩ : ∃ ao ln cp, al = .slice ao ln cp ∧ ln = cs.length := by
        obtain ⟨ao, cp, e, _⟩ := (OwnL.toB HO.out).shape
        exact ⟨ao, _, cp, e, rfl⟩
      have HLn : Hid (ln = cs.length) := hln
      clear hln
      have HG' : Hid (w.heap.size ≤ wr.heap.size) := HG.out.size
      rcases ht with rfl | rfl
      · go_wp2_with (first
          | (go_at_call 30; refine (HE.out _ (World.grownBy.refl _ _) _ rfl).mono ?_; rintro e w1 ⟨T1, k1, rfl, o1, g1⟩)
          | (go_at_call 28; refine (num5_any _ _).mono ?_; rintro r wn ⟨rfl, hwn⟩; rw [hwn]; clear hwn wn)
          | (at_builtin; refine wp_appS rfl _ _ rfl w.heap.size (.slice ao ln cp) cs ms T1 k1 wr.heap.size rfl (HO.out.kept g1 (by cases ao <;> simp [Value.ownBlock])) rfl o1 hc6 he6 (Nat.le_trans HG'.out g1.size) ?_; intro v' w3 ho3 hg3))
        go_roundw
        case rel => exact ⟨k + 1, by go_num, by omega, by rw [HS.out]; exact ho3, own_grown (grown_trans HG.out g1) hg3 (fun b hb => (World.ownsRow.lt HO.out b hb).1)⟩
        case measure => simp [intOf]; omega
      · go_wp2_with (first
          | (go_at_call 31; refine (HE.out _ (World.grownBy.refl _ _) _ rfl).mono ?_; rintro e w1 ⟨T1, k1, rfl, o1, g1⟩)
          | (go_at_call 28; refine (num5_any _ _).mono ?_; rintro r wn ⟨rfl, hwn⟩; rw [hwn]; clear hwn wn)
          | (at_builtin; refine wp_appS rfl _ _ rfl w.heap.size (.slice ao ln cp) cs ms T1 k1 wr.heap.size rfl (HO.out.kept g1 (by cases ao <;> simp [Value.ownBlock])) rfl o1 hc6 he6 (Nat.le_trans HG'.out g1.size) ?_; intro v' w3 ho3 hg3))
        go_roundw
        case rel => exact ⟨k + 1, by go_num, by omega, by rw [HS.out]; exact ho3, own_grown (grown_trans HG.out g1) hg3 (fun b hb => (World.ownsRow.lt HO.out b hb).1)⟩
        case measure => simp [intOf]; omega
    · have hkn' : decide ((k : Int) < n) = false := decide_eq_false (by omega)
      have hkn2 : k = n := by omega
      have HF : Hid (Ru.codeT t (L.take k) = Ru.codeT t L) := by show _ = _; rw [hkn2, HN.out, List.take_length]
      clear hkn2
      go_wp2
      go_ret2
      exact ⟨_, rfl, by rw [← HF.out]; exact ho, HG.out⟩
end Go.Proofs.YtdklaeppcjopoaaGreatDoor

/- gantrylaw5.ran: a machine's run of instructions, with two words in its first registers. -/
namespace Go.Proofs.YtdklaeppcjopoaaGreatDoor
open Go.RowKit
set_option linter.unusedVariables false

namespace Ru
/-- a program of instructions, and how it begins -/
def pgI (t : Int) (L : List InV) : Im := ⟨t, (codeT t L).length, fun i => (codeT t L).getD i 0, 16384⟩
def ag2 (x y : Int) (i : Nat) : Int := if i = 0 then x else y
def pgG (t : Int) (L : List InV) (ca : Option Addr) (cc : Nat) : Ig := ⟨t, ca, (codeT t L).length, cc, fun i => (codeT t L).getD i 0, none, 0, 0, fun _ => 0, 0, none, 0, 0, fun _ => 0⟩
def pg0 (x y : Int) : St := init ⟨1, none, 0, 0, fun _ => 0, none, 0, 0, fun _ => 0, 0, none, 0, 0, fun _ => 0⟩ 16384 2 (ag2 x y)
theorem pg_may {t : Int} (ht : t = 1 ∨ t = 2) {L : List InV} (hL : L.length ≤ 20) (ca : Option Addr) (cc : Nat) : mayRun (pgG t L ca cc) 16384 2 = true := by
  have h1 := codeT_len t L
  unfold mayRun Ig.mayB inB pgG
  dsimp only
  have e1 : (t == 1 || t == 2) = true := by rcases ht with rfl | rfl <;> rfl
  have e2 : decide ((codeT t L).length ≤ 1048576) = true := decide_eq_true (by omega)
  have e3 : decide ((0 : Int) ≤ ((codeT t L).length : Int)) = true := decide_eq_true (by omega)
  rw [e1, e2, e3]
  simp
end Ru
/-- bytes of the call's own are bytes -/
theorem OwnL.byIn {w : World} {base : Nat} {v : Value} {l : List Int} (h : OwnL w base v l) (hf : ∀ x ∈ l, 0 ≤ x ∧ x < 256) : ∃ ao cp, v = .slice ao l.length cp ∧ BsIn w ao l.length cp (fun i => l.getD i 0) := by
  have hb := h.toB
  obtain ⟨ao, cp, rfl, h1, h2, h3, h4⟩ := hb.shape
  refine ⟨ao, cp, rfl, h1, h2, h3, fun i => ?_, h4, fun b off h0 e => ?_⟩
  · show 0 ≤ l.getD i 0 ∧ l.getD i 0 < 256
    rw [List.getD_eq_getElem?_getD]
    rcases Nat.lt_or_ge i l.length with hi | hi
    · rw [List.getElem?_eq_getElem hi]; exact hf _ (List.getElem_mem hi)
    · rw [List.getElem?_eq_none hi]; decide
  · subst e
    exact (hb.lt b rfl).2
namespace Ru
theorem codeT_by (t : Int) (L : List InV) : ∀ x ∈ codeT t L, 0 ≤ x ∧ x < 256 := by
  intro x hx
  unfold codeT at hx
  obtain ⟨v, _, hv⟩ := List.mem_flatMap.1 hx
  unfold encT at hv
  split at hv
  · obtain ⟨i, hi, rfl⟩ := List.mem_map.1 hv
    exact Rc.enc_fit v i
  · exact Cc.byt_enc v x hv
end Ru
set_option maxRecDepth 100000 in
set_option maxHeartbeats 4000000 in
theorem ran_any (t : Int) (ht : t = 1 ∨ t = 2) (base T n c : Nat) (L : List InV) (x y : Int) (hx : Ru.W64 x) (hy : Ru.W64 y) (w : World) (hT : TabAt w) (hn : n = L.length) (hn2 : n ≤ 20) (hI : OwnI w base (.slice (some ⟨T, 0, none⟩) n c) L) (hm : ∀ v ∈ L, Ru.mayT t v = true ∧ InRng v) :
    Calls Tryz.prog 11 #[.int .i64 t, .slice (some ⟨T, 0, none⟩) n c, .int .u64 x, .int .u64 y] w fun r w' => ∃ tr, r = .returned (.tuple #[runV tr (Ru.it (Ru.pgI t L) 100 (Ru.pg0 x y)) (Ru.cnt (Ru.pgI t L) 100 (Ru.pg0 x y)), .bool true]) ∧ OwnW w' w.heap.size tr (Ru.it (Ru.pgI t L) 100 (Ru.pg0 x y)).out ∧ w.grownBy w' none := by
  have HC : Hid (∀ W, w.grownBy W none → Calls Tryz.prog 26 #[.int .i64 t, .slice (some ⟨T, 0, none⟩) n c] W fun r w' => ∃ x, r = .returned (.tuple #[x, .bool true]) ∧ OwnL w' W.heap.size x (Ru.codeT t L) ∧ W.grownBy w' none) := fun W g => code_any t ht base T n c L W (hT.kept g (by simp)) hn hn2 (hI.grow g) hm
  have HL : Hid (L.length ≤ 20) := by show L.length ≤ 20; omega
  clear hI hm hT
  have HR : Hid (∀ W ca cc aa, BsIn W ca (Ru.codeT t L).length cc (fun i => (Ru.codeT t L).getD i 0) → RwIn .u64 W aa 2 2 (Ru.ag2 x y) → Calls Tryz.prog 27 #[.agg #[.int .i64 t, .slice ca (Ru.codeT t L).length cc, .slice none 0 0, .int .i64 0, .slice none 0 0], .int .i64 16384, .slice aa 2 2, .slice none 0 0, .int .i64 100] W fun r w' => ∃ tr, r = .returned (.tuple #[runV tr (Ru.it (Ru.pgI t L) 100 (Ru.pg0 x y)) (Ru.cnt (Ru.pgI t L) 100 (Ru.pg0 x y)), .int .i64 0]) ∧ OwnW w' W.heap.size tr (Ru.it (Ru.pgI t L) 100 (Ru.pg0 x y)).out ∧ W.grownBy w' none) := fun W ca cc aa hB hA => by
    have hI : (Ru.pgG t L ca cc).In W := ⟨hB, ⟨fun _ => ⟨rfl, rfl⟩, Nat.le_refl _, Nat.zero_le _, fun _ => (⟨Int.le_refl 0, by decide⟩ : (0 : Int) ≤ 0 ∧ (0 : Int) < 256), .inl rfl, fun _ _ h => absurd h (Nat.lt_irrefl 0)⟩, ⟨fun _ => ⟨rfl, rfl⟩, Nat.le_refl _, Nat.zero_le _, .inl rfl, fun _ _ h => absurd h (Nat.lt_irrefl 0)⟩⟩
    exact run_nil hI 16384 aa 2 2 (Ru.ag2 x y) hA (fun i _ => by unfold Ru.ag2; split; exact hx; exact hy) 100 (by decide) (Ru.pg_may ht HL.out ca cc)
  have G0 : Hid (w.grownBy (w.alloc (Obj.cells #[.slice none 0 0, .slice none 0 0, .int .i64 0, .int .i64 0, .int .i64 0] 38)) none) := World.grownBy_alloc _ _ _
  have RZ : Hid ((w.alloc (Obj.cells #[.slice none 0 0, .slice none 0 0, .int .i64 0, .int .i64 0, .int .i64 0] 38)).rowIs w.heap.size 38 5 (row5 (.slice none 0 0) (.slice none 0 0) (.int .i64 0) (.int .i64 0) (.int .i64 0))) := row5_new _ _ _ _ _ _ _
  have HN : Hid (n = L.length) := hn
  clear hn
  go_enter Tryz.func11, Tryz.ntmps11
  go_wp2_with fail
  generalize (w.alloc (Obj.cells #[.slice none 0 0, .slice none 0 0, .int .i64 0, .int .i64 0, .int .i64 0] 38)) = W0 at *
  obtain ⟨b0, hb0⟩ : ∃ b0, b0 = w.heap.size := ⟨_, rfl⟩
  rw [← hb0] at RZ ⊢
  have Hb0 : Hid (b0 = w.heap.size) := hb0
  clear hb0
  refine (HC.out _ G0.out).mono ?_
  rintro r w1 ⟨cv, rfl, o1, g1⟩
  obtain ⟨ca, cc, rfl, hB⟩ := o1.byIn (Ru.codeT_by t L)
  have RZ1 : Hid _ := rowIs_grown RZ.out g1
  have G1 : Hid (w.grownBy w1 none) := grown_trans G0.out g1
  have HB : Hid (BsIn w1 ca (Ru.codeT t L).length cc (fun i => (Ru.codeT t L).getD i 0)) := hB
  clear RZ G0 g1 o1 hB HC
  obtain ⟨N, hNN⟩ : ∃ N, N = (Ru.codeT t L).length := ⟨_, rfl⟩
  rw [← hNN] at HB HR ⊢
  clear hNN
  go_wp2_with fail
  have HA : RwIn .u64 (w1.alloc (Obj.cells #[.int .u64 x, .int .u64 y] 23)) (some ⟨w1.heap.size, 0, none⟩) 2 2 (Ru.ag2 x y) := by
    refine ⟨(fun h => by cases h), Nat.le_refl _, by decide, .inr ⟨w1.heap.size, 0, rfl, fun i hi => ?_⟩, fun b off _ e => ?_⟩
    · have hc : i = 0 ∨ i = 1 := by omega
      rcases hc with rfl | rfl
      · simp [Ru.ag2]
      · simp [Ru.ag2]
    · injection e with e
      injection e with e
      rw [← e, size_alloc]
      omega
  refine (HR.out _ ca cc _ (HB.out.kept (World.grownBy_alloc _ _ _)) HA).mono ?_
  rintro r w2 ⟨tr, rfl, o2, g2⟩
  have G2 : Hid (w.grownBy w2 none) := grown_trans G1.out (grown_trans (World.grownBy_alloc _ _ _) g2)
  have hs1 : w.heap.size ≤ w1.heap.size := G1.out.size
  have hs2 := size_alloc w1 (Obj.cells #[.int .u64 x, .int .u64 y] 23)
  have RZ2 : Hid (w2.rowIs b0 38 5 (row5 (.slice none 0 0) (.slice none 0 0) (.int .i64 0) (.int .i64 0) (.int .i64 0))) := rowIs_grown (rowIs_grown RZ1.out (World.grownBy_alloc _ _ _)) g2
  have HO : Hid (OwnW w2 w1.heap.size tr (Ru.it (Ru.pgI t L) 100 (Ru.pg0 x y)).out) := World.ownsRow.mono o2 (by omega)
  have hb1 : Hid (b0 < w1.heap.size) := World.rowIs.lt RZ1.out
  obtain ⟨ao, ln, cp, rfl⟩ : ∃ ao ln cp, tr = .slice ao ln cp := by obtain ⟨ao, cp, e⟩ := o2.slice; exact ⟨ao, _, cp, e⟩
  clear o2 HA HR HB RZ1 G1 g2 hs2
  unfold runV
  obtain ⟨E, hE⟩ : ∃ E : Int, E = (if (Ru.it (Ru.pgI t L) 100 (Ru.pg0 x y)).e = 0 then 3 else (Ru.it (Ru.pgI t L) 100 (Ru.pg0 x y)).e) := ⟨_, rfl⟩
  obtain ⟨Z, hZ⟩ : ∃ Z : Int, Z = (Ru.it (Ru.pgI t L) 100 (Ru.pg0 x y)).n := ⟨_, rfl⟩
  obtain ⟨C, hC⟩ : ∃ C : Nat, C = Ru.cnt (Ru.pgI t L) 100 (Ru.pg0 x y) := ⟨_, rfl⟩
  rw [← hE, ← hZ, ← hC]
  have HEq : Hid (∀ tr, (Value.agg #[tr, .slice none 0 0, .int .i64 E, .int .i64 Z, .int .i64 C]) = .agg #[tr, .slice none 0 0, .int .i64 (if (Ru.it (Ru.pgI t L) 100 (Ru.pg0 x y)).e = 0 then 3 else (Ru.it (Ru.pgI t L) 100 (Ru.pg0 x y)).e), .int .i64 (Ru.it (Ru.pgI t L) 100 (Ru.pg0 x y)).n, .int .i64 (Ru.cnt (Ru.pgI t L) 100 (Ru.pg0 x y))]) := fun tr => by rw [hE, hZ, hC]
  clear hE hZ hC
  have gA := World.grownBy_alloc w2 (Obj.cells #[.slice ao ln cp, .slice none 0 0, .int .i64 E, .int .i64 Z, .int .i64 C] 38) none
  have RZ3 : Hid ((w2.alloc (Obj.cells #[.slice ao ln cp, .slice none 0 0, .int .i64 E, .int .i64 Z, .int .i64 C] 38)).rowIs b0 38 5 (row5 (.slice none 0 0) (.slice none 0 0) (.int .i64 0) (.int .i64 0) (.int .i64 0))) := rowIs_grown RZ2.out gA
  have RR3 : Hid ((w2.alloc (Obj.cells #[.slice ao ln cp, .slice none 0 0, .int .i64 E, .int .i64 Z, .int .i64 C] 38)).rowIs w2.heap.size 38 5 (row5 (.slice ao ln cp) (.slice none 0 0) (.int .i64 E) (.int .i64 Z) (.int .i64 C))) := row5_new _ _ _ _ _ _ _
  have G3 : Hid (w.grownBy (w2.alloc (Obj.cells #[.slice ao ln cp, .slice none 0 0, .int .i64 E, .int .i64 Z, .int .i64 C] 38)) none) := grown_trans G2.out gA
  have HO3 : Hid (OwnW (w2.alloc (Obj.cells #[.slice ao ln cp, .slice none 0 0, .int .i64 E, .int .i64 Z, .int .i64 C] 38)) w1.heap.size (.slice ao ln cp) (Ru.it (Ru.pgI t L) 100 (Ru.pg0 x y)).out) := World.ownsRow.alloc HO.out _
  have hb2 : b0 < w2.heap.size := World.rowIs.lt RZ2.out
  clear gA RZ2 G2 HO
  go_wp2_with fail
  generalize w2.alloc (Obj.cells #[.slice ao ln cp, .slice none 0 0, .int .i64 E, .int .i64 Z, .int .i64 C] 38) = W3 at *
  obtain ⟨b2, hb2e⟩ : ∃ b2, b2 = w2.heap.size := ⟨_, rfl⟩
  rw [← hb2e] at RR3 hb2 ⊢
  clear hb2e
  obtain ⟨y0, y1, y2, y3, y4, yz⟩ := rowIs_five RZ3.out
  obtain ⟨a0, a1, a2, a3, a4, az⟩ := rowIs_five RR3.out
  have yz0 := yz 0
  have yz1 := yz 1
  have yz2 := yz 2
  have yz3 := yz 3
  have yz4 := yz 4
  go_region_with (go_at_call 28; refine (num5_any _ _).mono ?_; rintro r wn ⟨rfl, hwn⟩; rw [hwn]; clear hwn wn)
  all_goals
    go_wp2
    change bodyPost _ _ _ _ _ (put5 W3 b0 (.slice ao ln cp) (.slice none 0 0) (.int .i64 E) (.int .i64 Z) (.int .i64 C)).drew
    have gP : Hid (W3.grownBy (put5 W3 b0 (.slice ao ln cp) (.slice none 0 0) (.int .i64 E) (.int .i64 Z) (.int .i64 C)).drew (some b0)) := grown_drew (grown_put5 _ _ _ _ _ _ _)
    have hR := rowIs_five (World.rowIs.drew (row5_put RZ3.out (.slice ao ln cp) (.slice none 0 0) (.int .i64 E) (.int .i64 Z) (.int .i64 C)))
    generalize (put5 W3 b0 (.slice ao ln cp) (.slice none 0 0) (.int .i64 E) (.int .i64 Z) (.int .i64 C)).drew = W6 at *
    obtain ⟨q0, q1, q2, q3, q4, qz⟩ := hR
    refine bodyPost_ret (by simp [results, Tryz.results11, go_sem, Act.put, q0, q1, q2, q3, q4]; try rfl) rfl ?_
    refine ⟨.slice ao ln cp, ?_, ?_, ?_⟩
    · unfold runV
      rw [← HEq.out]
    · exact World.ownsRow.mono (World.ownsRow.kept HO3.out gP.out (.inr (fun e => by have := (World.ownsRow.lt HO3.out _ e).1; have := hb1.out; omega))) hs1
    · exact grown_two G3.out gP.out (by have := Hb0.out; omega)
end Go.Proofs.YtdklaeppcjopoaaGreatDoor

/- Programs of instructions, by the plain machine. -/
namespace Go.Proofs.YtdklaeppcjopoaaGreatDoor
open Go.RowKit
set_option linter.unusedVariables false

namespace Ru
theorem getD_app_left {l m : List Int} {i : Nat} (h : i < l.length) : (l ++ m).getD i 0 = l.getD i 0 := by
  rw [List.getD_eq_getElem?_getD, List.getD_eq_getElem?_getD, List.getElem?_append_left h]
theorem getD_app_right {l m : List Int} {i : Nat} : (l ++ m).getD (l.length + i) 0 = m.getD i 0 := by
  rw [List.getD_eq_getElem?_getD, List.getD_eq_getElem?_getD, List.getElem?_append_right (by omega), show l.length + i - l.length = i by omega]
theorem codeT_app (t : Int) (L M : List InV) : codeT t (L ++ M) = codeT t L ++ codeT t M := by unfold codeT; rw [List.flatMap_append]
theorem codeT_cons (t : Int) (v : InV) (M : List InV) : codeT t (v :: M) = encT t v ++ codeT t M := by unfold codeT; rw [List.flatMap_cons]
/-- the instruction at its place -/
theorem next_pg {t : Int} (ht : t = 1 ∨ t = 2) (L1 L2 : List InV) (v : InV) (hm : mayT t v = true) (hr : InRng v) : next (pgI t (L1 ++ v :: L2)) ((codeT t L1).length : Int) = (v, ((encT t v).length : Int), true) := by
  have hlen : (codeT t (L1 ++ v :: L2)).length = (codeT t L1).length + ((encT t v).length + (codeT t L2).length) := by rw [codeT_app, codeT_cons, List.length_append, List.length_append]
  have hg : ∀ i, i < (encT t v).length → sh (pgI t (L1 ++ v :: L2)).g (codeT t L1).length i = (encT t v).getD i 0 := fun i hi => by
    show (codeT t (L1 ++ v :: L2)).getD ((codeT t L1).length + i) 0 = _
    rw [codeT_app, codeT_cons, getD_app_right, getD_app_left hi]
  unfold next
  have hN : (pgI t (L1 ++ v :: L2)).N = (codeT t L1).length + ((encT t v).length + (codeT t L2).length) := hlen
  have hT : (pgI t (L1 ++ v :: L2)).t = t := rfl
  rw [hN, hT, if_neg (by omega), Int.toNat_natCast]
  rcases ht with rfl | rfl
  · have e1 : encT 1 v = (List.range 8).map (Rc.enc v) := by unfold encT; rw [if_pos rfl]
    have el : (encT 1 v).length = 8 := by rw [e1]; simp
    unfold mayT at hm
    rw [if_pos rfl] at hm
    rw [if_pos rfl, if_neg (by omega)]
    have hc := Rc.rd_congr (g := sh (pgI 1 (L1 ++ v :: L2)).g (codeT 1 L1).length) (g' := Rc.enc v) fun i hi => by
      rw [hg i (by omega), e1, List.getD_eq_getElem?_getD]
      simp [hi]
    have hok : Rc.okB (sh (pgI 1 (L1 ++ v :: L2)).g (codeT 1 L1).length) = true := hc.2.trans (Rc.ok_enc v hm)
    rw [Rc.dv_ok hok, Rc.de_ok hok, hc.1, (Rc.back v hm).1, el]
    rfl
  · have e1 : encT 2 v = Cc.enc v := by unfold encT; rw [if_neg (by decide)]
    unfold mayT at hm
    rw [if_neg (by decide)] at hm
    rw [if_neg (by decide)]
    have hd := Cc.dec_enc (N := (codeT 2 L1).length + ((encT 2 v).length + (codeT 2 L2).length) - (codeT 2 L1).length) (g := sh (pgI 2 (L1 ++ v :: L2)).g (codeT 2 L1).length) hm hr.i1 hr.i2 (by rw [e1]; omega) (fun i hi => by rw [hg i (by rw [e1]; exact hi), e1])
    rw [hd, e1]
    rfl
/-- the same, elsewhere -/
def St.to (s : St) (p : Int) : St := { s with pl := p }
/-- a program whose instructions all may be -/
def Good (t : Int) (L : List InV) : Prop := ∀ v ∈ L, mayT t v = true ∧ InRng v
theorem it_pg {t : Int} (ht : t = 1 ∨ t = 2) {L : List InV} (hL : L.length ≤ 20) (hG : Good t L) {k : Nat} {v : InV} (hv : L[k]? = some v) {s0 s : St} (hs : it (pgI t L) k s0 = s) (he : s.e = 0) (hp : s.pl = ((codeT t (L.take k)).length : Int)) :
    it (pgI t L) (k + 1) s0 = exec (pgI t L) v (s.to ((codeT t (L.take (k + 1))).length : Int)) := by
  have hk : k < L.length := (List.getElem?_eq_some_iff.1 hv).1
  have hvk : L[k] = v := (List.getElem?_eq_some_iff.1 hv).2
  have hsp : L = L.take k ++ v :: L.drop (k + 1) := by
    rw [← hvk, ← List.drop_eq_getElem_cons hk, List.take_append_drop]
  have hmv := hG v (by rw [← hvk]; exact List.getElem_mem hk)
  have hn := next_pg ht (L.take k) (L.drop (k + 1)) v hmv.1 hmv.2
  rw [← hsp] at hn
  have hl1 : (codeT t (L.take (k + 1))).length = (codeT t (L.take k)).length + (encT t v).length := by rw [take_snoc L k hk, codeT_snoc, hvk, List.length_append]
  have hb := codeT_len t (L.take (k + 1))
  have hb2 : (L.take (k + 1)).length ≤ 20 := by simp; omega
  show step (pgI t L) (it (pgI t L) k s0) = _
  rw [hs]
  unfold step
  rw [if_pos he, hp, hn]
  have hgo : s.goto (((codeT t (L.take k)).length : Int) + ((encT t v).length : Int)) = s.to ((codeT t (L.take (k + 1))).length : Int) := by
    unfold St.goto St.to
    have : Wd.sg (((codeT t (L.take k)).length : Int) + ((encT t v).length : Int)) = ((codeT t (L.take (k + 1))).length : Int) := by
      rw [hl1]
      unfold Wd.sg
      omega
    rw [this]
  rw [if_pos rfl, hgo]
theorem it_100 {I : Im} {s0 : St} {m : Nat} (hm : m ≤ 100) (he : (it I m s0).e ≠ 0) : it I 100 s0 = it I m s0 := by
  have := (it_ended I s0 m he (100 - m)).1
  rwa [show m + (100 - m) = 100 by omega] at this
end Ru
end Go.Proofs.YtdklaeppcjopoaaGreatDoor

/- What the programs of RunWords, RunMoves end with, by the plain machine. -/
namespace Go.Proofs.YtdklaeppcjopoaaGreatDoor
open Go.RowKit
set_option linter.unusedVariables false

namespace Ru
theorem exec_emi (I : Im) (a : Int) (s : St) : exec I ⟨27, a, 0, 0, 0, 0, 0, 0, 0⟩ s = { s with out := s.out ++ [s.reg a] } := by simp [exec]
theorem exec_exi (I : Im) (a : Int) (s : St) : exec I ⟨28, a, 0, 0, 0, 0, 0, 0, 0⟩ s = s.stop 1 (Wd.sg (s.reg a)) := by simp [exec]
theorem rng0 (op a b c k sub : Int) : InRng ⟨op, a, b, c, k, sub, 0, 0, 0⟩ := ⟨by dsimp only; decide, by dsimp only; decide, by dsimp only; decide, by dsimp only; decide⟩
/-- what is told of a machine's end -/
structure Ends (T : St) (x : Int) : Prop where
  o : T.out = [x]
  e : T.e = 1
  n : T.n = Wd.sg x
/-- a program has come to its instruction k -/
structure Pt (t : Int) (L : List InV) (s0 : St) (k : Nat) (s : St) : Prop where
  h : t = 1 ∨ t = 2
  l : L.length ≤ 20
  g : Good t L
  i : it (pgI t L) k s0 = s
  e : s.e = 0
  o : s.out = []
  p : s.pl = ((codeT t (L.take k)).length : Int)
theorem Pt.exec {t : Int} {L : List InV} {s0 : St} {k : Nat} {s : St} (P : Pt t L s0 k s) {v : InV} (hv : L[k]? = some v) : it (pgI t L) (k + 1) s0 = Ru.exec (pgI t L) v (s.to ((codeT t (L.take (k + 1))).length : Int)) := it_pg P.h P.l P.g hv P.i P.e P.p
/-- .. and goes on -/
theorem Pt.on {t : Int} {L : List InV} {s0 : St} {k : Nat} {s : St} (P : Pt t L s0 k s) {v : InV} (hv : L[k]? = some v) (f : St → St) (hx : Ru.exec (pgI t L) v (s.to ((codeT t (L.take (k + 1))).length : Int)) = f (s.to ((codeT t (L.take (k + 1))).length : Int))) (he : ∀ s, s.e = 0 → s.out = [] → (f s).e = 0 ∧ (f s).out = [] ∧ (f s).pl = s.pl) : Pt t L s0 (k + 1) (f (s.to ((codeT t (L.take (k + 1))).length : Int))) := by
  have h := he (s.to ((codeT t (L.take (k + 1))).length : Int)) P.e P.o
  exact ⟨P.h, P.l, P.g, (P.exec hv).trans hx, h.1, h.2.1, h.2.2⟩
theorem Pt.ends {t : Int} {L : List InV} {s0 : St} {k : Nat} {s : St} (P : Pt t L s0 k s) {a : Int} (h1 : L[k]? = some ⟨27, a, 0, 0, 0, 0, 0, 0, 0⟩) (h2 : L[k + 1]? = some ⟨28, a, 0, 0, 0, 0, 0, 0, 0⟩) : Ends (it (pgI t L) 100 s0) (s.reg a) := by
  have hk : k + 1 < L.length := (List.getElem?_eq_some_iff.1 h2).1
  have hl := P.l
  have i1 := P.exec h1
  rw [exec_emi] at i1
  obtain ⟨s1, hs1⟩ : ∃ s1, s1 = it (pgI t L) (k + 1) s0 := ⟨_, rfl⟩
  rw [← hs1] at i1
  have e1 : s1.e = 0 := by rw [i1]; exact P.e
  have o1 : s1.out = [s.reg a] := by
    rw [i1]
    show s.out ++ [s.reg a] = [s.reg a]
    rw [P.o]; rfl
  have r1 : s1.reg a = s.reg a := by rw [i1]; rfl
  have p1 : s1.pl = ((codeT t (L.take (k + 1))).length : Int) := by rw [i1]; rfl
  have i2 := it_pg P.h P.l P.g h2 hs1.symm e1 p1
  rw [exec_exi, stop_e (s := s1.to ((codeT t (L.take (k + 1 + 1))).length : Int)) e1] at i2
  rw [it_100 (m := k + 1 + 1) (by omega) (by rw [i2]; exact (by decide : (1 : Int) ≠ 0)), i2]
  exact ⟨o1, rfl, by show Wd.sg (s1.reg a) = _; rw [r1]⟩
theorem Pt.zero {t : Int} (ht : t = 1 ∨ t = 2) {L : List InV} (hl : L.length ≤ 20) (hg : Good t L) (x y : Int) : Pt t L (pg0 x y) 0 (pg0 x y) := ⟨ht, hl, hg, rfl, rfl, rfl, by show (0 : Int) = ((codeT t []).length : Int); rfl⟩
end Ru
end Go.Proofs.YtdklaeppcjopoaaGreatDoor

/- Rows of words and of numbers: held against each other, copied. -/
namespace Go.Proofs.YtdklaeppcjopoaaGreatDoor
open Go.RowKit
set_option linter.unusedVariables false

/-- a row as values -/
def rowL (k : IntKind) (n : Nat) (g : Nat → Int) : List Value := (List.range n).map fun i => .int k (g i)
theorem rowL_len (k : IntKind) (n : Nat) (g : Nat → Int) : (rowL k n g).length = n := by simp [rowL]
theorem rowL_at {n : Nat} (k : IntKind) (g : Nat → Int) {j : Nat} (h : j < n) : (rowL k n g)[j]? = some (.int k (g j)) := by simp [rowL, h]
theorem RwIn.at {k : IntKind} {W : World} {ao : Option Addr} {n cap : Nat} {f : Nat → Int} (h : RwIn k W ao n cap f) (hn : 0 < n) : ∃ b off, ao = some ⟨b, off, none⟩ ∧ ∀ i, i < n → W.cell? ⟨b, off + i, none⟩ = some (.int k (f i)) := by
  rcases h.bs with h | h
  · omega
  · exact h
theorem rowL_list (k : IntKind) (l : List Int) : rowL k l.length (fun i => l.getD i 0) = l.map (Value.int k) := by
  refine List.ext_getElem? fun i => ?_
  by_cases hi : i < l.length
  · rw [rowL_at _ _ hi, List.getElem?_map, List.getElem?_eq_getElem hi]
    simp [List.getD_eq_getElem?_getD, List.getElem?_eq_getElem hi]
  · rw [List.getElem?_eq_none (by rw [rowL_len]; omega), List.getElem?_eq_none (by rw [List.length_map]; omega)]
/-- a row of the call's own, as any row -/
theorem own_rwIn {w : World} {base : Nat} {T : TypeId} {k : IntKind} {v : Value} {n : Nat} {g : Nat → Int} (h : w.ownsRow base T 1 v n (rowL k n g)) : ∃ ao cap, v = .slice ao n cap ∧ RwIn k w ao n cap g := by
  have hl := h.lt
  obtain ⟨h1, h⟩ := h
  rcases h with ⟨rfl, rfl⟩ | ⟨b, cap, cur, rfl, hb, hh, hn, hc, hs, ht⟩
  · exact ⟨none, 0, rfl, fun _ => ⟨rfl, rfl⟩, Nat.le_refl _, by unfold maxLen; omega, .inl rfl, fun _ _ h => absurd h (by decide)⟩
  · refine ⟨some ⟨b, 0, none⟩, cap, rfl, (fun h => by cases h), hn, hc, .inr ⟨b, 0, rfl, fun i hi => ?_⟩, fun b' off _ e => by injection e with e; injection e with e1 _ _; subst e1; exact (hl b rfl).2⟩
    have h1 : (rowL k n g)[i]? = some (.int k (g i)) := rowL_at k g hi
    rw [← ht, List.getElem?_take, if_pos (by omega)] at h1
    simp only [World.cell?, hh]
    simpa using h1

end Go.Proofs.YtdklaeppcjopoaaGreatDoor

/- What an operation of a region reads: where its operands come from. -/
namespace Go.Proofs.YtdklaeppcjopoaaGreatDoor
open Go.RowKit
set_option linter.unusedVariables false

/-- the last operation ahead of i that writes slot t -/
def srcOf (ops : Array Oper) (t : Nat) : Nat → Option Nat
  | 0 => none
  | i + 1 => if dstOf ops i = some t then some i else srcOf ops t i
theorem eval_of {a : Act} {t : Nat} {v : Value} (h : a.tmps[t]? = some v) : a.eval (.tmp t) = v := by
  simp [Act.eval, Array.getD_eq_getD_getElem?, h]
theorem frV_at {ops : Array Oper} {a : Act} {V : Nat → Value} {t j : Nat} (ht : t < a.tmps.size) : ∀ {i : Nat}, srcOf ops t i = some j → (frV ops a V i).tmps[t]? = some (V j)
  | 0, h => by cases h
  | i + 1, h => by
    unfold srcOf at h
    show ((frV ops a V i).put (dstOf ops i) (V i)).tmps[t]? = some (V j)
    by_cases hd : dstOf ops i = some t
    · rw [if_pos hd] at h
      obtain rfl : i = j := Option.some.inj h
      rw [hd, put_same _ _ _ (by rw [frV_size]; exact ht)]
    · rw [if_neg hd] at h
      rw [put_other _ _ hd]
      exact frV_at ht h
theorem frV_at0 {ops : Array Oper} {a : Act} {V : Nat → Value} {t : Nat} : ∀ {i : Nat}, srcOf ops t i = none → (frV ops a V i).tmps[t]? = a.tmps[t]?
  | 0, _ => rfl
  | i + 1, h => by
    unfold srcOf at h
    show ((frV ops a V i).put (dstOf ops i) (V i)).tmps[t]? = _
    by_cases hd : dstOf ops i = some t
    · rw [if_pos hd] at h; cases h
    · rw [if_neg hd] at h
      rw [put_other _ _ hd]
      exact frV_at0 h
section
variable {P : Program}
/-- what an operation's run must show -/
def outO (P : Program) (Ψ : Nat → Value → World → Prop) (i : Nat) (w : World) : Result Next → Prop
  | .ok (.value v) w' => w.grownBy w' none ∧ Ψ i v w'
  | .ok .skip w' => w.grownBy w' none ∧ Ψ i undef w'
  | .ok (.enter f args) w' => Calls P f args w' (fun e w'' => ∃ v, e = .returned v ∧ w.grownBy w'' none ∧ Ψ i v w'')
  | _ => False
theorem outO_val {Ψ : Nat → Value → World → Prop} {i : Nat} {w w' : World} {v : Value} {r : Result Next} (hr : r = .ok (.value v) w') (hg : w.grownBy w' none) (hv : Ψ i v w') : outO P Ψ i w r := by
  rw [hr]; exact ⟨hg, hv⟩
theorem outO_call {Ψ : Nat → Value → World → Prop} {i : Nat} {w : World} {f : FuncId} {args : Array Value} {r : Result Next} (hr : r = .ok (.enter f args) w) (hc : Calls P f args w fun e w'' => ∃ v, e = .returned v ∧ w.grownBy w'' none ∧ Ψ i v w'') : outO P Ψ i w r := by
  rw [hr]; exact hc
/-- an operation, wherever it comes up: what it reads is what the ones ahead of it have left, or what stood there -/
def stepO (P : Program) (ops : Array Oper) (a : Act) (w : World) (Ψ : Nat → Value → World → Prop) (i : Nat) (o : Oper) : Prop :=
  ∀ (V : Nat → Value) (w' : World) (A : Act), w.drew.grownBy w' none → (∀ j, (depsOf ops i).contains j = true → Ψ j (V j) w') → (∀ t j, srcOf ops t i = some j → decide (t < a.tmps.size) = true → A.tmps[t]? = some (V j)) →
    (∀ t v, srcOf ops t i = none → a.tmps[t]? = some v → A.tmps[t]? = some v) → outO P Ψ i w' ((execOp A.eval o).run P w')
def stepsO (P : Program) (ops : Array Oper) (a : Act) (w : World) (Ψ : Nat → Value → World → Prop) : Nat → List Oper → Prop
  | _, [] => True
  | i, o :: rest => stepO P ops a w Ψ i o ∧ stepsO P ops a w Ψ (i + 1) rest
theorem stepsO_get {ops : Array Oper} {a : Act} {w : World} {Ψ : Nat → Value → World → Prop} : ∀ {l : List Oper} {k i : Nat} {o : Oper}, stepsO P ops a w Ψ k l → l[i]? = some o → stepO P ops a w Ψ (k + i) o
  | [], _, _, _, _, h => by simp at h
  | x :: l, k, 0, o, hs, h => by
    obtain rfl : x = o := by simpa using h
    exact hs.1
  | x :: l, k, i + 1, o, hs, h => by
    have := stepsO_get (i := i) hs.2 (by simpa using h)
    rwa [show k + 1 + i = k + (i + 1) by omega] at this
/-- region_inv, operation by operation -/
theorem region_src {id : Nat} {Q : Exit → Act → World → Prop} {a : Act} {w : World} {l : List Oper} (n : Nat) (Ψ : Nat → Value → World → Prop)
    (hm : P.follows .mixedOrders = true) (hB : Region.lexTailB .any l.toArray n = true) (hL : lookB l.toArray n = true) (hD : dstB l.toArray n a.tmps.size = true)
    (hst : ∀ i v w w', i < n → Ψ i v w → w.grownBy w' none → Ψ i v w')
    (hstep : stepsO P l.toArray a w Ψ 0 (l.take n))
    (hend : ∀ V w', w.drew.grownBy w' none → (∀ i, i < n → Ψ i (V i) w') → wpList P l.toArray Q (l.drop n) (frV l.toArray a V n) w') : (Code.region id l.toArray true).wp P Q a w := by
  have hn : n < l.length := by
    simp only [Region.lexTailB, Bool.and_eq_true, decide_eq_true_eq] at hB
    simpa using hB.1.1.1.2
  refine region_inv n Ψ hm hB hL hD hst (fun i hi V w' g hV => ?_) hend
  have ho : (l.take n)[i]? = some l[i] := by rw [List.getElem?_take, if_pos hi, List.getElem?_eq_getElem (by omega)]
  have h1 := stepsO_get hstep ho
  rw [Nat.zero_add] at h1
  have h2 := h1 V w' (frV l.toArray a V i) g hV (fun t j hs ht => frV_at (of_decide_eq_true ht) hs) (fun t v hs hv => (frV_at0 hs).trans hv)
  unfold stepV
  have ho' : l.toArray[i]? = some l[i] := by rw [List.getElem?_toArray, List.getElem?_eq_getElem (by omega)]
  rw [ho']
  exact h2
end
end Go.Proofs.YtdklaeppcjopoaaGreatDoor

/- A region that draws its order, with a store at its end ahead of which one pure operation may not have come up yet. -/
namespace Go.Proofs.YtdklaeppcjopoaaGreatDoor
open Go.RowKit
set_option linter.unusedVariables false

section
variable {P : Program} {ops : Array Oper}
/-- all listed but p, and what comes behind n -/
def lateA (m n p : Nat) : Array Bool := (Array.range m).map fun j => decide (j ≤ n) && !(j == p)
theorem lateA_size (m n p : Nat) : (lateA m n p).size = m := by simp [lateA]
theorem lateA_get (m n p j : Nat) (h : j < m) : (lateA m n p).getD j false = (decide (j ≤ n) && !(j == p)) := by simp [lateA, h]
theorem any_of_late {n p : Nat} {on op1 op2 : Oper} {a0 : Act} {W : World} {Q : Exit → Act → World → Prop} {Ψ : Nat → Value → World → Prop} {l : List Oper} (hl : ops = l.toArray)
    (hst : ∀ i v w w', i < n → Ψ i v w → w.grownBy w' none → Ψ i v w')
    (hsel : Region.noSelect ops = true) (hsz : ops.size = n + 2) (hp : p < n) (hB1 : ∀ j, j < n → j ≠ p → Region.waitsFor .any ops n j = true) (hB2 : Region.waitsFor .any ops (n + 1) n = true) (hon : ops[n]? = some on) (hop : ops[p]? = some op1) (ho2 : ops[n + 1]? = some op2)
    (r1 : Region.ready .any ops (lateA ops.size n p) = [p]) (r2 : Region.ready .any ops ((lateA ops.size n p).setIfInBounds p true) = [n + 1]) (r3 : Region.ready .any ops (((lateA ops.size n p).setIfInBounds p true).setIfInBounds (n + 1) true) = []) (hlex : Region.lexHead .any ops (ops.size - n) n 0 (lexed ops.size 0) = true)
    (hL : lookB ops n = true) (hD : dstB ops n a0.tmps.size = true)
    (hstep : ∀ i, i < n → ∀ V w', W.grownBy w' none → (∀ j, (depsOf ops i).contains j = true → Ψ j (V j) w') → stepV P ops Ψ i (frV ops a0 V i) w')
    (hend : ∀ V w', W.grownBy w' none → (∀ i, i < n → Ψ i (V i) w') → wpList P ops Q (l.drop n) (frV ops a0 V n) w')
    (hlate : ∀ V w', W.grownBy w' none → (∀ i, i < n → i ≠ p → Ψ i (V i) w') → (∀ d, dstOf ops p = some d → V p = a0.tmps.getD d undef) → wpList P ops Q [on, op1, op2] (frV ops a0 V n) w') (f : Nat) :
    ∀ listed a w, left listed n = f → HeadInv .any ops n listed → FrInv ops n a0 Ψ listed a w → W.grownBy w none → wpAny P .any ops Q (f + (ops.size - n)) listed a w := by
  have hval : ∀ {listed a w i}, FrInv ops n a0 Ψ listed a w → i < n → listed.getD i false = true → Ψ i (valOf ops a i) w := by
    intro listed a w i inv hi hli
    unfold valOf
    cases hd : dstOf ops i with
    | none => exact inv.non i hi hli hd
    | some d => exact inv.val i d hi hli hd
  have hfr : ∀ {listed a w}, FrInv ops n a0 Ψ listed a w → a = frV ops a0 (valOf ops a) n := by
    intro listed a w inv
    obtain ⟨tm, df⟩ := a
    have h1 : tm = (frV ops a0 (valOf ops ⟨tm, df⟩) n).tmps := by
      apply Array.ext_getElem?
      intro s
      by_cases hex : ∃ j, j < n ∧ dstOf ops j = some s
      · obtain ⟨j, hj, hd⟩ := hex
        exact (frV_in a0 ⟨tm, df⟩ inv.size n s ⟨j, hj, hd⟩ (dstB_lt hD hj hd)).symm
      · have hno : ∀ j, j < n → dstOf ops j ≠ some s := fun j hj hd => hex ⟨j, hj, hd⟩
        rw [frV_out a0 _ n s hno]
        exact inv.old s fun i hi _ => hno i hi
    have h2 : df = (frV ops a0 (valOf ops ⟨tm, df⟩) n).defers := by rw [frV_defers]; exact inv.defers
    generalize frV ops a0 (valOf ops ⟨tm, df⟩) n = b at *
    obtain ⟨bt, bd⟩ := b
    simp_all
  have hn : n < ops.size := by omega
  induction f with
  | zero =>
    intro listed a w hf hinv inv hg
    have hall := left_zero hf
    have ea : a = frV ops a0 (valOf ops a) n := hfr inv
    have el : listed = lexed ops.size n := by
      apply Array.ext
      · rw [lexed_size]; exact hinv.size
      · intro i h1 h2
        have e1 := lexed_get ops.size n i (by rw [← hinv.size]; exact h1)
        by_cases hin : i < n
        · have e2 := hall i hin
          have : (lexed ops.size n).getD i false = true := by rw [e1]; simp [hin]
          simp [h1, h2] at e2 this
          rw [e2, this]
        · have e2 := getD_both (hinv.tail i (by omega) (by rw [← hinv.size]; exact h1))
          have : (lexed ops.size n).getD i false = false := by rw [e1]; simp [hin]
          simp [h1, h2] at e2 this
          rw [e2, this]
    have hw := hend (valOf ops a) w hg fun i hi => hval inv hi (hall i hi)
    rw [← ea] at hw
    have hse := lexHead_end ops.size n 0 (by simpa using hlex)
    rw [Nat.zero_add] at hse
    have hdl : (l.drop n).length = ops.size - n := by rw [hl]; simp
    have T := wpAny_of_seq (md := .any) (P := P) (ops := ops) (Q' := Q) (l.drop n) n listed a w (fun j => by rw [hl]; simp [List.getElem?_drop]) (by rw [hdl, el]; exact hse) hw
    rw [hdl] at T
    rw [Nat.zero_add]
    exact T
  | succ f ih =>
    intro listed a w hf hinv inv hg
    obtain ⟨k, hk, hkf, hkall⟩ := left_pos (by rw [hf]; exact Nat.succ_ne_zero f)
    have hkt : listed.getD k true = false := getD_in (by rw [hinv.size]; omega) hkf
    have hkr : k ∈ Region.ready .any ops listed := by
      have h0 := lexHead_at ops.size n 0 (by simpa using hlex) k (Nat.zero_le _) (by omega)
      obtain ⟨_, o, ho, hall⟩ := mem_ready.1 h0
      refine mem_ready.2 ⟨hkt, o, ho, fun e he hb => ?_⟩
      have h1 := hall e he hb
      have h2 : e.on < ops.size := by
        rcases Nat.lt_or_ge e.on (lexed ops.size k).size with h' | h'
        · rw [lexed_size] at h'; exact h'
        · simp [Array.getElem?_eq_none h'] at h1
      rw [lexed_get ops.size k e.on h2] at h1
      exact hkall e.on (by simpa using h1)
    rw [Nat.add_right_comm]
    refine ⟨fun h0 => absurd h0 (List.ne_nil_of_mem hkr), fun i hi => ?_⟩
    by_cases hin : i < n
    case neg =>
      have hilt : i < n + 2 := by
        obtain ⟨_, o, ho, _⟩ := mem_ready.1 hi
        have := (Array.getElem?_eq_some_iff.1 ho).1
        omega
      have hnf : listed.getD n false = false := getD_both (hinv.tail n (Nat.le_refl _) hn)
      have hi1 : i ≠ n + 1 := fun e => by
        subst e
        have := waits_listed hi hB2
        rw [hnf] at this
        cases this
      obtain rfl : i = n := by omega
      have hoth : ∀ j, j < i → j ≠ p → listed.getD j false = true := fun j hj hjp => waits_listed hi (hB1 j hj hjp)
      obtain rfl : k = p := Decidable.byContradiction fun h => by rw [hoth k hk h] at hkf; cases hkf
      have hf0 : f = 0 := by
        have h1 := left_set hk hkt
        have h2 : left (listed.setIfInBounds k true) i = 0 := by
          unfold left
          rw [List.filter_eq_nil_iff.2 fun j hj => ?_]
          · rfl
          · have hj' := List.mem_range.1 hj
            by_cases hjk : j = k
            · subst hjk
              have : j < listed.size := by rw [hinv.size]; omega
              simp [this]
            · have : (listed.setIfInBounds k true).getD j false = true := getD_set_true (hoth j hj' hjk)
              rw [this]; decide
        omega
      subst hf0
      have el : listed.setIfInBounds i true = lateA ops.size i k := by
        apply Array.ext
        · rw [lateA_size, Array.size_setIfInBounds]; exact hinv.size
        · intro j h1 h2
          have e1 := lateA_get ops.size i k j (by rw [lateA_size] at h2; exact h2)
          have hjs : j < ops.size := by rw [lateA_size] at h2; exact h2
          have hls : listed.size = ops.size := hinv.size
          have key : (listed.setIfInBounds i true).getD j false = (lateA ops.size i k).getD j false := by
            rw [e1]
            by_cases hji : j = i
            · subst hji
              have : j < listed.size := by omega
              simp [this]
              omega
            · rw [getD_set_ne false (Ne.symm hji)]
              by_cases hjk : j = k
              · subst hjk
                rw [hkf]
                simp
              · by_cases hjn : j < i
                · rw [hoth j hjn hjk]
                  simp [hjk]
                  omega
                · rw [getD_both (hinv.tail j (by omega) hjs)]
                  simp
                  omega
          rw [Array.getD_eq_getD_getElem?, Array.getElem?_eq_getElem h1, Array.getD_eq_getD_getElem?, Array.getElem?_eq_getElem h2] at key
          exact key
      have ea : a = frV ops a0 (valOf ops a) i := hfr inv
      have hw := hlate (valOf ops a) w hg (fun j hj hjp => hval inv hj (hoth j hj hjp)) (fun d hd => by
        unfold valOf
        rw [hd]
        have := inv.old d (fun j hj hjl => by
          by_cases hjk : j = k
          · subst hjk; rw [hkf] at hjl; cases hjl
          · exact dstB_ne hD hk hj (fun e => hjk e.symm) hd)
        show a.tmps.getD d undef = _
        rw [Array.getD_eq_getD_getElem?, this, ← Array.getD_eq_getD_getElem?])
      rw [← ea] at hw
      have h1 : wpOp P ops Q i (wpList P ops Q [op1, op2]) a w := by unfold wpOp; simp only [hon]; exact hw
      have hs2 : 0 + (ops.size - i) = 0 + 1 + 1 := by omega
      rw [hs2]
      refine wpOp_mono (fun a1 w1 h2 => ?_) h1
      rw [el]
      refine ⟨fun h0 => (by rw [r1] at h0; cases h0), fun j hj => ?_⟩
      rw [r1] at hj
      obtain rfl : j = k := by simpa using hj
      have h3 : wpOp P ops Q j (wpList P ops Q [op2]) a1 w1 := by unfold wpOp; simp only [hop]; exact h2
      refine wpOp_mono (fun a2 w2 h4 => ?_) h3
      refine ⟨fun h0 => (by rw [r2] at h0; cases h0), fun j' hj' => ?_⟩
      rw [r2] at hj'
      obtain rfl : j' = i + 1 := by simpa using hj'
      have h5 : wpOp P ops Q (i + 1) (wpList P ops Q []) a2 w2 := by unfold wpOp; simp only [ho2]; exact h4
      exact wpOp_mono (fun a3 w3 h6 => ⟨r3, h6⟩) h5
    obtain ⟨hiun, o, ho, hall⟩ := mem_ready.1 hi
    obtain ⟨hgd, hlk⟩ := lookB_spec hL hin ho
    have hd : dstOf ops i = o.dst := by unfold dstOf; rw [ho]; rfl
    have S := hstep i hin (valOf ops a) w hg fun j hj => by
      have hj' := List.mem_filter.1 (show j ∈ depsOf ops i by simpa using hj)
      have hlt := List.mem_range.1 hj'.1
      exact hval inv (by omega) (waits_listed hi hj'.2)
    unfold stepV at S
    simp only [ho] at S
    have hex : execOp a.eval o = execOp (frV ops a0 (valOf ops a) i).eval o := by
      refine execOp_congr o (fun cs b => Region.noSelect_spec hsel i o cs b ho) fun x hx => eval_same fun t ht => ?_
      subst ht
      have htl : t ∈ o.looksAt ops := List.mem_append_left _ (List.mem_filterMap.2 ⟨.tmp t, by simpa using hx, rfl⟩)
      by_cases hexi : ∃ j, j < n ∧ dstOf ops j = some t
      · obtain ⟨j, hj, hdj⟩ := hexi
        obtain ⟨hji, _⟩ := hlk t htl j hj hdj
        exact (frV_in a0 a inv.size i t ⟨j, hji, hdj⟩ (dstB_lt hD hj hdj)).symm
      · have hno : ∀ j, j < n → dstOf ops j ≠ some t := fun j hj hd => hexi ⟨j, hj, hd⟩
        rw [frV_out a0 _ i t fun j hj => hno j (by omega)]
        exact inv.old t fun j hj _ => hno j hj
    have next : ∀ v w', w.grownBy w' none → Ψ i v w' → wpAny P .any ops Q (f + (ops.size - n)) (listed.setIfInBounds i true) (a.put o.dst v) w' := by
      intro v w' hg' hv
      have hlf : left (listed.setIfInBounds i true) n = f := by have := left_set hin hiun; omega
      refine ih _ _ _ hlf (hinv.set hi hin) ?_ (grown_trans hg hg')
      have hset : ∀ j, j ≠ i → (listed.setIfInBounds i true).getD j false = true → listed.getD j false = true := fun j hj h => by rwa [getD_set_ne false (Ne.symm hj)] at h
      refine ⟨(put_size _ _ _).trans inv.size, (put_defers _ _ _).trans inv.defers, fun s hs' => ?_, fun j d hj hjl hjd => ?_, fun j hj hjl hjd => ?_⟩
      · have h1 : dstOf ops i ≠ some s := hs' i hin (by
          have : i < listed.size := by rw [hinv.size]; omega
          simp [this])
        rw [put_other _ _ (by rw [← hd]; exact h1)]
        exact inv.old s fun j hj hjl => hs' j hj (getD_set_true hjl)
      · by_cases hji : j = i
        · subst hji
          have e : o.dst = some d := by rw [← hd]; exact hjd
          rw [e]
          have hlt : d < a.tmps.size := by rw [inv.size]; exact dstB_lt hD hin hjd
          have := put_same a d v hlt
          rw [Array.getD_eq_getD_getElem?, this]
          exact hv
        · have hne : o.dst ≠ some d := by rw [← hd]; exact dstB_ne hD hj hin hji hjd
          have := put_other a v hne
          rw [Array.getD_eq_getD_getElem?, this, ← Array.getD_eq_getD_getElem?]
          exact hst _ _ _ _ hj (inv.val j d hj (hset j hji hjl) hjd) hg'
      · by_cases hji : j = i
        · subst hji
          exact absurd hjd (dstB_some hD hin)
        · exact hst _ _ _ _ hj (inv.non j hj (hset j hji hjl) hjd) hg'
    unfold wpOp
    simp only [ho]
    have hwa : Region.wanted o (yielded ops a.tmps) = true := by unfold Region.wanted; rw [hgd]
    rw [if_pos hwa]
    refine .inl ?_
    unfold Oper.wp
    rw [hex]
    generalize (execOp (frV ops a0 (valOf ops a) i).eval o).run P w = r at S
    match r, S with
    | .ok (.value v) w', S => exact next v w' S.1 S.2
    | .ok .skip w', S => exact next undef w' S.1 S.2
    | .ok (.enter fn args) w', S =>
      rw [Oper.upon_enter]
      refine Calls.mono S ?_
      rintro e w'' ⟨v, rfl, h1, h2⟩
      exact next v w'' h1 h2

/-- the same as a check -/
def lateB (ops : Array Oper) (n p : Nat) : Bool :=
  Region.noSelect ops && decide (ops.size = n + 2) && decide (p < n) && ((List.range n).all fun j => j == p || Region.waitsFor .any ops n j) && Region.waitsFor .any ops (n + 1) n &&
    (Region.ready .any ops (lateA ops.size n p) == [p]) && (Region.ready .any ops ((lateA ops.size n p).setIfInBounds p true) == [n + 1]) && (Region.ready .any ops (((lateA ops.size n p).setIfInBounds p true).setIfInBounds (n + 1) true) == []) &&
    Region.lexHead .any ops (ops.size - n) n 0 (Array.replicate ops.size false)
/-- region_src, where the operation p of the head may come behind the first of the tail's two -/
theorem region_late {id : Nat} {Q : Exit → Act → World → Prop} {a : Act} {w : World} {l : List Oper} (n p : Nat) (on op1 op2 : Oper) (Ψ : Nat → Value → World → Prop)
    (hm : P.follows .mixedOrders = true) (hB : lateB l.toArray n p = true) (hon : l[n]? = some on) (hop : l[p]? = some op1) (ho2 : l[n + 1]? = some op2) (hL : lookB l.toArray n = true) (hD : dstB l.toArray n a.tmps.size = true)
    (hst : ∀ i v w w', i < n → Ψ i v w → w.grownBy w' none → Ψ i v w')
    (hstep : stepsO P l.toArray a w Ψ 0 (l.take n))
    (hend : ∀ V w', w.drew.grownBy w' none → (∀ i, i < n → Ψ i (V i) w') → wpList P l.toArray Q [on, op2] (frV l.toArray a V n) w')
    (hlate : ∀ V w', w.drew.grownBy w' none → (∀ i, i < n → i ≠ p → Ψ i (V i) w') → (∀ d, dstOf l.toArray p = some d → V p = a.tmps.getD d undef) → wpList P l.toArray Q [on, op1, op2] (frV l.toArray a V n) w') : (Code.region id l.toArray true).wp P Q a w := by
  unfold lateB at hB
  simp only [Bool.and_eq_true, decide_eq_true_eq, beq_iff_eq, List.all_eq_true, List.mem_range, Bool.or_eq_true] at hB
  obtain ⟨⟨⟨⟨⟨⟨⟨⟨hsel, hsz⟩, hp⟩, hB1⟩, hB2⟩, r1⟩, r2⟩, r3⟩, hlex⟩ := hB
  have hsl : l.length = n + 2 := by simpa using hsz
  have hstep' : ∀ i, i < n → ∀ V w', w.drew.grownBy w' none → (∀ j, (depsOf l.toArray i).contains j = true → Ψ j (V j) w') → stepV P l.toArray Ψ i (frV l.toArray a V i) w' := fun i hi V w' g hV => by
    have ho : (l.take n)[i]? = some l[i] := by rw [List.getElem?_take, if_pos hi, List.getElem?_eq_getElem (by omega)]
    have h1 := stepsO_get hstep ho
    rw [Nat.zero_add] at h1
    have h2 := h1 V w' (frV l.toArray a V i) g hV (fun t j hs ht => frV_at (of_decide_eq_true ht) hs) (fun t v hs hv => (frV_at0 hs).trans hv)
    unfold stepV
    have ho' : l.toArray[i]? = some l[i] := by rw [List.getElem?_toArray, List.getElem?_eq_getElem (by omega)]
    rw [ho']
    exact h2
  have hdrop : l.drop n = [on, op2] := by
    apply List.ext_getElem?
    intro j
    rw [List.getElem?_drop]
    match j with
    | 0 => simpa using hon
    | 1 => simpa using ho2
    | j + 2 =>
      rw [List.getElem?_eq_none (by omega)]
      rfl
  have inv0 : HeadInv .any l.toArray n (Array.replicate l.toArray.size false) :=
    ⟨by simp, fun j oj _ hl => (by rw [getD_replicate_false] at hl; cases hl), fun t _ ht => getD_in (by simpa using ht) (getD_replicate_false _ _)⟩
  have hl0 : left (Array.replicate l.toArray.size false) n = n := by
    unfold left
    rw [List.filter_eq_self.2 fun i _ => by rw [getD_replicate_false]; rfl]
    simp
  have fr0 : FrInv l.toArray n a Ψ (Array.replicate l.toArray.size false) a w.drew :=
    ⟨rfl, rfl, fun _ _ => rfl, fun i d _ h => (by rw [getD_replicate_false] at h; cases h), fun i _ h => (by rw [getD_replicate_false] at h; cases h)⟩
  have T := any_of_late (P := P) (Q := Q) (ops := l.toArray) (n := n) (p := p) (on := on) (op1 := op1) (op2 := op2) (a0 := a) (W := w.drew) (Ψ := Ψ) rfl hst hsel hsz hp (fun j hj hjp => (hB1 j hj).resolve_left hjp) hB2 (by simpa using hon) (by simpa using hop) (by simpa using ho2) r1 r2 r3 (by simpa [lexed] using hlex) hL hD hstep' (fun V w' g h => by rw [hdrop]; exact hend V w' g h) hlate n _ a w.drew hl0 inv0 fr0 (World.grownBy.refl _ _)
  rw [show n + (l.toArray.size - n) = l.toArray.size by omega] at T
  exact wp_region_any hm T
end
end Go.Proofs.YtdklaeppcjopoaaGreatDoor

/- Operations that came in, with words and a target: opened; small functions of the statements of single instructions. -/
namespace Go.Proofs.YtdklaeppcjopoaaGreatDoor
open Go.RowKit
set_option linter.unusedVariables false

/-- one element: an operation, kinds, words, a target -/
structure O6 where
  op : Int
  k : Int
  tk : Int
  x : Int
  y : Int
  t : Int
structure O6At (W : World) (b o : Nat) (v : O6) : Prop where
  c0 : W.cell? ⟨b, o, none⟩ = some (.int .i64 v.op)
  c1 : W.cell? ⟨b, o + 1, none⟩ = some (.int .i64 v.k)
  c2 : W.cell? ⟨b, o + 2, none⟩ = some (.int .i64 v.tk)
  c3 : W.cell? ⟨b, o + 3, none⟩ = some (.int .u64 v.x)
  c4 : W.cell? ⟨b, o + 4, none⟩ = some (.int .u64 v.y)
  c5 : W.cell? ⟨b, o + 5, none⟩ = some (.int .i64 v.t)
  x1 : 0 ≤ v.x
  x2 : v.x < 18446744073709551616
  y1 : 0 ≤ v.y
  y2 : v.y < 18446744073709551616
theorem O6At.kept {w w' : World} {b o : Nat} {v : O6} (h : O6At w b o v) (g : w.grownBy w' none) : O6At w' b o v :=
  ⟨g.cell h.c0 (by simp), g.cell h.c1 (by simp), g.cell h.c2 (by simp), g.cell h.c3 (by simp), g.cell h.c4 (by simp), g.cell h.c5 (by simp), h.x1, h.x2, h.y1, h.y2⟩
def IsO6 (w : World) (a : Option Addr) (len cap : Nat) (V : Nat → O6) : Prop :=
  len ≤ cap ∧ cap ≤ maxLen ∧ (len = 0 ∨ ∃ b off, a = some ⟨b, off, none⟩ ∧ b < w.heap.size ∧ ∀ i, i < len → O6At w b (off + i * 6) (V i))
set_option maxRecDepth 100000 in
theorem open_o6 {H : Type} {enc : TypeId × Value → H} {W : World} {spare : Nat → Bool} {held : Bool} {fuel : Nat} {cs : List Value} {x : DataW H × List MemPlace}
    (h : DataW.trod enc Tryz.prog W 0 spare held fuel 22 cs = some x) : ∃ a len cap V, cs = [.slice a len cap] ∧ IsO6 W a len cap V := by
  rcases Go.Deep.open_slice Tryz.underlying22 h with ⟨hcs, _⟩ | ⟨a', len, cap, m, n, D, Pl, hcs, hb, hl, hm, hmm, _, hx⟩
  · exact ⟨none, 0, 0, fun _ => ⟨0, 0, 0, 0, 0, 0⟩, hcs, Nat.le_refl _, Nat.zero_le _, .inl rfl⟩
  · have hlm : len ≤ m := by rw [hmm]; split <;> omega
    by_cases h0 : len = 0
    · exact ⟨_, _, _, fun _ => ⟨0, 0, 0, 0, 0, 0⟩, hcs, hl, hm, .inl h0⟩
    have ce : Tryz.prog.cellsOf 25 = 6 := by kernel_rfl
    have c3 : Tryz.prog.cellsOf 3 = 1 := by kernel_rfl
    have c2 : Tryz.prog.cellsOf 23 = 1 := by kernel_rfl
    obtain ⟨b, off, spot⟩ := a'
    have h00 : spot = none ∧ b < W.heap.size := by
      obtain ⟨cs', h1, h2⟩ := hx 0 (by omega)
      rw [ce] at h1
      obtain ⟨_, hlen, hcell⟩ := World.cells?_some h1
      match cs', hlen with
      | [v0, v1, v2, v3, v4, v5], _ =>
        have k0 := hcell 0 (by omega)
        have k0 : W.cell? ⟨b, off, spot⟩ = some v0 := by simpa [Addr.add] using k0
        exact ⟨World.cell?_spot k0, World.block_lt_of_cell? _ _ k0⟩
    obtain ⟨rfl, hlt⟩ := h00
    have each : ∀ i, i < len → ∃ v : O6, O6At W b (off + i * 6) v := by
      intro i hi
      obtain ⟨cs', h1, h2⟩ := hx i (by omega)
      rw [ce] at h1
      obtain ⟨_, hlen, hcell⟩ := World.cells?_some h1
      obtain ⟨xs, kk, hk, hxy, _, hxl, hf⟩ := DataW.trod_struct Tryz.underlying25 h2
      match xs, hxl, cs', hlen with
      | [z0, z1, z2, z3, z4, z5], _, [v0, v1, v2, v3, v4, v5], _ =>
        have g0 := hf 0 _ rfl
        have g1 := hf 1 _ rfl
        have g2 := hf 2 _ rfl
        have g3 := hf 3 _ rfl
        have g4 := hf 4 _ rfl
        have g5 := hf 5 _ rfl
        simp [c3, c2] at g0 g1 g2 g3 g4 g5
        obtain ⟨n0, e0, _, f0⟩ := DataW.trod_int Tryz.underlying3 g0
        obtain ⟨n1, e1, _, f1⟩ := DataW.trod_int Tryz.underlying3 g1
        obtain ⟨n2, e2, _, f2⟩ := DataW.trod_int Tryz.underlying3 g2
        obtain ⟨n3, e3, _, f3⟩ := DataW.trod_int Tryz.underlying23 g3
        obtain ⟨n4, e4, _, f4⟩ := DataW.trod_int Tryz.underlying23 g4
        obtain ⟨n5, e5, _, f5⟩ := DataW.trod_int Tryz.underlying3 g5
        simp at e0 e1 e2 e3 e4 e5
        subst e0 e1 e2 e3 e4 e5
        have k0 := hcell 0 (by omega)
        have k1 := hcell 1 (by omega)
        have k2 := hcell 2 (by omega)
        have k3 := hcell 3 (by omega)
        have k4 := hcell 4 (by omega)
        have k5 := hcell 5 (by omega)
        rw [add_none, add_none] at k0 k1 k2 k3 k4 k5
        have f3 := bounds_u64 f3
        have f4 := bounds_u64 f4
        exact ⟨⟨n0, n1, n2, n3, n4, n5⟩, k0, k1, k2, k3, k4, k5, by dsimp only; omega, by dsimp only; omega, by dsimp only; omega, by dsimp only; omega⟩
    have : ∃ V : Nat → O6, ∀ i, i < len → O6At W b (off + i * 6) (V i) :=
      ⟨fun i => if hi : i < len then Classical.choose (each i hi) else ⟨0, 0, 0, 0, 0, 0⟩, fun i hi => by simp only [dif_pos hi]; exact Classical.choose_spec (each i hi)⟩
    obtain ⟨V, hV⟩ := this
    exact ⟨_, _, _, V, hcs, hl, hm, .inr ⟨b, off, rfl, hlt, hV⟩⟩
theorem within2 (i : Int) : (∀ w, Calls Tryz.prog 10 #[.int .i64 i, .int .i64 2] w fun r w' => r = .returned (.int .i64 0) ∧ w' = w) ∨ (∀ w, Calls Tryz.prog 10 #[.int .i64 i, .int .i64 2] w fun r w' => r = .returned (.int .i64 1) ∧ w' = w) := by
  have hw : ∀ w, Calls Tryz.prog 10 #[.int .i64 i, .int .i64 2] w fun r w' => r = .returned (.int .i64 (wrap64 ((IntKind.u64.wrap i).tmod 2))) ∧ w' = w := fun w => by
    go_enter Tryz.func10, Tryz.ntmps10
    go_wp2
    go_ret
    exact ⟨rfl, rfl⟩
  have : wrap64 ((IntKind.u64.wrap i).tmod 2) = 0 ∨ wrap64 ((IntKind.u64.wrap i).tmod 2) = 1 := by
    rw [IntKind.wrap_u64, Int.tmod_eq_emod_of_nonneg (by omega)]
    unfold wrap64
    omega
  rcases this with h | h
  · rw [h] at hw; exact .inl hw
  · rw [h] at hw; exact .inr hw
/-- instructions in a block of their own, laid at once -/
theorem OwnI.lit (w : World) (base : Nat) (L : List InV) (cs : Array Value) (hc : cs.toList = L.flatMap cells9) (hb : base ≤ w.heap.size) (hl : L.length ≤ 100) : OwnI (w.alloc (Obj.cells cs 34)) base (.slice (some ⟨w.heap.size, 0, none⟩) L.length L.length) L := by
  have hs : cs.size = L.length * 9 := by rw [← flat9_len, ← hc]; simp
  have := World.ownsRow_lit (base := base) (e := 34) (size := 9) w cs L.length hb (by unfold maxLen; omega) hs
  unfold OwnI
  rw [← hc]
  exact this
theorem emit_any (n : Int) (w : World) : Calls Tryz.prog 12 #[.int .i64 n] w fun r w' => ∃ T, r = .returned (.slice (some ⟨T, 0, none⟩) 2 2) ∧ OwnI w' w.heap.size (.slice (some ⟨T, 0, none⟩) 2 2) [⟨27, n, 0, 0, 0, 0, 0, 0, 0⟩, ⟨28, n, 0, 0, 0, 0, 0, 0, 0⟩] ∧ w.grownBy w' none := by
  go_enter Tryz.func12, Tryz.ntmps12
  go_wp2
  go_ret
  exact ⟨_, rfl, OwnI.lit w _ [⟨27, n, 0, 0, 0, 0, 0, 0, 0⟩, ⟨28, n, 0, 0, 0, 0, 0, 0, 0⟩] _ rfl (Nat.le_refl _) (by simp), World.grownBy_alloc _ _ _⟩
/-- what a run's result is -/
def RunR (T : Ru.St) (x : Value) (w : World) : Prop := ∃ ao cp C, x = .agg #[.slice ao T.out.length cp, .slice none 0 0, .int .i64 (if T.e = 0 then 3 else T.e), .int .i64 T.n, .int .i64 C] ∧ RwIn .u64 w ao T.out.length cp (fun i => T.out.getD i 0)
theorem RunR.kept {T : Ru.St} {x : Value} {w w' : World} (h : RunR T x w) (g : w.grownBy w' none) : RunR T x w' := by
  obtain ⟨ao, cp, C, h1, h2⟩ := h
  exact ⟨ao, cp, C, h1, h2.grow g (fun _ _ _ _ => by simp)⟩
theorem OwnW.rw6 {w : World} {base : Nat} {v : Value} {l : List Int} (h : OwnW w base v l) : ∃ ao cp, v = .slice ao l.length cp ∧ RwIn .u64 w ao l.length cp (fun i => l.getD i 0) := by
  unfold OwnW at h
  rw [← rowL_list] at h
  exact own_rwIn h
/-- instructions appended to a full row -/
theorem run_appI {w : World} {T1 T2 n m c b1 b2 : Nat} {L M : List InV} (h1 : OwnI w b1 (.slice (some ⟨T1, 0, none⟩) n n) L) (h2 : OwnI w b2 (.slice (some ⟨T2, 0, none⟩) m c) M) (hn : n = L.length) (hm : m = M.length) (hm0 : 0 < m) (hs : n + m ≤ 100) :
    ∃ v' w', (Builtin.append_ #[32, 32] 32 #[.slice (some ⟨T1, 0, none⟩) n n, .slice (some ⟨T2, 0, none⟩) m c]).run Tryz.prog w = .ok v' w' ∧ OwnI w' w.heap.size v' (L ++ M) ∧ w.grownBy w' none := by
  obtain ⟨i, hi, hz0, hz1, hz2⟩ := info_parts info_inst
  subst hn hm
  obtain ⟨v', w', e, o, g⟩ := run_append_arg_grows (P := Tryz.prog) w 32 32 34 i _ 9 72 Tryz.underlying32 hi hz0 hz1 hz2 rfl (by decide) ⟨T1, 0, none⟩ L.length L.length (L.flatMap cells9) (flat9_len L) (fun j u hu => World.ownsRow.cells h1 rfl j u hu) ⟨T2, 0, none⟩ M.length c (M.flatMap cells9) (flat9_len M) (fun j u hu => World.ownsRow.cells h2 rfl j u hu) (by omega) (by unfold maxLen; omega) (by omega)
  refine ⟨v', w', e, ?_, g⟩
  unfold OwnI
  rw [List.length_append, List.flatMap_append]
  exact o
set_option maxRecDepth 100000 in
set_option maxHeartbeats 2000000 in
theorem told_true (g o cp : Nat) (x c : Int) (w : World) (hc : w.cell? ⟨g, o, none⟩ = some (.int .u64 x)) :
    Calls Tryz.prog 13 #[.agg #[.slice (some ⟨g, o, none⟩) 1 cp, .slice none 0 0, .int .i64 1, .int .i64 (Wd.sg x), .int .i64 c], .int .u64 x] w fun r w' => r = .returned (.bool true) ∧ w.grownBy w' none := by
  have hs : wrap64 x = Wd.sg x := by unfold wrap64 Wd.sg; rfl
  obtain ⟨z, hz⟩ : ∃ z, Wd.sg x = z := ⟨_, rfl⟩
  rw [hz] at hs ⊢
  clear hz
  have hc' := (World.grownBy_alloc w (Obj.cells #[.slice (some ⟨g, o, none⟩) 1 cp, .slice none 0 0, .int .i64 1, .int .i64 z, .int .i64 c] 38) none).cell hc (by simp)
  go_enter Tryz.func13, Tryz.ntmps13
  go_wp2
  go_ret
  exact ⟨rfl, World.grownBy_alloc _ _ _⟩
/-- the operations of a region that runs appended instructions: what each says of its value -/
def psiR (t : Int) (T1 n : Nat) (b1 : Nat) (x y : Int) (L : List InV) (T : Ru.St) (q : Int) (base : Nat) : Nat → Value → World → Prop
  | 0 => fun z _ => z = .int .i64 t
  | 1 => fun z _ => z = .slice (some ⟨T1, 0, none⟩) n n
  | 2 => fun z w => ∃ T2, z = .slice (some ⟨T2, 0, none⟩) 2 2 ∧ OwnI w base z [⟨27, q, 0, 0, 0, 0, 0, 0, 0⟩, ⟨28, q, 0, 0, 0, 0, 0, 0, 0⟩]
  | 3 => fun z w => ∃ T3 c, z = .slice (some ⟨T3, 0, none⟩) L.length c ∧ OwnI w base z L
  | 4 => fun z _ => z = .pointer (some ⟨b1, 3, none⟩)
  | 5 => fun z _ => z = .int .u64 x
  | 6 => fun z _ => z = .pointer (some ⟨b1, 4, none⟩)
  | 7 => fun z _ => z = .int .u64 y
  | 8 => fun z w => ∃ r, z = .tuple #[r, .bool true] ∧ RunR T r w
  | 9 => fun z w => ∃ r, z = .tuple #[r, .bool true] ∧ RunR T r w
  | 10 => fun z w => RunR T z w
  | 11 => fun z _ => z = .bool true
  | 12 => fun z w => ∃ N, z = .pointer (some ⟨N, 0, none⟩) ∧ w.rowIs N 38 5 (row5 (.slice none 0 0) (.slice none 0 0) (.int .i64 0) (.int .i64 0) (.int .i64 0)) ∧ base ≤ N
  | _ => fun _ _ => True
theorem psiR_stable {t : Int} {T1 n b1 : Nat} {x y : Int} {L : List InV} {T : Ru.St} {q : Int} {base i : Nat} {z : Value} {w w' : World} (h : psiR t T1 n b1 x y L T q base i z w) (g : w.grownBy w' none) : psiR t T1 n b1 x y L T q base i z w' := by
  unfold psiR at h ⊢
  split at h
  · exact h
  · exact h
  · obtain ⟨T2, h1, h2⟩ := h; exact ⟨T2, h1, h2.grow g⟩
  · obtain ⟨T3, c, h1, h2⟩ := h; exact ⟨T3, c, h1, h2.grow g⟩
  · exact h
  · exact h
  · exact h
  · exact h
  · obtain ⟨r, h1, h2⟩ := h; exact ⟨r, h1, h2.kept g⟩
  · obtain ⟨r, h1, h2⟩ := h; exact ⟨r, h1, h2.kept g⟩
  · exact h.kept g
  · exact h
  · obtain ⟨N, h1, h2, h3⟩ := h; exact ⟨N, h1, rowIs_grown h2 g, h3⟩
  · trivial
end Go.Proofs.YtdklaeppcjopoaaGreatDoor

/- The page's own reckoning (package gantryref1), its small functions: contracts, by the same plain functions as package word's. -/
namespace Go.Proofs.YtdklaeppcjopoaaGreatDoor
open Go.RowKit
set_option linter.unusedVariables false

end Go.Proofs.YtdklaeppcjopoaaGreatDoor

/- The page's own reckoning of two words: contracts. -/
namespace Go.Proofs.YtdklaeppcjopoaaGreatDoor
open Go.RowKit
set_option linter.unusedVariables false

namespace Wd
end Wd

end Go.Proofs.YtdklaeppcjopoaaGreatDoor

/- The page's Un, Bin, Conv: contracts. -/
namespace Go.Proofs.YtdklaeppcjopoaaGreatDoor
open Go.RowKit
set_option linter.unusedVariables false

namespace Wd
end Wd

namespace Wd
end Wd

end Go.Proofs.YtdklaeppcjopoaaGreatDoor

/- The page's Bin, at every operation and kind; its Un; its Conv: contracts. -/
namespace Go.Proofs.YtdklaeppcjopoaaGreatDoor
open Go.RowKit
set_option linter.unusedVariables false

theorem is_canon {k x : Int} (h : Wd.isB k x = true) : Wd.canon k x = x := by simp [Wd.isB] at h; exact h.2
end Go.Proofs.YtdklaeppcjopoaaGreatDoor

/- The page's Bin, Un, Conv: the same functions as package word's. -/
namespace Go.Proofs.YtdklaeppcjopoaaGreatDoor
open Go.RowKit
set_option linter.unusedVariables false

end Go.Proofs.YtdklaeppcjopoaaGreatDoor

/- RunWords: an instruction of two words. -/
namespace Go.Proofs.YtdklaeppcjopoaaGreatDoor
open Go.RowKit
set_option linter.unusedVariables false

/-- an operation in a block of its own -/
structure O6R (W : World) (B : Nat) (v : O6) : Prop where
  p0 : W.cell? ⟨B, 0, none⟩ = some (.int .i64 v.op)
  p1 : W.cell? ⟨B, 1, none⟩ = some (.int .i64 v.k)
  p2 : W.cell? ⟨B, 2, none⟩ = some (.int .i64 v.tk)
  p3 : W.cell? ⟨B, 3, none⟩ = some (.int .u64 v.x)
  p4 : W.cell? ⟨B, 4, none⟩ = some (.int .u64 v.y)
  p5 : W.cell? ⟨B, 5, none⟩ = some (.int .i64 v.t)
theorem O6R.new (w : World) (v : O6) : O6R (w.alloc (Obj.cells #[.int .i64 v.op, .int .i64 v.k, .int .i64 v.tk, .int .u64 v.x, .int .u64 v.y, .int .i64 v.t] 25)) w.heap.size v := by
  constructor <;> simp
theorem O6R.kept {w w' : World} {B : Nat} {v : O6} (h : O6R w B v) (g : w.grownBy w' none) : O6R w' B v :=
  ⟨g.cell h.p0 (by simp), g.cell h.p1 (by simp), g.cell h.p2 (by simp), g.cell h.p3 (by simp), g.cell h.p4 (by simp), g.cell h.p5 (by simp)⟩
theorem below6 {w w' : World} (g : w.grownBy w' none) : Below w.heap.size w w' := (Below.refl _ _).grown g (Nat.le_refl _) (by simp)
/-- words lie apart from a row that holds none -/
theorem rw_apart6 {w : World} {ao : Option Addr} {n cap : Nat} {g : Nat → Int} {X k : Nat} {T : TypeId} {f : Nat → Value} (h : RwIn .u64 w ao n cap g) (r : w.rowIs X T k f) (hT : ∀ i z, f i ≠ .int .u64 z) {b off : Nat} (h0 : 0 < n) (e : ao = some ⟨b, off, none⟩) (hb : b = X) : False := by
  obtain ⟨b', off', e', hc⟩ := h.at h0
  rw [e] at e'
  injection e' with e'
  injection e' with e1 e2
  subst e1 e2
  have c0 := hc 0 h0
  rw [Nat.add_zero, hb] at c0
  by_cases hk : off < k
  · rw [r.cell hk] at c0
    exact hT _ _ (Option.some.inj c0)
  · obtain ⟨c, h1, h2, h3⟩ := r
    simp only [World.cell?, h1] at c0
    rw [Array.getElem?_eq_none (by omega)] at c0
    cases c0
theorem row5_no64' {a b : Option Addr} {n m p q : Nat} {x y t z : Int} (i : Nat) : row5 (.slice a n p) (.slice b m q) (.int .i64 x) (.int .i64 y) (.int .i64 t) i ≠ .int .u64 z := by
  unfold row5
  split <;> intro h <;> cases h
/-- a result in a block of its own -/
structure ResAt (T : Ru.St) (N : Nat) (ao : Option Addr) (cp : Nat) (C : Int) (w : World) : Prop where
  r : w.rowIs N 38 5 (row5 (.slice ao T.out.length cp) (.slice none 0 0) (.int .i64 (if T.e = 0 then 3 else T.e)) (.int .i64 T.n) (.int .i64 C))
  w : RwIn .u64 w ao T.out.length cp (fun i => T.out.getD i 0)
theorem res_put6 {T : Ru.St} {w1 W0 : World} {N cp : Nat} {C : Int} {ao : Option Addr} (hg : w1.grownBy W0 none) (hN : w1.heap.size ≤ N) (hr : W0.rowIs N 38 5 (row5 (.slice none 0 0) (.slice none 0 0) (.int .i64 0) (.int .i64 0) (.int .i64 0))) (hw : RwIn .u64 W0 ao T.out.length cp (fun i => T.out.getD i 0)) :
    ResAt T N ao cp C (put5 W0 N (.slice ao T.out.length cp) (.slice none 0 0) (.int .i64 (if T.e = 0 then 3 else T.e)) (.int .i64 T.n) (.int .i64 C)) ∧ w1.grownBy (put5 W0 N (.slice ao T.out.length cp) (.slice none 0 0) (.int .i64 (if T.e = 0 then 3 else T.e)) (.int .i64 T.n) (.int .i64 C)) none :=
  ⟨⟨row5_put hr _ _ _ _ _, hw.grow (grown_put5 _ _ _ _ _ _ _) (fun b off h0 e hh => rw_apart6 hw hr (fun i z => row5_no64' i) h0 e (by injection hh))⟩, grown_two hg (grown_put5 _ _ _ _ _ _ _) hN⟩
theorem outO_app {Ψ : Nat → Value → World → Prop} {i : Nat} {w w' : World} {o : Oper} {A : Act} (s x : Operand) (t : TypeId) (ho : o.op = .call { callee := .builtin .append, args := #[s, x], argTypes := #[t, t] }) {vs vx v' : Value} (hs : A.eval s = vs) (hx : A.eval x = vx) (er : (Builtin.append_ #[t, t] o.type #[vs, vx]).run Tryz.prog w = .ok v' w') (hg : w.grownBy w' none) (hv : Ψ i v' w') : outO Tryz.prog Ψ i w ((execOp A.eval o).run Tryz.prog w) := by
  unfold execOp
  simp only [ho, resolve, invoke, builtin, Sem.run_bind, Sem.run_pure, Result.andThen_ok, List.map_toArray, List.map_cons, List.map_nil, hs, hx, er]
  exact ⟨hg, hv⟩
theorem call_emit {t : Int} {T1 n b1 : Nat} {x y : Int} {L : List InV} {T : Ru.St} {q : Int} {base : Nat} {W : World} (hb : base ≤ W.heap.size) : Calls Tryz.prog 12 #[.int .i64 q] W fun e w' => ∃ z, e = .returned z ∧ W.grownBy w' none ∧ psiR t T1 n b1 x y L T q base 2 z w' :=
  (emit_any q W).mono fun e w' ⟨T2, h1, h2, h3⟩ => ⟨_, h1, h3, T2, rfl, World.ownsRow.mono h2 hb⟩
theorem call_ran {t : Int} {T1 n b1 : Nat} {x y : Int} {L : List InV} {q : Int} {base : Nat} {W : World} {T3 c : Nat} (ht : t = 1 ∨ t = 2) (hx : Ru.W64 x) (hy : Ru.W64 y) (hT : TabAt W) (hL : L.length ≤ 20) (hI : OwnI W base (.slice (some ⟨T3, 0, none⟩) L.length c) L) (hG : Ru.Good t L) :
    Calls Tryz.prog 11 #[.int .i64 t, .slice (some ⟨T3, 0, none⟩) L.length c, .int .u64 x, .int .u64 y] W fun e w' => ∃ z, e = .returned z ∧ W.grownBy w' none ∧ psiR t T1 n b1 x y L (Ru.it (Ru.pgI t L) 100 (Ru.pg0 x y)) q base 8 z w' :=
  (ran_any t ht base T3 L.length c L x y hx hy W hT rfl hL hI hG).mono fun e w' ⟨tr, h1, h2, h3⟩ => by
    obtain ⟨ao, cp, rfl, hr⟩ := h2.rw6
    exact ⟨_, h1, h3, _, rfl, ao, cp, _, rfl, hr⟩
end Go.Proofs.YtdklaeppcjopoaaGreatDoor

/- What the programs of RunMoves end with, by the plain machine. -/
namespace Go.Proofs.YtdklaeppcjopoaaGreatDoor
open Go.RowKit
set_option linter.unusedVariables false

namespace Mm
theorem canon_low5 {k : Int} (h : Wd.wordB k = true) (z : Int) : Wd.canon k (z % 256 ^ (Wd.by' k).toNat) = Wd.canon k z := by
  rcases Wd.kinds k with h | h | h | h | h | h | h | h | h | h | h | h'
  all_goals first
    | (subst h
       simp only [Wd.by', Wd.wid]
       simp only [Wd.canon1, Wd.canon2, Wd.canon3, Wd.canon4, Wd.canon5, Wd.canon6, Wd.canon7, Wd.canon8, Wd.canon9, Wd.canon10, Wd.canon11]
       simp
       try omega)
    | (exfalso; unfold Wd.wordB at h; simp at h; omega)
end Mm
namespace Ru
theorem exec_movi (I : Im) (a im : Int) (s : St) : exec I ⟨1, a, 0, 0, 0, 0, 0, im, 0⟩ s = s.put a (wr im) := by simp [exec]
theorem exec_movh (I : Im) (a im : Int) (s : St) : exec I ⟨2, a, 0, 0, 0, 0, 0, im, 0⟩ s = s.put a (s.reg a % 4294967296 + im % 4294967296 * 4294967296) := by simp [exec]
theorem exec_allo (I : Im) (a b : Int) (s : St) : exec I ⟨26, a, b, 0, 0, 0, 0, 0, 0⟩ s = s.alloc I a (s.reg b) := by simp [exec]
theorem exec_stor (I : Im) (a b k im : Int) (s : St) : exec I ⟨13, a, b, 0, k, 0, 0, im, 0⟩ s = s.lay I.S (s.adr ⟨13, a, b, 0, k, 0, 0, im, 0⟩) k (s.reg a) := by simp [exec]
theorem exec_load (I : Im) (a b k im : Int) (s : St) : exec I ⟨11, a, b, 0, k, 0, 0, im, 0⟩ s = s.set a (Mm.lV I.S s.m k (s.adr ⟨11, a, b, 0, k, 0, 0, im, 0⟩)) (Mm.lE I.S k (s.adr ⟨11, a, b, 0, k, 0, 0, im, 0⟩)) := by simp [exec]
def movesL (k : Int) : List InV := [⟨1, 2, 0, 0, 0, 0, 0, 64, 0⟩, ⟨26, 3, 2, 0, 0, 0, 0, 0, 0⟩, ⟨13, 0, 3, 0, k, 0, 0, 16, 0⟩, ⟨11, 4, 3, 0, k, 0, 0, 16, 0⟩, ⟨27, 4, 0, 0, 0, 0, 0, 0, 0⟩, ⟨28, 4, 0, 0, 0, 0, 0, 0, 0⟩]
theorem rngI (op a b c k sub im : Int) (h1 : -9223372036854775808 ≤ im) (h2 : im ≤ 9223372036854775807) : InRng ⟨op, a, b, c, k, sub, 0, im, 0⟩ := ⟨h1, h2, by dsimp only; decide, by dsimp only; decide⟩
theorem may_memR13 (k : Int) (h : Wd.wordB k = true) : Rc.mayB ⟨13, 0, 3, 0, k, 0, 0, 16, 0⟩ = true := by
  have hk : Rc.kindB ⟨13, 0, 3, 0, k, 0, 0, 16, 0⟩ = true := by
    unfold Rc.kindB
    simp [h]
  have hf : (Rc.hasS (Rc.fld 13) 75 || k == 0) = true := by
    have : Rc.hasS (Rc.fld 13) 75 = true := by decide
    rw [this]; rfl
  unfold Rc.mayB
  rw [hk]
  dsimp only
  rw [hf]
  decide
theorem may_memR11 (k : Int) (h : Wd.wordB k = true) : Rc.mayB ⟨11, 4, 3, 0, k, 0, 0, 16, 0⟩ = true := by
  have hk : Rc.kindB ⟨11, 4, 3, 0, k, 0, 0, 16, 0⟩ = true := by
    unfold Rc.kindB
    simp [h]
  have hf : (Rc.hasS (Rc.fld 11) 75 || k == 0) = true := by
    have : Rc.hasS (Rc.fld 11) 75 = true := by decide
    rw [this]; rfl
  unfold Rc.mayB
  rw [hk]
  dsimp only
  rw [hf]
  decide
theorem may_memC13 (k : Int) (h : Wd.wordB k = true) : Cc.mayB ⟨13, 0, 3, 0, k, 0, 0, 16, 0⟩ = true := by
  have hk : Cc.kindB ⟨13, 0, 3, 0, k, 0, 0, 16, 0⟩ = true := by
    unfold Cc.kindB
    simp [h]
  have hf : (Cc.usesB 13 75 || k == 0) = true := by
    have : Cc.usesB 13 75 = true := by decide
    rw [this]; rfl
  unfold Cc.mayB
  rw [hk]
  dsimp only
  rw [hf]
  decide
theorem may_memC11 (k : Int) (h : Wd.wordB k = true) : Cc.mayB ⟨11, 4, 3, 0, k, 0, 0, 16, 0⟩ = true := by
  have hk : Cc.kindB ⟨11, 4, 3, 0, k, 0, 0, 16, 0⟩ = true := by
    unfold Cc.kindB
    simp [h]
  have hf : (Cc.usesB 11 75 || k == 0) = true := by
    have : Cc.usesB 11 75 = true := by decide
    rw [this]; rfl
  unfold Cc.mayB
  rw [hk]
  dsimp only
  rw [hf]
  decide
theorem moves_good {t : Int} (ht : t = 1 ∨ t = 2) {k : Int} (h : Wd.wordB k = true) : Good t (movesL k) := by
  intro v hv
  unfold movesL at hv
  simp only [List.mem_cons, List.not_mem_nil, or_false] at hv
  rcases ht with rfl | rfl
  · unfold mayT
    rw [if_pos rfl]
    rcases hv with rfl | rfl | rfl | rfl | rfl | rfl
    · exact ⟨by decide, rngI _ _ _ _ _ _ _ (by decide) (by decide)⟩
    · exact ⟨by decide, rng0 _ _ _ _ _ _⟩
    · exact ⟨may_memR13 k h, rngI _ _ _ _ _ _ _ (by decide) (by decide)⟩
    · exact ⟨may_memR11 k h, rngI _ _ _ _ _ _ _ (by decide) (by decide)⟩
    · exact ⟨by decide, rng0 _ _ _ _ _ _⟩
    · exact ⟨by decide, rng0 _ _ _ _ _ _⟩
  · unfold mayT
    rw [if_neg (by decide)]
    rcases hv with rfl | rfl | rfl | rfl | rfl | rfl
    · exact ⟨by decide, rngI _ _ _ _ _ _ _ (by decide) (by decide)⟩
    · exact ⟨by decide, rng0 _ _ _ _ _ _⟩
    · exact ⟨may_memC13 k h, rngI _ _ _ _ _ _ _ (by decide) (by decide)⟩
    · exact ⟨may_memC11 k h, rngI _ _ _ _ _ _ _ (by decide) (by decide)⟩
    · exact ⟨by decide, rng0 _ _ _ _ _ _⟩
    · exact ⟨by decide, rng0 _ _ _ _ _ _⟩
theorem has_4112 {k : Int} (h : Wd.wordB k = true) : Mm.lE 16384 k 4112 = 0 := by
  unfold Mm.lE
  rw [if_pos h]
  rcases Mm.by_cases k with ⟨h1, _⟩ | ⟨_, h1 | h1 | h1 | h1⟩
  · rw [h] at h1; cases h1
  all_goals (rw [h1]; rfl)
theorem moves_end {t : Int} (ht : t = 1 ∨ t = 2) {k : Int} (x y : Int) (h : Wd.wordB k = true) : Ends (it (pgI t (movesL k)) 100 (pg0 x y)) (Wd.canon k x) := by
  have hG := moves_good ht h
  obtain ⟨L, hL⟩ : ∃ L : List InV, L = movesL k := ⟨_, rfl⟩
  rw [← hL] at hG ⊢
  have l0 : L[0]? = some ⟨1, 2, 0, 0, 0, 0, 0, 64, 0⟩ := by rw [hL]; rfl
  have l1 : L[1]? = some ⟨26, 3, 2, 0, 0, 0, 0, 0, 0⟩ := by rw [hL]; rfl
  have l2 : L[2]? = some ⟨13, 0, 3, 0, k, 0, 0, 16, 0⟩ := by rw [hL]; rfl
  have l3 : L[3]? = some ⟨11, 4, 3, 0, k, 0, 0, 16, 0⟩ := by rw [hL]; rfl
  have l4 : L[4]? = some ⟨27, 4, 0, 0, 0, 0, 0, 0, 0⟩ := by rw [hL]; rfl
  have l5 : L[5]? = some ⟨28, 4, 0, 0, 0, 0, 0, 0, 0⟩ := by rw [hL]; rfl
  have hE := has_4112 h
  have P0 := Pt.zero ht (L := L) (by rw [hL]; exact (by decide : (6 : Nat) ≤ 20)) hG x y
  have P1 := P0.on l0 (fun s => s.put 2 64) (exec_movi _ _ _ _) (fun s e o => ⟨e, o, rfl⟩)
  obtain ⟨s1, hs1⟩ : ∃ s1, s1 = ((pg0 x y).to ((codeT t (L.take (0 + 1))).length : Int)).put 2 64 := ⟨_, rfl⟩
  have r2 : s1.reg 2 = 64 := by rw [hs1]; rfl
  have h4 : s1.hp = 4096 := by rw [hs1]; rfl
  have r0 : s1.reg 0 = x := by rw [hs1]; rfl
  have P1 : Pt t L (pg0 x y) (0 + 1) s1 := by rw [hs1]; exact P1
  clear hs1 P0
  have P2 := P1.on l1 (fun s => { s.put 3 4096 with hp := 4160 }) (by
    rw [exec_allo]
    have e1 : (s1.to ((codeT t (L.take (0 + 1 + 1))).length : Int)).reg 2 = 64 := r2
    have e2 : (s1.to ((codeT t (L.take (0 + 1 + 1))).length : Int)).hp = 4096 := h4
    rw [e1]
    unfold St.alloc
    rw [e2, if_neg (by decide), if_neg (by show ¬ ((16384 : Nat) : Int) - 4096 < 4096 + (if up 64 = 0 then 8 else up 64); decide)]
    rfl) (fun s e o => ⟨e, o, rfl⟩)
  obtain ⟨s2, hs2⟩ : ∃ s2, s2 = (fun s : St => ({ s.put 3 4096 with hp := 4160 } : St)) (s1.to ((codeT t (L.take (0 + 1 + 1))).length : Int)) := ⟨_, rfl⟩
  have q3 : s2.reg 3 = 4096 := by rw [hs2]; rfl
  have q0 : s2.reg 0 = x := by rw [hs2]; exact r0
  have P2 : Pt t L (pg0 x y) (0 + 1 + 1) s2 := by rw [hs2]; exact P2
  clear hs2 P1
  have P3 := P2.on l2 (fun s => { s with m := Mm.pt s.m 4112 (Wd.by' k).toNat (Mm.by8 (Wd.canon k x)) }) (by
    rw [exec_stor]
    have e1 : (s2.to ((codeT t (L.take (0 + 1 + 1 + 1))).length : Int)).reg 3 = 4096 := q3
    have e2 : (s2.to ((codeT t (L.take (0 + 1 + 1 + 1))).length : Int)).reg 0 = x := q0
    have ea : (s2.to ((codeT t (L.take (0 + 1 + 1 + 1))).length : Int)).adr ⟨13, 0, 3, 0, k, 0, 0, 16, 0⟩ = 4112 := by
      unfold St.adr
      dsimp only
      rw [e1]
      unfold wr
      omega
    rw [ea, e2]
    unfold St.lay
    rw [if_pos (show Mm.lE (pgI t L).S k 4112 = 0 from hE)]
    rfl) (fun s e o => ⟨e, o, rfl⟩)
  obtain ⟨s3, hs3⟩ : ∃ s3, s3 = (fun s : St => ({ s with m := Mm.pt s.m 4112 (Wd.by' k).toNat (Mm.by8 (Wd.canon k x)) } : St)) (s2.to ((codeT t (L.take (0 + 1 + 1 + 1))).length : Int)) := ⟨_, rfl⟩
  have q3 : s3.reg 3 = 4096 := by rw [hs3]; exact q3
  have hm3 : Mm.lV 16384 s3.m k 4112 = Wd.canon k x := by
    unfold Mm.lV
    have hc : (Wd.wordB k && Mm.hasB 16384 4112 (Wd.by' k)) = true := by
      unfold Mm.lE at hE
      rw [if_pos h] at hE
      cases hb : Mm.hasB 16384 4112 (Wd.by' k)
      · rw [hb] at hE; exact absurd hE (by decide)
      · rw [h]; rfl
    rw [if_pos hc, hs3]
    show Wd.canon k (Mm.ld (Mm.pt _ 4112 (Wd.by' k).toNat (Mm.by8 (Wd.canon k x))) 4112 (Wd.by' k).toNat) = _
    rw [Mm.ld_pt_same, Mm.canon_low5 h, Wd.canon_canon]
  have P3 : Pt t L (pg0 x y) (0 + 1 + 1 + 1) s3 := by rw [hs3]; exact P3
  clear hs3 P2
  have P4 := P3.on l3 (fun s => s.put 4 (Wd.canon k x)) (by
    rw [exec_load]
    have e1 : (s3.to ((codeT t (L.take (0 + 1 + 1 + 1 + 1))).length : Int)).reg 3 = 4096 := q3
    have ea : (s3.to ((codeT t (L.take (0 + 1 + 1 + 1 + 1))).length : Int)).adr ⟨11, 4, 3, 0, k, 0, 0, 16, 0⟩ = 4112 := by
      unfold St.adr
      dsimp only
      rw [e1]
      unfold wr
      omega
    rw [ea, set_ok _ _ _ _ (show Mm.lE (pgI t L).S k 4112 = 0 from hE)]
    show St.put _ 4 (Mm.lV 16384 s3.m k 4112) = _
    rw [hm3]) (fun s e o => ⟨e, o, rfl⟩)
  exact P4.ends l4 l5
/-- constants of any bits -/
def bigL (t i1 i2 : Int) : List InV := if t = 1 then [⟨1, 4, 0, 0, 0, 0, 0, i1, 0⟩, ⟨2, 4, 0, 0, 0, 0, 0, i2, 0⟩, ⟨27, 4, 0, 0, 0, 0, 0, 0, 0⟩, ⟨28, 4, 0, 0, 0, 0, 0, 0, 0⟩] else [⟨1, 4, 0, 0, 0, 0, 0, i1, 0⟩, ⟨27, 4, 0, 0, 0, 0, 0, 0, 0⟩, ⟨28, 4, 0, 0, 0, 0, 0, 0, 0⟩]
theorem may_mvR1 (im : Int) (h1 : -2147483648 ≤ im) (h2 : im < 2147483648) : Rc.mayB ⟨1, 4, 0, 0, 0, 0, 0, im, 0⟩ = true := by
  have hs : Rc.smallB im = true := by unfold Rc.smallB; rw [decide_eq_true h1, decide_eq_true h2]; rfl
  have hk : Rc.kindB ⟨1, 4, 0, 0, 0, 0, 0, im, 0⟩ = true := by
    unfold Rc.kindB
    simp
  have hf : (Rc.hasS (Rc.fld 1) 73 || im == 0) = true := by
    have : Rc.hasS (Rc.fld 1) 73 = true := by decide
    rw [this]; rfl
  unfold Rc.mayB
  rw [hk]
  dsimp only
  rw [hf, hs]
  decide
theorem may_mvR2 (im : Int) (h1 : -2147483648 ≤ im) (h2 : im < 2147483648) : Rc.mayB ⟨2, 4, 0, 0, 0, 0, 0, im, 0⟩ = true := by
  have hs : Rc.smallB im = true := by unfold Rc.smallB; rw [decide_eq_true h1, decide_eq_true h2]; rfl
  have hk : Rc.kindB ⟨2, 4, 0, 0, 0, 0, 0, im, 0⟩ = true := by
    unfold Rc.kindB
    simp
  have hf : (Rc.hasS (Rc.fld 2) 73 || im == 0) = true := by
    have : Rc.hasS (Rc.fld 2) 73 = true := by decide
    rw [this]; rfl
  unfold Rc.mayB
  rw [hk]
  dsimp only
  rw [hf, hs]
  decide
theorem may_mvC1 (im : Int) : Cc.mayB ⟨1, 4, 0, 0, 0, 0, 0, im, 0⟩ = true := by
  have hs : (((1 : Int) == 1) || Rc.smallB im) = true := rfl
  have hk : Cc.kindB ⟨1, 4, 0, 0, 0, 0, 0, im, 0⟩ = true := by
    unfold Cc.kindB
    simp
  have hf : (Cc.usesB 1 73 || im == 0) = true := by
    have : Cc.usesB 1 73 = true := by decide
    rw [this]; rfl
  unfold Cc.mayB
  rw [hk]
  dsimp only
  rw [hf, hs]
  decide
theorem big_goodR {i1 i2 : Int} (a1 : -2147483648 ≤ i1) (a2 : i1 < 2147483648) (b1 : -2147483648 ≤ i2) (b2 : i2 < 2147483648) : Good 1 (bigL 1 i1 i2) := by
  intro v hv
  unfold bigL at hv
  rw [if_pos rfl] at hv
  simp only [List.mem_cons, List.not_mem_nil, or_false] at hv
  unfold mayT
  rw [if_pos rfl]
  rcases hv with rfl | rfl | rfl | rfl
  · exact ⟨may_mvR1 _ a1 a2, rngI _ _ _ _ _ _ _ (by omega) (by omega)⟩
  · exact ⟨may_mvR2 _ b1 b2, rngI _ _ _ _ _ _ _ (by omega) (by omega)⟩
  · exact ⟨by decide, rng0 _ _ _ _ _ _⟩
  · exact ⟨by decide, rng0 _ _ _ _ _ _⟩
theorem big_goodC {i1 : Int} (a1 : -9223372036854775808 ≤ i1) (a2 : i1 ≤ 9223372036854775807) (i2 : Int) : Good 2 (bigL 2 i1 i2) := by
  intro v hv
  unfold bigL at hv
  rw [if_neg (by decide)] at hv
  simp only [List.mem_cons, List.not_mem_nil, or_false] at hv
  unfold mayT
  rw [if_neg (by decide)]
  rcases hv with rfl | rfl | rfl
  · exact ⟨may_mvC1 _, rngI _ _ _ _ _ _ _ a1 a2⟩
  · exact ⟨by decide, rng0 _ _ _ _ _ _⟩
  · exact ⟨by decide, rng0 _ _ _ _ _ _⟩
theorem big_endR {i1 i2 : Int} (a1 : -2147483648 ≤ i1) (a2 : i1 < 2147483648) (b1 : -2147483648 ≤ i2) (b2 : i2 < 2147483648) (x y : Int) : Ends (it (pgI 1 (bigL 1 i1 i2)) 100 (pg0 x y)) (wr i1 % 4294967296 + i2 % 4294967296 * 4294967296) := by
  have hG := big_goodR a1 a2 b1 b2
  obtain ⟨L, hL⟩ : ∃ L : List InV, L = bigL 1 i1 i2 := ⟨_, rfl⟩
  rw [← hL] at hG ⊢
  have l0 : L[0]? = some ⟨1, 4, 0, 0, 0, 0, 0, i1, 0⟩ := by rw [hL]; rfl
  have l1 : L[1]? = some ⟨2, 4, 0, 0, 0, 0, 0, i2, 0⟩ := by rw [hL]; rfl
  have l2 : L[2]? = some ⟨27, 4, 0, 0, 0, 0, 0, 0, 0⟩ := by rw [hL]; rfl
  have l3 : L[3]? = some ⟨28, 4, 0, 0, 0, 0, 0, 0, 0⟩ := by rw [hL]; rfl
  have P0 := Pt.zero (.inl rfl) (L := L) (by rw [hL]; exact (by decide : (4 : Nat) ≤ 20)) hG x y
  have P1 := P0.on l0 (fun s => s.put 4 (wr i1)) (exec_movi _ _ _ _) (fun s e o => ⟨e, o, rfl⟩)
  have P2 := P1.on l1 (fun s => s.put 4 (s.reg 4 % 4294967296 + i2 % 4294967296 * 4294967296)) (exec_movh _ _ _ _) (fun s e o => ⟨e, o, rfl⟩)
  exact P2.ends l2 l3
theorem big_endC {i1 : Int} (a1 : -9223372036854775808 ≤ i1) (a2 : i1 ≤ 9223372036854775807) (i2 x y : Int) : Ends (it (pgI 2 (bigL 2 i1 i2)) 100 (pg0 x y)) (wr i1) := by
  have hG := big_goodC a1 a2 i2
  obtain ⟨L, hL⟩ : ∃ L : List InV, L = bigL 2 i1 i2 := ⟨_, rfl⟩
  rw [← hL] at hG ⊢
  have l0 : L[0]? = some ⟨1, 4, 0, 0, 0, 0, 0, i1, 0⟩ := by rw [hL]; rfl
  have l2 : L[1]? = some ⟨27, 4, 0, 0, 0, 0, 0, 0, 0⟩ := by rw [hL]; rfl
  have l3 : L[2]? = some ⟨28, 4, 0, 0, 0, 0, 0, 0, 0⟩ := by rw [hL]; rfl
  have P0 := Pt.zero (.inr rfl) (L := L) (by rw [hL]; exact (by decide : (3 : Nat) ≤ 20)) hG x y
  have P1 := P0.on l0 (fun s => s.put 4 (wr i1)) (exec_movi _ _ _ _) (fun s e o => ⟨e, o, rfl⟩)
  exact P1.ends l2 l3
end Ru
end Go.Proofs.YtdklaeppcjopoaaGreatDoor
