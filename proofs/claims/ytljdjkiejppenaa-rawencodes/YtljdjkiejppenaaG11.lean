/- Contracts and plain facts that the walks share. -/
import Derived.Test.YtljdjkiejppenaaG6
import Derived.Test.YtljdjkiejppenaaG7
import Derived.Test.YtljdjkiejppenaaRuRel
import Derived.Test.YtljdjkiejppenaaG3
import Derived.Laws.BitsAllLaws
namespace Go.Proofs.Ytljdjkiejppenaa
open Go.RowKit
set_option linter.unusedVariables false
/-- no row of bytes -/
def Kb : Obj → Prop
  | .cells _ t _ => t ≠ 5
  | _ => True
/-- only rows of bytes from base on are turned, and of these none whose bytes are a beginning of T -/
structure Rb (base : Nat) (T : List Int) (w w' : World) : Prop where
  os : w'.os = w.os
  tape : w'.tape = w.tape
  output : w'.output = w.output
  size : w.heap.size ≤ w'.heap.size
  block : ∀ k o, w.heap[k]? = some o → (k < base ∨ Kb o) → w'.heap[k]? = some o
  own : ∀ v l, l <+: T → OwnL w base v l → OwnL w' base v l
theorem Rb.refl (base : Nat) (T : List Int) (w : World) : Rb base T w w := ⟨rfl, rfl, rfl, Nat.le_refl _, fun _ _ h _ => h, fun _ _ _ h => h⟩
theorem Rb.trans {base : Nat} {T : List Int} {w w1 w2 : World} (h1 : Rb base T w w1) (h2 : Rb base T w1 w2) : Rb base T w w2 :=
  ⟨h2.os.trans h1.os, h2.tape.trans h1.tape, h2.output.trans h1.output, Nat.le_trans h1.size h2.size, fun k o h hk => h2.block k o (h1.block k o h hk) hk, fun v l hl h => h2.own v l hl (h1.own v l hl h)⟩
theorem Rb.of {base : Nat} {T : List Int} {w w' : World} (g : w.grownBy w' none) : Rb base T w w' := ⟨g.os, g.tape, g.output, g.size, fun k o h _ => by
  have hk : k < w.heap.size := (Array.getElem?_eq_some_iff.1 h).1
  rw [g.block k hk (by simp)]
  exact h, fun v l _ h => h.kept g (Classical.em _)⟩
theorem Rb.ch {base : Nat} {T : List Int} {w w' : World} (h : Rb base T w w') : Ch w w' (List.range' base (w.heap.size - base)) :=
  ⟨h.os, h.tape, h.output, h.size, fun k hk hn => by
    have hb : k < base := by
      rw [List.mem_range'_1] at hn
      omega
    obtain ⟨o, ho⟩ : ∃ o, w.heap[k]? = some o := ⟨_, Array.getElem?_eq_getElem hk⟩
    rw [ho]
    exact h.block k o ho (.inl hb)⟩
theorem not_rangeB {base n k : Nat} (h : k < base) : k ∉ List.range' base n := by
  rw [List.mem_range'_1]
  omega
theorem Rb.below {base : Nat} {T : List Int} {w w' : World} (h : Rb base T w w') (hb : base = w.heap.size) : w.grownBy w' none :=
  ⟨h.os, h.tape, h.output, h.size, fun k hk _ => by
    obtain ⟨o, ho⟩ : ∃ o, w.heap[k]? = some o := ⟨_, Array.getElem?_eq_getElem hk⟩
    rw [ho]
    exact h.block k o ho (.inl (by omega))⟩
theorem cell_heapB {w : World} {B : Nat} {c : Array Value} {t : TypeId} {fr : Nat × Nat} (h : w.heap[B]? = some (.cells c t fr)) (i : Nat) : w.cell? ⟨B, i, none⟩ = c[i]? := by simp [World.cell?, h]
theorem Rb.cell {base : Nat} {T : List Int} {w w' : World} (hk : Rb base T w w') {B : Nat} {c : Array Value} {t : TypeId} {fr : Nat × Nat} (h : w.heap[B]? = some (.cells c t fr)) (ht : Kb (.cells c t fr)) (i : Nat) : w'.cell? ⟨B, i, none⟩ = c[i]? := cell_heapB (hk.block B _ h (.inr ht)) i
theorem Rb.low {base : Nat} {T : List Int} {w w' : World} (hk : Rb base T w w') {b o : Nat} {v : Value} (h : w.cell? ⟨b, o, none⟩ = some v) (hb : b < base) : w'.cell? ⟨b, o, none⟩ = some v := hk.ch.cell h (not_rangeB hb)
/-- how an append may come out -/
def AppOut (w : World) (v : Value) (l m : List Int) (v' : Value) (w' : World) : Prop :=
  (v = .slice none 0 0 ∧ m = [] ∧ v' = v ∧ w' = w) ∨
  (∃ (cap : Nat) (Z : Array Value), l.length + m.length ≤ cap ∧ cap ≤ maxLen ∧ l.length + m.length + Z.size = cap ∧ v' = .slice (some ⟨w.heap.size, 0, none⟩) (l.length + m.length) cap ∧ w' = w.drew.alloc (.cells ((l.map (Value.int .u8)).toArray ++ (m.map (Value.int .u8)).toArray ++ Z) 5)) ∨
  (∃ (g cap : Nat) (cur : Array Value), v = .slice (some ⟨g, 0, none⟩) l.length cap ∧ w.heap[g]? = some (.cells cur 5 (0, 0)) ∧ cap ≤ maxLen ∧ cur.size = cap ∧ cur.toList.take l.length = l.map (Value.int .u8) ∧ l.length + m.length ≤ cap ∧ v' = .slice (some ⟨g, 0, none⟩) (l.length + m.length) cap ∧ w' = w.setRow g (cur.toList.take l.length ++ m.map (Value.int .u8) ++ cur.toList.drop (l.length + m.length)).toArray)
theorem take_of_prefix {A B T : List Int} (h1 : A <+: T) (h2 : B <+: T) (h : A.length ≤ B.length) : A = B.take A.length := by
  obtain ⟨a, rfl⟩ := h1
  obtain ⟨b, hb⟩ := h2
  have : (B ++ b).take A.length = (A ++ a).take A.length := by rw [hb]
  rw [List.take_append_of_le_length h, List.take_append_of_le_length (Nat.le_refl _), List.take_length] at this
  exact this.symm
theorem AppOut.own {base : Nat} {w w' : World} {v v' : Value} {l m : List Int} (h : AppOut w v l m v' w') (hown : OwnL w base v l) (hb : base ≤ w.heap.size) : OwnL w' base v' (l ++ m) ∧ ∀ T, l ++ m <+: T → Rb base T w w' := by
  rcases h with ⟨rfl, rfl, rfl, rfl⟩ | ⟨cap, Z, h1, h2, h3, rfl, rfl⟩ | ⟨g, cap, cur, rfl, hg, hcm, hcs, ht, hroom, rfl, rfl⟩
  · exact ⟨by rw [List.append_nil]; exact hown, fun T _ => Rb.refl _ _ _⟩
  · have hgr : w.grownBy (w.drew.alloc (.cells ((l.map (Value.int .u8)).toArray ++ (m.map (Value.int .u8)).toArray ++ Z) 5)) none := grown_trans (grown_drew (World.grownBy.refl _ none)) (World.grownBy_alloc _ _ _)
    refine ⟨?_, fun T _ => Rb.of hgr⟩
    refine ⟨by simp, .inr ⟨w.heap.size, cap, _, by rw [List.length_append], hb, heap_alloc_new w.drew _, by rw [List.length_append]; exact h1, h2, ?_, ?_⟩⟩
    · simp only [Array.size_append, List.size_toArray, List.length_map]; omega
    · simp only [Array.toList_append, Nat.mul_one, List.map_append]
      rw [show (l ++ m).length = (l.map (Value.int .u8) ++ m.map (Value.int .u8)).length from by simp]
      exact List.take_left
  · have hlen : l.length ≤ cur.toList.length := by
      have : (cur.toList.take l.length).length = l.length := by rw [ht]; simp
      rw [List.length_take] at this
      omega
    have hbg : base ≤ g := by
      have := (World.ownsRow.lt hown g rfl).1
      exact this
    have hcl : cur.toList.length = cap := by simpa using hcs
    refine ⟨⟨by simp, .inr ⟨g, cap, _, by rw [List.length_append], hbg, setRow_heap w g cur _ _ _ hg, by rw [List.length_append]; exact hroom, hcm, ?_, ?_⟩⟩, fun T hT => ⟨rfl, rfl, rfl, by simp, fun k o hk hko => ?_, fun v2 l2 h2 ho2 => ?_⟩⟩
    · simp only [List.size_toArray, List.length_append, List.length_take, List.length_drop, List.length_map]
      omega
    · rw [ht, List.map_append, Nat.mul_one]
      rw [show (l ++ m).length = (l.map (Value.int .u8) ++ m.map (Value.int .u8)).length from by simp]
      exact List.take_left
    · by_cases e : k = g
      · subst e
        rw [hg] at hk
        injection hk with hk
        subst hk
        rcases hko with h | h
        · omega
        · exact absurd rfl h
      · rw [setRow_other w g k _ e]
        exact hk
    · rcases ho2.2 with ⟨rfl, h0⟩ | ⟨g2, cap2, cur2, rfl, hb2, hg2, hn2, hc2, hs2, ht2⟩
      · exact ⟨ho2.1, .inl ⟨rfl, h0⟩⟩
      · by_cases e : g2 = g
        · subst e
          rw [hg] at hg2
          injection hg2 with hg2
          injection hg2 with hg2
          subst hg2
          refine ⟨ho2.1, .inr ⟨g2, cap2, _, rfl, hb2, setRow_heap w g2 cur _ _ _ hg, hn2, hc2, ?_, ?_⟩⟩
          · simp only [List.size_toArray, List.length_append, List.length_take, List.length_drop, List.length_map]
            omega
          · rw [Nat.mul_one] at ht2 ⊢
            rw [ht]
            by_cases hle : l2.length ≤ l.length + m.length
            · have e2 : l2 = (l ++ m).take l2.length := take_of_prefix h2 hT (by rw [List.length_append]; exact hle)
              rw [List.take_append_of_le_length (by simp; omega), ← List.map_append, ← List.map_take, ← e2]
            · have e2 : l ++ m = l2.take (l ++ m).length := take_of_prefix hT h2 (by rw [List.length_append]; omega)
              have e3 : (l.map (Value.int .u8) ++ m.map (Value.int .u8)) = cur.toList.take (l.length + m.length) := by
                rw [← List.map_append, e2, List.map_take, ← ht2, List.take_take, List.length_append, Nat.min_eq_left (by omega)]
              rw [e3, List.take_append_drop]
              exact ht2
        · exact ⟨ho2.1, .inr ⟨g2, cap2, cur2, rfl, hb2, by rw [setRow_other w g g2 _ e]; exact hg2, hn2, hc2, hs2, ht2⟩⟩
theorem map_u8 (m : List Int) : ∀ u ∈ m.map (Value.int .u8), u.oneCell' = true := by intro u hu; obtain ⟨z, _, rfl⟩ := List.mem_map.mp hu; rfl
/-- an append of bytes that lie in a row -/
theorem run_app_row {w : World} {base : Nat} {v : Value} {l : List Int} (hown : OwnL w base v l) {g c : Nat} {m : List Int} (hm : ∀ (j : Nat) (z : Int), m[j]? = some z → w.cell? ⟨g, j, none⟩ = some (.int .u8 z)) (hl : l.length + m.length ≤ 1000000000) (ty : TypeId) :
    ∃ v' w', (Builtin.append_ #[29, 29] ty #[v, .slice (some ⟨g, 0, none⟩) m.length c]).run Try.prog w = .ok v' w' ∧ AppOut w v l m v' w' := by
  obtain ⟨i, hi, hz0, hz1, hz2⟩ := info_parts info_u8
  have hnews : ∀ j u, (m.map (Value.int .u8))[j]? = some u → w.cell? ((⟨g, 0, none⟩ : Addr).add j) = some u := fun j u hj => by
    rw [List.getElem?_map] at hj
    obtain ⟨z, hz, rfl⟩ := Option.map_eq_some_iff.1 hj
    rw [show ((⟨g, 0, none⟩ : Addr).add j) = ⟨g, 0 + j, none⟩ from by simp [Addr.add]; exact fun h => h.symm, Nat.zero_add]
    exact hm j z hz
  have hZ : ∀ (n : Nat), (Builtin.zeroCells (Value.int .u8 0).cells n).size = n := fun n => by rw [size_zeroCells]; simp [Value.cells]
  rcases hown.2 with ⟨rfl, h0⟩ | ⟨q, cap, cur, rfl, hbq, hq, hnc, hcm, hcs, ht⟩
  · have hl0 : l = [] := List.length_eq_zero_iff.1 h0
    subst hl0
    by_cases hm0 : m = []
    · subst hm0
      refine ⟨.slice none 0 0, w, ?_, .inl ⟨rfl, rfl, rfl, rfl⟩⟩
      simp [Builtin.append_, run_underlying (P := Try.prog) Try.underlying29, sizeOf, typeInfo, hi, Builtin.lenOf, Builtin.firstCells, loadCells, loadCellsFrom]
    · have hm1 : 0 < m.length := List.length_pos_iff.2 hm0
      have hr := run_append_nil (P := Try.prog) w 29 ty 5 i (.int .u8 0) Try.underlying29 hi hz0 ⟨g, 0, none⟩ m.length c (m.map (Value.int .u8)) (by rw [hz1]; simp) hnews hm1 (by omega) (by rw [hz2]; omega)
      refine ⟨_, _, hr, .inr (.inl ⟨grownCap w m.length 0 5, Builtin.zeroCells (Value.int .u8 0).cells (grownCap w m.length 0 5 - m.length), ?_, grownCap_le_maxLen w _ _ _ (by unfold maxLen; omega), ?_, ?_, ?_⟩)⟩
      · have := grownCap_ge w m.length 0 5; simpa using this
      · rw [hZ]; have := grownCap_ge w m.length 0 5; simp; omega
      · simp
      · simp
  · rw [Nat.mul_one] at ht
    by_cases hroom : l.length + m.length ≤ cap
    · have hr := run_append_room (P := Try.prog) w 29 ty 5 i Try.underlying29 hi q l.length cap cur hq ⟨g, 0, none⟩ m.length c (m.map (Value.int .u8)) (by rw [hz1]; simp) hnews (map_u8 m) hroom (by rw [hz1]; simp; omega)
      rw [hz1] at hr
      simp only [Nat.mul_one, List.length_map] at hr
      exact ⟨_, _, hr, .inr (.inr ⟨q, cap, cur, rfl, hq, hcm, by omega, ht, hroom, rfl, rfl⟩)⟩
    · have hr := run_append_grow (P := Try.prog) w 29 ty 5 i (.int .u8 0) Try.underlying29 hi hz0 ⟨q, 0, none⟩ l.length cap (l.map (Value.int .u8)) (by rw [hz1]; simp) (World.ownsRow.cells hown (g := q) rfl) ⟨g, 0, none⟩ m.length c (m.map (Value.int .u8)) (by rw [hz1]; simp) hnews (by omega) (by omega) (growslice_fits (by omega) (by rw [hz2]; omega))
      refine ⟨_, _, hr, .inr (.inl ⟨_, Builtin.zeroCells (Value.int .u8 0).cells (grownCap w (l.length + m.length) cap 5 - (l.length + m.length)), grownCap_ge _ _ _ _, grownCap_le_maxLen w _ _ _ (by unfold maxLen; omega), ?_, rfl, rfl⟩)⟩
      rw [hZ]
      have := grownCap_ge w (l.length + m.length) cap 5
      omega
/-- an append of a text's bytes -/
theorem run_app_str {w : World} {base : Nat} {v : Value} {l : List Int} (hown : OwnL w base v l) {s : ByteArray} (hl : l.length + s.size ≤ 1000000000) (ty : TypeId) :
    ∃ v' w', (Builtin.append_ #[29, 9] ty #[v, .string s]).run Try.prog w = .ok v' w' ∧ AppOut w v l (Pg.txt s) v' w' := by
  obtain ⟨i, hi, hz0, hz1, hz2⟩ := info_parts info_u8
  have hu : Try.prog.underlying 9 = some .string := by kernel_rfl
  have hZ : ∀ (n : Nat), (Builtin.zeroCells (Value.int .u8 0).cells n).size = n := fun n => by rw [size_zeroCells]; simp [Value.cells]
  have hx : (s.extract 0 s.size).data.map (fun b : UInt8 => Value.int IntKind.u8 (b.toNat : Int)) = ((Pg.txt s).map (Value.int .u8)).toArray := by
    have : s.extract 0 s.size = s := by simp
    rw [this]
    apply Array.ext'
    simp [Pg.txt]
  have hxl : (Pg.txt s).length = s.size := Pg.txt_len s
  have hf : ∀ W : World, (Builtin.firstCells 1 s.size (.string s)).run Try.prog W = .ok ((Pg.txt s).map (Value.int .u8)).toArray W := fun W => by simp only [Builtin.firstCells, Sem.run_pure, hx]
  rcases hown.2 with ⟨rfl, h0⟩ | ⟨q, cap, cur, rfl, hbq, hq, hnc, hcm, hcs, ht⟩
  · have hl0 : l = [] := List.length_eq_zero_iff.1 h0
    subst hl0
    by_cases hs0 : s.size = 0
    · refine ⟨.slice none 0 0, w, ?_, .inl ⟨rfl, List.length_eq_zero_iff.1 (by omega), rfl, rfl⟩⟩
      simp [Builtin.append_, run_underlying (P := Try.prog) Try.underlying29, run_underlying hu, sizeOf, typeInfo, hi, Builtin.lenOf, hs0, Builtin.firstCells]
    · have hr := run_append_nil_string (P := Try.prog) w 29 9 ty 5 i (.int .u8 0) Try.underlying29 hu hi hz0 s (by omega) (by omega) (by rw [hz2]; simp at hl; omega)
      refine ⟨_, _, hr, .inr (.inl ⟨grownCap w s.size 0 5, Builtin.zeroCells (Value.int .u8 0).cells (grownCap w s.size 0 5 - s.size), ?_, grownCap_le_maxLen w _ _ _ (by unfold maxLen; simp at hl; omega), ?_, ?_, ?_⟩)⟩
      · have := grownCap_ge w s.size 0 5; simp [hxl]; exact this
      · rw [hZ]; have := grownCap_ge w s.size 0 5; simp [hxl]; omega
      · simp [hxl]
      · refine congrArg (fun c => w.drew.alloc (.cells c 5)) ?_
        apply Array.ext'
        simp [Pg.txt]
  · rw [Nat.mul_one] at ht
    by_cases hroom : l.length + s.size ≤ cap
    · have hst := run_storeCells_at Try.prog q l.length 5 ((Pg.txt s).map (Value.int .u8)) 0 cur w hq (by simp [hxl]; omega) (map_u8 _)
      simp only [Nat.add_zero] at hst
      refine ⟨.slice (some ⟨q, 0, none⟩) (l.length + s.size) cap, w.setRow q (cur.toList.take l.length ++ (Pg.txt s).map (Value.int .u8) ++ cur.toList.drop (l.length + s.size)).toArray, ?_, .inr (.inr ⟨q, cap, cur, rfl, hq, hcm, by omega, ht, by rw [hxl]; exact hroom, by rw [hxl], by rw [hxl]⟩)⟩
      have hst2 := hst
      simp only [List.length_map, hxl] at hst2
      simp [Builtin.append_, run_underlying (P := Try.prog) Try.underlying29, run_underlying hu, sizeOf, typeInfo, hi, hz1, Builtin.lenOf, hroom, hf, Addr.add_lit, hst2]
    · have hne : ¬ (l.length + s.size ≤ cap) := hroom
      have h63' : ¬ (9223372036854775807 < ((l.length : Int) + (s.size : Int))) := by omega
      have h48' : ¬ (281474976710656 < Builtin.nextslicecap (l.length + s.size) cap * i.bytes) := by
        have := growslice_fits (need := l.length + s.size) (old := cap) (bytes := i.bytes) (by omega) (by rw [hz2]; omega)
        omega
      have hfo := run_firstCells_some (P := Try.prog) w.drew i.size l.length ⟨q, 0, none⟩ l.length cap (l.map (Value.int .u8)) (by rw [hz1]; simp) (by simpa using World.ownsRow.cells hown (g := q) rfl)
      refine ⟨.slice (some ⟨w.heap.size, 0, none⟩) (l.length + s.size) (grownCap w (l.length + s.size) cap 5), w.drew.alloc (.cells ((l.map (Value.int .u8)).toArray ++ ((Pg.txt s).map (Value.int .u8)).toArray ++ Builtin.zeroCells (Value.int .u8 0).cells (grownCap w (l.length + s.size) cap 5 - (l.length + s.size))) 5), ?_, .inr (.inl ⟨grownCap w (l.length + s.size) cap 5, Builtin.zeroCells (Value.int .u8 0).cells (grownCap w (l.length + s.size) cap 5 - (l.length + s.size)), by rw [hxl]; exact grownCap_ge _ _ _ _, grownCap_le_maxLen w _ _ _ (by unfold maxLen; omega), ?_, by rw [hxl], rfl⟩)⟩
      · rw [hz1] at hfo
        simp [Builtin.append_, run_underlying (P := Try.prog) Try.underlying29, run_underlying hu, sizeOf, typeInfo, zeroValue, hi, hz0, hz1, Builtin.lenOf, hne, h63', h48', Question.forced, hf, hfo, newRow, grownCap]
        refine congrArg (fun c => w.drew.alloc (.cells c 5)) ?_
        apply Array.ext'
        simp [List.append_assoc]
      · rw [hZ, hxl]
        have := grownCap_ge w (l.length + s.size) cap 5
        omega
/-- bytes behind bytes of the call's own -/
theorem wp_rbRow {ops : Array Oper} {rest : List Oper} {o : Oper} {a : Act} {Q : Exit → Act → World → Prop} {W : World} (hgd : o.guard = none) (s x : Operand)
    (ho : o.op = .call { callee := .builtin .append, args := #[s, x], argTypes := #[29, 29] }) (base : Nat) (v : Value) (l : List Int) (hs : a.eval s = v) (hown : OwnL W base v l)
    (g c : Nat) (m : List Int) (hx : a.eval x = .slice (some ⟨g, 0, none⟩) m.length c) (hm : ∀ (j : Nat) (z : Int), m[j]? = some z → W.cell? ⟨g, j, none⟩ = some (.int .u8 z)) (hl : l.length + m.length ≤ 1000000000) (hb : base ≤ W.heap.size)
    (h : ∀ v' w', OwnL w' base v' (l ++ m) → (∀ T, l ++ m <+: T → Rb base T W w') → wpList Try.prog ops Q rest (a.put o.dst v') w') : wpList Try.prog ops Q (o :: rest) a W := by
  obtain ⟨v', w', hr, ho'⟩ := run_app_row hown (c := c) hm hl o.type
  obtain ⟨h1, h2⟩ := ho'.own hown hb
  refine wpList_plain hgd fun K hK => ?_
  unfold Oper.wp execOp
  simp only [ho, resolve, invoke, builtin, Sem.run_bind, Sem.run_pure, Result.andThen_ok, List.map_toArray, List.map_cons, List.map_nil, hs, hx, hr]
  exact hK _ _ (h v' w' h1 h2)
/-- one byte more -/
theorem wp_rbOne {ops : Array Oper} {rest : List Oper} {o : Oper} {a : Act} {Q : Exit → Act → World → Prop} {W : World} (hgd : o.guard = none) (s x : Operand)
    (ho : o.op = .call { callee := .builtin .append, args := #[s, x], argTypes := #[29, 29] }) (base : Nat) (v : Value) (l : List Int) (X : Int) (hs : a.eval s = v) (hown : OwnL W base v l)
    (hx : a.eval x = .slice (some ⟨W.heap.size, 0, none⟩) 1 1) (hl : l.length + 1 ≤ 1000000000) (hb : base ≤ W.heap.size)
    (h : ∀ v' w', OwnL w' base v' (l ++ [X]) → (∀ T, l ++ [X] <+: T → Rb base T W w') → wpList Try.prog ops Q rest (a.put o.dst v') w') : wpList Try.prog ops Q (o :: rest) a (W.alloc (Obj.cells #[.int .u8 X] 5)) := by
  have hg := World.grownBy_alloc W (Obj.cells #[.int .u8 X] 5) none
  refine wp_rbRow hgd s x ho base v l hs (hown.kept hg (Classical.em _)) W.heap.size 1 [X] hx (fun j z hj => ?_) hl (Nat.le_trans hb hg.size) (fun v' w' h1 h2 => h v' w' h1 fun T hT => (Rb.of hg).trans (h2 T hT))
  rw [World.cell?_alloc_new]
  match j, hj with
  | 0, hj => simp at hj; subst hj; rfl
/-- what comes of bytes to which others are appended -/
def BtP (base : Nat) (w : World) (l en : List Int) (e : Ending) (w' : World) : Prop := ∃ v, e = .returned v ∧ OwnL w' base v (l ++ en) ∧ ∀ T, l ++ en <+: T → Rb base T w w'
theorem dCnt_may (n : Int) : (Pg.dCnt n).may = Pg.okB n := rfl
theorem pre_app {A B T : List Int} (h : A ++ B <+: T) : A <+: T := (List.prefix_append A B).trans h
set_option maxRecDepth 100000 in
theorem or_all : ∀ z : Fin 256, bits BinOp.or .u8 (z.val : Int) 128 = ((z.val % 128 + 128 : Nat) : Int) := by decide
theorem or128 (y : Nat) : bits BinOp.or .u8 ((y : Int) % 256) 128 = ((y % 128 + 128 : Nat) : Int) := by
  have h := or_all ⟨y % 256, by omega⟩
  simp only at h
  rw [show ((y : Int) % 256) = ((y % 256 : Nat) : Int) from by omega, h, show y % 256 % 128 = y % 128 from by omega]
set_option maxRecDepth 100000 in
set_option maxHeartbeats 4000000 in
theorem group8 {base : Nat} {w : World} {v : Value} {l : List Int} (h : OwnL w base v l) {x : Nat} (hx : x < 18446744073709551616) (hl : l.length + (Pg.grp x).length ≤ 1000000000) (hb : base ≤ w.heap.size) :
    Calls Try.prog 54 #[v, .int .u64 x] w (BtP base w l (Pg.grp x)) := by
  have HO : Hid (OwnL w base v l) := h
  have HL : Hid (l.length + (Pg.grp x).length ≤ 1000000000) := hl
  obtain ⟨ao, cp, rfl, _⟩ := h.toB.shape
  clear h hl
  go_enter Try.func54, Try.ntmps54
  go_wp2_with fail
  go_loopw [0, 1] (fun bv xv wr => ∃ (y : Nat) (pre : List Int) (a' : Option Addr) (c' : Nat), bv = .slice a' (l ++ pre).length c' ∧ xv = .int .u64 y ∧ y < 18446744073709551616 ∧ Pg.grp x = pre ++ Pg.grp y ∧ OwnL wr base (.slice a' (l ++ pre).length c') (l ++ pre) ∧ (∀ T, l ++ pre <+: T → Rb base T w wr) ∧ base ≤ wr.heap.size) (fun _ xv _ => (intOf xv).toNat)
  case atStart => exact ⟨x, [], ao, cp, by rw [List.append_nil], rfl, hx, rfl, by rw [List.append_nil]; exact HO.out, fun T _ => Rb.refl _ _ _, hb⟩
  case round =>
    obtain ⟨y, pre, a', c', rfl, rfl, hy, he, hown, hrb, hbr⟩ := hrel
    have HE : Hid (Pg.grp x = pre ++ Pg.grp y) := he
    have HR : Hid (∀ T, l ++ pre <+: T → Rb base T w wr) := hrb
    have HP : Hid (∀ y : Int, l ++ (pre ++ [y]) = (l ++ pre) ++ [y]) := fun y => by rw [List.append_assoc]
    have hlen : (l ++ pre).length + 1 ≤ 1000000000 := by
      have := HL.out
      rw [he, List.length_append] at this
      have h1 : 1 ≤ (Pg.grp y).length := by
        by_cases hb : y < 128
        · rw [Pg.grp_small hb]; simp
        · rw [Pg.grp_big hb]; simp
      rw [List.length_append]
      omega
    generalize hLL : l ++ pre = L at *
    have HW : Hid (OwnL wr base (.slice a' L.length c') L) := hown
    clear he hrb hown
    by_cases hb8 : y < 128
    · have d1 : ¬ (128 ≤ (y : Int)) := by omega
      have d1' : decide (128 ≤ (y : Int)) = false := by simpa using d1
      have hq : (y : Int) % 256 = y := by omega
      go_wp2_with (at_builtin; refine wp_rbOne rfl _ _ rfl base (.slice a' L.length c') L _ rfl HW.out rfl hlen hbr ?_; intro v' w2 ho2 hg2; have O2 := ho2; have G2 := hg2; clear ho2 hg2)
      go_ret
      refine ⟨_, rfl, ?_, fun T hT => ?_⟩
      · rw [HE.out, Pg.grp_small hb8, HP.out]
        exact O2
      · rw [HE.out, Pg.grp_small hb8, HP.out] at hT
        exact (HR.out T (pre_app hT)).trans (G2 T hT)
    · have d1 : 128 ≤ (y : Int) := by omega
      have d1' : decide (128 ≤ (y : Int)) = true := by simpa using d1
      go_wp2_with (at_builtin; refine wp_rbOne rfl _ _ rfl base (.slice a' L.length c') L _ rfl HW.out rfl hlen hbr ?_; intro v' w2 ho2 hg2; obtain ⟨a3, c3, rfl, _⟩ := ho2.toB.shape; have O2 := ho2; have G2 := hg2; clear ho2 hg2)
      rw [or128] at O2 G2
      refine ⟨⟨y / 128, pre ++ [((y % 128 + 128 : Nat) : Int)], a3, c3, ?_, ?_, by omega, ?_, ?_, fun T hT => ?_, ?_⟩, by simp [intOf]; omega⟩
      · rw [HP.out, List.length_append]; rfl
      · simp
      · rw [HE.out, Pg.grp_big hb8, List.append_assoc]; rfl
      · rw [HP.out]; exact O2
      · rw [HP.out] at hT
        exact (HR.out T (pre_app hT)).trans (G2 T hT)
      · exact Nat.le_trans hbr (G2 _ (List.prefix_refl _)).size
set_option maxRecDepth 100000 in
theorem count8 {base : Nat} {w : World} {v : Value} {l : List Int} (h : OwnL w base v l) {n : Int} (hn : Pg.okB n = true) (hl : l.length + (Pg.dCnt n).en.length ≤ 1000000000) (hb : base ≤ w.heap.size) :
    Calls Try.prog 28 #[v, .int .i64 n] w (BtP base w l (Pg.dCnt n).en) := by
  have h0 : 0 ≤ n ∧ n < 2147483648 := by simpa [Pg.okB] using hn
  obtain ⟨k, rfl⟩ := Int.eq_ofNat_of_zero_le h0.1
  have e : (Pg.dCnt (k : Int)).en = Pg.grp k := by simp [Pg.dCnt, hn]
  rw [e] at hl ⊢
  have HC : Hid (Calls Try.prog 54 #[v, .int .u64 (k : Nat)] w (BtP base w l (Pg.grp k))) := group8 h (by omega) hl hb
  obtain ⟨_, hk⟩ := h0
  clear e h hn
  go_enter Try.func28, Try.ntmps28
  go_wp2_with (go_at_call 54; refine HC.out.mono ?_; rintro e w4 ⟨u, rfl, h4⟩; have H4 := h4; clear h4)
  go_ret
  exact ⟨_, rfl, H4⟩
theorem xor_onesB {a : Nat} (h : a < 18446744073709551616) : 18446744073709551615 ^^^ a = 18446744073709551615 - a := by
  have e1 : (18446744073709551615 : Nat) = 2 ^ 64 - 1 := by decide
  have e2 : (18446744073709551615 - a : Nat) = 2 ^ 64 - (a + 1) := by omega
  have h' : a < 2 ^ 64 := h
  rw [e2, e1]
  refine Nat.eq_of_testBit_eq fun i => ?_
  rw [Nat.testBit_xor, Nat.testBit_two_pow_sub_one, Nat.testBit_two_pow_sub_succ h']
  by_cases hi : i < 64
  · simp [hi]
  · have p : 2 ^ 64 ≤ 2 ^ i := Nat.pow_le_pow_right (by omega) (by omega)
    rw [Nat.testBit_lt_two_pow (x := a) (by omega)]; simp [hi]
theorem zig_bits {n : Int} (h : R64 n) : bits .xor .u64 (IntKind.u64.wrap (IntKind.u64.wrap n * 2)) (IntKind.u64.wrap (n / 9223372036854775808)) = ((Pg.zig n : Nat) : Int) := by
  obtain ⟨h0, h1⟩ := h
  by_cases hn : n < 0
  · have e1 : IntKind.u64.wrap (IntKind.u64.wrap n * 2) = 2 * n + 18446744073709551616 := by simp only [IntKind.wrap_u64]; omega
    have e2 : IntKind.u64.wrap (n / 9223372036854775808) = 18446744073709551615 := by simp only [IntKind.wrap_u64]; omega
    have e3 : ((Pg.zig n : Nat) : Int) = 2 * (-(n + 1)) + 1 := by unfold Pg.zig; rw [if_pos hn]; omega
    rw [e1, e2, e3, u64_xor _ _ (by omega) (by omega) (by omega) (by omega), Nat.xor_comm]
    have := xor_onesB (a := (2 * n + 18446744073709551616).toNat) (by omega)
    rw [show (18446744073709551615 : Int).toNat = 18446744073709551615 from rfl, this]
    omega
  · have e1 : IntKind.u64.wrap (IntKind.u64.wrap n * 2) = 2 * n := by simp only [IntKind.wrap_u64]; omega
    have e2 : IntKind.u64.wrap (n / 9223372036854775808) = 0 := by simp only [IntKind.wrap_u64]; omega
    have e3 : ((Pg.zig n : Nat) : Int) = 2 * n := by unfold Pg.zig; rw [if_neg hn]; omega
    rw [e1, e2, e3, u64_xor _ _ (by omega) (by omega) (by omega) (by omega)]
    simp
    omega
set_option maxRecDepth 100000 in
theorem number8 {base : Nat} {w : World} {v : Value} {l : List Int} (h : OwnL w base v l) {n : Int} (hn : R64 n) (hl : l.length + (Pg.dNum n).en.length ≤ 1000000000) (hb : base ≤ w.heap.size) :
    Calls Try.prog 56 #[v, .int .i64 n] w (BtP base w l (Pg.dNum n).en) := by
  have HC : Hid (Calls Try.prog 54 #[v, .int .u64 (Pg.zig n : Nat)] w (BtP base w l (Pg.dNum n).en)) := group8 h (Pg.zig_lt hn) hl hb
  have HZ : Hid (bits .xor .u64 (IntKind.u64.wrap (IntKind.u64.wrap n * 2)) (IntKind.u64.wrap (n / 9223372036854775808)) = ((Pg.zig n : Nat) : Int)) := zig_bits hn
  obtain ⟨h0, h1⟩ := hn
  clear h hl
  go_enter Try.func56, Try.ntmps56
  go_wp2_with (go_at_call 54; rw [HZ.out]; refine HC.out.mono ?_; rintro e w4 ⟨u, rfl, h4⟩; have H4 := h4; clear h4)
  go_ret
  exact ⟨_, rfl, H4⟩
set_option maxRecDepth 100000 in
set_option maxHeartbeats 4000000 in
theorem counts8 {base : Nat} {w : World} {v : Value} {l : List Int} (h : OwnL w base v l) {z : List Int} {a : Option Addr} {c : Nat} (hz : NumL (fun k => k < base) w a c z) (hm : (Pg.dNumL z).may = true) (hl : l.length + (Pg.dNumL z).en.length ≤ 1000000000) (hb : base ≤ w.heap.size) :
    Calls Try.prog 29 #[v, .slice a z.length c] w (BtP base w l (Pg.dNumL z).en) := by
  have hle := hz.le
  have hmx := hz.max
  unfold maxLen at hmx
  rw [Pg.dNumL, Pg.dNums_cat] at hm hl ⊢
  simp only [Pg.Dl.app, Bool.and_eq_true, List.length_append] at hm hl
  have HZ : Hid (NumL (fun k => k < base) w a c z) := hz
  have HM : Hid ((Pg.dCat Pg.dCnt z).may = true) := hm.2
  have HL : Hid (l.length + ((Pg.dCnt z.length).en.length + (Pg.dCat Pg.dCnt z).en.length) ≤ 1000000000) := hl
  have hok : Pg.okB (z.length : Int) = true := by rw [← dCnt_may]; exact hm.1
  have hl1 : l.length + (Pg.dCnt (z.length : Int)).en.length ≤ 1000000000 := by
    generalize (Pg.dCnt (z.length : Int)).en.length = A at *
    generalize (Pg.dCat Pg.dCnt z).en.length = C at *
    omega
  have HC : Hid (Calls Try.prog 28 #[v, .int .i64 (z.length : Int)] w (BtP base w l (Pg.dCnt (z.length : Int)).en)) := count8 h hok hl1 hb
  clear hok hl1
  show Calls Try.prog 29 #[v, .slice a z.length c] w (BtP base w l ((Pg.dCnt z.length).en ++ (Pg.dCat Pg.dCnt z).en))
  clear h hm hl hz
  go_enter Try.func29, Try.ntmps29
  go_wp2_with (go_at_call 28; refine HC.out.mono ?_; rintro e w4 ⟨u, rfl, ho4, hr4⟩; obtain ⟨a4, c4, rfl, _⟩ := ho4.toB.shape; have O4 : Hid (OwnL w4 base (.slice a4 (l ++ (Pg.dCnt z.length).en).length c4) (l ++ (Pg.dCnt z.length).en)) := ho4; have R4 : Hid (∀ T, l ++ (Pg.dCnt z.length).en <+: T → Rb base T w w4) := hr4; clear ho4 hr4 HC)
  go_loopw [0, 5] (fun bv ix wr => ∃ (k : Nat) (a' : Option Addr) (c' : Nat), bv = .slice a' (l ++ (Pg.dCnt z.length).en ++ (Pg.dCat Pg.dCnt (z.take k)).en).length c' ∧ ix = .int .i64 k ∧ k ≤ z.length ∧ OwnL wr base (.slice a' (l ++ (Pg.dCnt z.length).en ++ (Pg.dCat Pg.dCnt (z.take k)).en).length c') (l ++ (Pg.dCnt z.length).en ++ (Pg.dCat Pg.dCnt (z.take k)).en) ∧ (∀ T, l ++ (Pg.dCnt z.length).en ++ (Pg.dCat Pg.dCnt (z.take k)).en <+: T → Rb base T w wr)) (fun _ ix _ => z.length - (intOf ix).toNat)
  case atStart => exact ⟨0, a4, c4, by simp [Pg.dCat, Pg.Dl.nil], rfl, Nat.zero_le _, by simpa [Pg.dCat, Pg.Dl.nil] using O4.out, by simpa [Pg.dCat, Pg.Dl.nil] using R4.out⟩
  case round =>
    obtain ⟨k, a', c', rfl, rfl, hk, ho, hr⟩ := hrel
    have HR : Hid (∀ T, l ++ (Pg.dCnt z.length).en ++ (Pg.dCat Pg.dCnt (z.take k)).en <+: T → Rb base T w wr) := hr
    by_cases hkn : k < z.length
    case neg =>
      obtain rfl : k = z.length := by omega
      have HO : Hid (OwnL wr base (.slice a' (l ++ (Pg.dCnt z.length).en ++ (Pg.dCat Pg.dCnt (z.take z.length)).en).length c') (l ++ (Pg.dCnt z.length).en ++ (Pg.dCat Pg.dCnt (z.take z.length)).en)) := ho
      clear ho hr
      generalize hLL : (l ++ (Pg.dCnt z.length).en ++ (Pg.dCat Pg.dCnt (z.take z.length)).en).length = LL at *
      go_wp2
      go_ret
      have e : l ++ ((Pg.dCnt z.length).en ++ (Pg.dCat Pg.dCnt z).en) = l ++ (Pg.dCnt z.length).en ++ (Pg.dCat Pg.dCnt (z.take z.length)).en := by rw [List.take_length, List.append_assoc]
      refine ⟨_, rfl, by rw [e]; exact HO.out, fun T hT => HR.out T (by rw [← e]; exact hT)⟩
    have hkn' : (k : Int) < z.length := by omega
    have hrow : NumL (fun k => k < base) wr a c z := NumL.ch HZ.out (hr _ (List.prefix_refl _)).ch (fun k hk => not_rangeB hk) (fun _ h => h)
    obtain ⟨b, o, rfl, hbb, hx⟩ := hrow.at hkn
    have c0 : wr.cell? ⟨b, o + k, none⟩ = some (.int .i64 z[k]) := by rw [Nat.mul_one] at hx; exact hx
    have hsz : base ≤ wr.heap.size := Nat.le_trans hb (hr _ (List.prefix_refl _)).size
    have hsc := Pg.dCat_succ Pg.dCnt hkn
    obtain ⟨_, _, q3, q4⟩ := Pg.dCat_le Pg.dCnt z (k + 1)
    have hmk := q4 HM.out
    rw [hsc] at q3 hmk
    simp only [Pg.Dl.app, Bool.and_eq_true, List.length_append] at q3 hmk
    have HS : Hid (l ++ (Pg.dCnt z.length).en ++ (Pg.dCat Pg.dCnt (z.take (k + 1))).en = l ++ (Pg.dCnt z.length).en ++ (Pg.dCat Pg.dCnt (z.take k)).en ++ (Pg.dCnt z[k]).en) := by
      show _ = _
      rw [hsc, Pg.Dl.app, List.append_assoc _ (Pg.dCat Pg.dCnt (z.take k)).en]
    have hlen : (l ++ (Pg.dCnt z.length).en ++ (Pg.dCat Pg.dCnt (z.take k)).en).length + (Pg.dCnt z[k]).en.length ≤ 1000000000 := by
      have := HL.out
      simp only [List.length_append]
      omega
    generalize hLL : l ++ (Pg.dCnt z.length).en ++ (Pg.dCat Pg.dCnt (z.take k)).en = L at *
    have HC : Hid (Calls Try.prog 28 #[.slice a' L.length c', .int .i64 z[k]] wr (BtP base wr L (Pg.dCnt z[k]).en)) := count8 (n := z[k]) ho (by rw [← dCnt_may]; exact hmk.2) hlen hsz
    clear ho hr hx hrow hsc q3 q4 hmk hlen
    generalize z[k] = y at *
    go_wp2_with (go_at_call 28; refine HC.out.mono ?_; rintro e w6 ⟨u, rfl, ho6, hr6⟩; obtain ⟨a6, c6, rfl, _⟩ := ho6.toB.shape; have O6 : Hid (OwnL w6 base (.slice a6 (L ++ (Pg.dCnt y).en).length c6) (L ++ (Pg.dCnt y).en)) := ho6; have R6 : Hid (∀ T, L ++ (Pg.dCnt y).en <+: T → Rb base T wr w6) := hr6; clear ho6 hr6 HC)
    go_roundw
    case rel =>
      refine ⟨k + 1, a6, c6, ?_, by go_num, by omega, ?_, ?_⟩
      · rw [HS.out, List.length_append]
      · rw [HS.out]; exact O6.out
      · intro T hT
        rw [HS.out] at hT
        exact (HR.out T (pre_app hT)).trans (R6.out T hT)
    case measure => simp [intOf]; omega
/-- what is kept by appends up to L -/
def Ra (base : Nat) (L : List Int) (w w' : World) : Prop := ∀ T, L <+: T → Rb base T w w'
theorem Ra.refl (base : Nat) (L : List Int) (w : World) : Ra base L w w := fun _ _ => Rb.refl _ _ _
theorem Ra.trans {base : Nat} {L : List Int} {w w1 w2 : World} (h1 : Ra base L w w1) (h2 : Ra base L w1 w2) : Ra base L w w2 := fun T hT => (h1 T hT).trans (h2 T hT)
theorem Ra.mono {base : Nat} {L L' : List Int} {w w' : World} (h : Ra base L w w') (hl : L <+: L') : Ra base L' w w' := fun T hT => h T (hl.trans hT)
theorem Ra.rb {base : Nat} {L : List Int} {w w' : World} (h : Ra base L w w') : Rb base L w w' := h L (List.prefix_refl _)
theorem Ra.of {base : Nat} {L : List Int} {w w' : World} (g : w.grownBy w' none) : Ra base L w w' := fun _ _ => Rb.of g
/-- bytes of the call's own -/
def rowV (base : Nat) (l : List Int) : Value → World → Prop := fun v W => OwnL W base v l ∧ base ≤ W.heap.size
def StabR (R : World → World → Prop) (f : Value → World → Prop) : Prop := ∀ v w w', f v w → R w w' → f v w'
theorem stabR_eq (R : World → World → Prop) (x : Value) : StabR R (eqV x) := fun _ _ _ h _ => h
theorem stabR_row {base : Nat} {L l : List Int} (h : l <+: L) : StabR (Ra base L) (rowV base l) := fun v w w' hv hr => ⟨hr.rb.own v l h hv.1, Nat.le_trans hv.2 hr.rb.size⟩
def StabLR (R : World → World → Prop) : List (Value → World → Prop) → Prop
  | [] => True
  | f :: l => StabR R f ∧ StabLR R l
theorem stabLR_nil {R : World → World → Prop} : StabLR R [] := trivial
theorem stabLR_cons {R : World → World → Prop} {f : Value → World → Prop} {l : List (Value → World → Prop)} (h1 : StabR R f) (h2 : StabLR R l) : StabLR R (f :: l) := ⟨h1, h2⟩
theorem psiLR_stable {R : World → World → Prop} : ∀ {L : List (Value → World → Prop)}, StabLR R L → ∀ {i : Nat} {v : Value} {w w' : World}, psiL L i v w → R w w' → psiL L i v w'
  | [], _, _, _, _, _, h, _ => by simp [psiL] at h
  | f :: l, hs, 0, v, w, w', h, g => hs.1 v w w' h g
  | f :: l, hs, i + 1, v, w, w', h, g => by
    have := psiLR_stable (i := i) hs.2 (by simpa [psiL] using h) g
    simpa [psiL] using this
theorem psiLR_hst {R : World → World → Prop} {n : Nat} {L : List (Value → World → Prop)} (h : StabLR R L) : ∀ i v w w', i < n → psiL L i v w → R w w' → psiL L i v w' := fun _ _ _ _ _ h1 g => psiLR_stable h h1 g
/-- what comes of bytes that are L then -/
def BtQ (base : Nat) (w : World) (L : List Int) (e : Ending) (w' : World) : Prop := ∃ v, e = .returned v ∧ OwnL w' base v L ∧ Ra base L w w'
theorem BtP.q {base : Nat} {w : World} {l en : List Int} {f : Nat} {args : Array Value} (h : Calls Try.prog f args w (BtP base w l en)) {L : List Int} (e : L = l ++ en) : Calls Try.prog f args w (BtQ base w L) := by rw [e]; exact h
theorem Kb.of {c : Array Value} {t : TypeId} {fr : Nat × Nat} (h : t ≠ 5) : Kb (.cells c t fr) := h
theorem Ra.trans_rb {base : Nat} {L L' : List Int} {w w1 w2 : World} (h1 : Ra base L w w1) (h2 : Rb base L' w1 w2) (hp : L <+: L') : Rb base L' w w2 := (h1 L' hp).trans h2
theorem pre_eq {A B L : List Int} (e : L = A ++ B) : A <+: L := by rw [e]; exact List.prefix_append A B
theorem raDrew (base : Nat) (L : List Int) (w : World) : Ra base L w w.drew := Ra.of (grown_drew (World.grownBy.refl _ none))
end Go.Proofs.Ytljdjkiejppenaa
