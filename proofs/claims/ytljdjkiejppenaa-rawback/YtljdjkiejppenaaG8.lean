/- Contracts and plain facts that the walks share. -/
import Derived.Test.YtljdjkiejppenaaG6
import Derived.Test.YtljdjkiejppenaaRuRel
import Derived.Test.YtljdjkiejppenaaG3
import Derived.Laws.BitsAllLaws
namespace Go.Proofs.Ytljdjkiejppenaa
open Go.RowKit
set_option linter.unusedVariables false
/-- no row of bytes -/
def Kb : Obj → Prop
  | .cells _ t _ => t ≠ 5
  | _ => True
/-- only rows of bytes from base on are turned, and of these none whose bytes are a beginning of T -/
structure Rb (base : Nat) (T : List Int) (w w' : World) : Prop where
  os : w'.os = w.os
  tape : w'.tape = w.tape
  output : w'.output = w.output
  size : w.heap.size ≤ w'.heap.size
  block : ∀ k o, w.heap[k]? = some o → (k < base ∨ Kb o) → w'.heap[k]? = some o
  own : ∀ v l, l <+: T → OwnL w base v l → OwnL w' base v l
theorem Rb.refl (base : Nat) (T : List Int) (w : World) : Rb base T w w := ⟨rfl, rfl, rfl, Nat.le_refl _, fun _ _ h _ => h, fun _ _ _ h => h⟩
theorem Rb.trans {base : Nat} {T : List Int} {w w1 w2 : World} (h1 : Rb base T w w1) (h2 : Rb base T w1 w2) : Rb base T w w2 :=
  ⟨h2.os.trans h1.os, h2.tape.trans h1.tape, h2.output.trans h1.output, Nat.le_trans h1.size h2.size, fun k o h hk => h2.block k o (h1.block k o h hk) hk, fun v l hl h => h2.own v l hl (h1.own v l hl h)⟩
theorem Rb.of {base : Nat} {T : List Int} {w w' : World} (g : w.grownBy w' none) : Rb base T w w' := ⟨g.os, g.tape, g.output, g.size, fun k o h _ => by
  have hk : k < w.heap.size := (Array.getElem?_eq_some_iff.1 h).1
  rw [g.block k hk (by simp)]
  exact h, fun v l _ h => h.kept g (Classical.em _)⟩
theorem Rb.ch {base : Nat} {T : List Int} {w w' : World} (h : Rb base T w w') : Ch w w' (List.range' base (w.heap.size - base)) :=
  ⟨h.os, h.tape, h.output, h.size, fun k hk hn => by
    have hb : k < base := by
      rw [List.mem_range'_1] at hn
      omega
    obtain ⟨o, ho⟩ : ∃ o, w.heap[k]? = some o := ⟨_, Array.getElem?_eq_getElem hk⟩
    rw [ho]
    exact h.block k o ho (.inl hb)⟩
theorem not_rangeB {base n k : Nat} (h : k < base) : k ∉ List.range' base n := by
  rw [List.mem_range'_1]
  omega
theorem Rb.below {base : Nat} {T : List Int} {w w' : World} (h : Rb base T w w') (hb : base = w.heap.size) : w.grownBy w' none :=
  ⟨h.os, h.tape, h.output, h.size, fun k hk _ => by
    obtain ⟨o, ho⟩ : ∃ o, w.heap[k]? = some o := ⟨_, Array.getElem?_eq_getElem hk⟩
    rw [ho]
    exact h.block k o ho (.inl (by omega))⟩
theorem cell_heapB {w : World} {B : Nat} {c : Array Value} {t : TypeId} {fr : Nat × Nat} (h : w.heap[B]? = some (.cells c t fr)) (i : Nat) : w.cell? ⟨B, i, none⟩ = c[i]? := by simp [World.cell?, h]
theorem Rb.cell {base : Nat} {T : List Int} {w w' : World} (hk : Rb base T w w') {B : Nat} {c : Array Value} {t : TypeId} {fr : Nat × Nat} (h : w.heap[B]? = some (.cells c t fr)) (ht : Kb (.cells c t fr)) (i : Nat) : w'.cell? ⟨B, i, none⟩ = c[i]? := cell_heapB (hk.block B _ h (.inr ht)) i
theorem Rb.low {base : Nat} {T : List Int} {w w' : World} (hk : Rb base T w w') {b o : Nat} {v : Value} (h : w.cell? ⟨b, o, none⟩ = some v) (hb : b < base) : w'.cell? ⟨b, o, none⟩ = some v := hk.ch.cell h (not_rangeB hb)
/-- how an append may come out -/
def AppOut (w : World) (v : Value) (l m : List Int) (v' : Value) (w' : World) : Prop :=
  (v = .slice none 0 0 ∧ m = [] ∧ v' = v ∧ w' = w) ∨
  (∃ (cap : Nat) (Z : Array Value), l.length + m.length ≤ cap ∧ cap ≤ maxLen ∧ l.length + m.length + Z.size = cap ∧ v' = .slice (some ⟨w.heap.size, 0, none⟩) (l.length + m.length) cap ∧ w' = w.drew.alloc (.cells ((l.map (Value.int .u8)).toArray ++ (m.map (Value.int .u8)).toArray ++ Z) 5)) ∨
  (∃ (g cap : Nat) (cur : Array Value), v = .slice (some ⟨g, 0, none⟩) l.length cap ∧ w.heap[g]? = some (.cells cur 5 (0, 0)) ∧ cap ≤ maxLen ∧ cur.size = cap ∧ cur.toList.take l.length = l.map (Value.int .u8) ∧ l.length + m.length ≤ cap ∧ v' = .slice (some ⟨g, 0, none⟩) (l.length + m.length) cap ∧ w' = w.setRow g (cur.toList.take l.length ++ m.map (Value.int .u8) ++ cur.toList.drop (l.length + m.length)).toArray)
theorem take_of_prefix {A B T : List Int} (h1 : A <+: T) (h2 : B <+: T) (h : A.length ≤ B.length) : A = B.take A.length := by
  obtain ⟨a, rfl⟩ := h1
  obtain ⟨b, hb⟩ := h2
  have : (B ++ b).take A.length = (A ++ a).take A.length := by rw [hb]
  rw [List.take_append_of_le_length h, List.take_append_of_le_length (Nat.le_refl _), List.take_length] at this
  exact this.symm
theorem AppOut.own {base : Nat} {w w' : World} {v v' : Value} {l m : List Int} (h : AppOut w v l m v' w') (hown : OwnL w base v l) (hb : base ≤ w.heap.size) : OwnL w' base v' (l ++ m) ∧ ∀ T, l ++ m <+: T → Rb base T w w' := by
  rcases h with ⟨rfl, rfl, rfl, rfl⟩ | ⟨cap, Z, h1, h2, h3, rfl, rfl⟩ | ⟨g, cap, cur, rfl, hg, hcm, hcs, ht, hroom, rfl, rfl⟩
  · exact ⟨by rw [List.append_nil]; exact hown, fun T _ => Rb.refl _ _ _⟩
  · have hgr : w.grownBy (w.drew.alloc (.cells ((l.map (Value.int .u8)).toArray ++ (m.map (Value.int .u8)).toArray ++ Z) 5)) none := grown_trans (grown_drew (World.grownBy.refl _ none)) (World.grownBy_alloc _ _ _)
    refine ⟨?_, fun T _ => Rb.of hgr⟩
    refine ⟨by simp, .inr ⟨w.heap.size, cap, _, by rw [List.length_append], hb, heap_alloc_new w.drew _, by rw [List.length_append]; exact h1, h2, ?_, ?_⟩⟩
    · simp only [Array.size_append, List.size_toArray, List.length_map]; omega
    · simp only [Array.toList_append, Nat.mul_one, List.map_append]
      rw [show (l ++ m).length = (l.map (Value.int .u8) ++ m.map (Value.int .u8)).length from by simp]
      exact List.take_left
  · have hlen : l.length ≤ cur.toList.length := by
      have : (cur.toList.take l.length).length = l.length := by rw [ht]; simp
      rw [List.length_take] at this
      omega
    have hbg : base ≤ g := by
      have := (World.ownsRow.lt hown g rfl).1
      exact this
    have hcl : cur.toList.length = cap := by simpa using hcs
    refine ⟨⟨by simp, .inr ⟨g, cap, _, by rw [List.length_append], hbg, setRow_heap w g cur _ _ _ hg, by rw [List.length_append]; exact hroom, hcm, ?_, ?_⟩⟩, fun T hT => ⟨rfl, rfl, rfl, by simp, fun k o hk hko => ?_, fun v2 l2 h2 ho2 => ?_⟩⟩
    · simp only [List.size_toArray, List.length_append, List.length_take, List.length_drop, List.length_map]
      omega
    · rw [ht, List.map_append, Nat.mul_one]
      rw [show (l ++ m).length = (l.map (Value.int .u8) ++ m.map (Value.int .u8)).length from by simp]
      exact List.take_left
    · by_cases e : k = g
      · subst e
        rw [hg] at hk
        injection hk with hk
        subst hk
        rcases hko with h | h
        · omega
        · exact absurd rfl h
      · rw [setRow_other w g k _ e]
        exact hk
    · rcases ho2.2 with ⟨rfl, h0⟩ | ⟨g2, cap2, cur2, rfl, hb2, hg2, hn2, hc2, hs2, ht2⟩
      · exact ⟨ho2.1, .inl ⟨rfl, h0⟩⟩
      · by_cases e : g2 = g
        · subst e
          rw [hg] at hg2
          injection hg2 with hg2
          injection hg2 with hg2
          subst hg2
          refine ⟨ho2.1, .inr ⟨g2, cap2, _, rfl, hb2, setRow_heap w g2 cur _ _ _ hg, hn2, hc2, ?_, ?_⟩⟩
          · simp only [List.size_toArray, List.length_append, List.length_take, List.length_drop, List.length_map]
            omega
          · rw [Nat.mul_one] at ht2 ⊢
            rw [ht]
            by_cases hle : l2.length ≤ l.length + m.length
            · have e2 : l2 = (l ++ m).take l2.length := take_of_prefix h2 hT (by rw [List.length_append]; exact hle)
              rw [List.take_append_of_le_length (by simp; omega), ← List.map_append, ← List.map_take, ← e2]
            · have e2 : l ++ m = l2.take (l ++ m).length := take_of_prefix hT h2 (by rw [List.length_append]; omega)
              have e3 : (l.map (Value.int .u8) ++ m.map (Value.int .u8)) = cur.toList.take (l.length + m.length) := by
                rw [← List.map_append, e2, List.map_take, ← ht2, List.take_take, List.length_append, Nat.min_eq_left (by omega)]
              rw [e3, List.take_append_drop]
              exact ht2
        · exact ⟨ho2.1, .inr ⟨g2, cap2, cur2, rfl, hb2, by rw [setRow_other w g g2 _ e]; exact hg2, hn2, hc2, hs2, ht2⟩⟩
/-- what comes of bytes to which others are appended -/
def BtP (base : Nat) (w : World) (l en : List Int) (e : Ending) (w' : World) : Prop := ∃ v, e = .returned v ∧ OwnL w' base v (l ++ en) ∧ ∀ T, l ++ en <+: T → Rb base T w w'
theorem dCnt_may (n : Int) : (Pg.dCnt n).may = Pg.okB n := rfl
/-- what is kept by appends up to L -/
def Ra (base : Nat) (L : List Int) (w w' : World) : Prop := ∀ T, L <+: T → Rb base T w w'
theorem Ra.refl (base : Nat) (L : List Int) (w : World) : Ra base L w w := fun _ _ => Rb.refl _ _ _
theorem Ra.trans {base : Nat} {L : List Int} {w w1 w2 : World} (h1 : Ra base L w w1) (h2 : Ra base L w1 w2) : Ra base L w w2 := fun T hT => (h1 T hT).trans (h2 T hT)
theorem Ra.mono {base : Nat} {L L' : List Int} {w w' : World} (h : Ra base L w w') (hl : L <+: L') : Ra base L' w w' := fun T hT => h T (hl.trans hT)
theorem Ra.rb {base : Nat} {L : List Int} {w w' : World} (h : Ra base L w w') : Rb base L w w' := h L (List.prefix_refl _)
theorem Ra.of {base : Nat} {L : List Int} {w w' : World} (g : w.grownBy w' none) : Ra base L w w' := fun _ _ => Rb.of g
/-- what comes of bytes that are L then -/
def BtQ (base : Nat) (w : World) (L : List Int) (e : Ending) (w' : World) : Prop := ∃ v, e = .returned v ∧ OwnL w' base v L ∧ Ra base L w w'
theorem BtP.q {base : Nat} {w : World} {l en : List Int} {f : Nat} {args : Array Value} (h : Calls Try.prog f args w (BtP base w l en)) {L : List Int} (e : L = l ++ en) : Calls Try.prog f args w (BtQ base w L) := by rw [e]; exact h
theorem Kb.of {c : Array Value} {t : TypeId} {fr : Nat × Nat} (h : t ≠ 5) : Kb (.cells c t fr) := h
end Go.Proofs.Ytljdjkiejppenaa
