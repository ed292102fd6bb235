/- What RiscDecodes is told of the rows of bytes that came in; Decode of any bytes, by both. -/
import Derived.Test.YtkpmhgkljedapaaRcArgs
import Derived.Test.YtkpmhgkljedapaaRcL
import Derived.Test.YtkpmhgkljedapaaRcH
namespace Go.Proofs.Ytkpmhgkljedapaa
open Go.RowKit
set_option linter.unusedVariables false

/-- a slice of bytes that came in -/
structure BsIn (W : World) (ao : Option Addr) (len cap : Nat) (g : Nat → Int) : Prop where
  nil : ao = none → len = 0 ∧ cap = 0
  le : len ≤ cap
  max : cap ≤ maxLen
  fit : Mm.Fit g
  bs : Bs W ao len g
  lt : ∀ b off, 0 < len → ao = some ⟨b, off, none⟩ → b < W.heap.size

theorem open_bytes {H : Type} {enc : TypeId × Value → H} {W : World} {spare : Nat → Bool} {held : Bool} {fuel : Nat} {cs : List Value} {x : DataW H × List MemPlace}
    (h : DataW.trod enc Try.prog W 0 spare held fuel 23 cs = some x) : ∃ ao len cap g, cs = [.slice ao len cap] ∧ BsIn W ao len cap g := by
  have ce : Try.prog.cellsOf 5 = 1 := by kernel_rfl
  rcases Go.Deep.open_slice1 Try.underlying23 ce h with ⟨hcs, _⟩ | ⟨a, len, cap, m, n, V, D, Pl, hcs, hb, hl, hm, hmm, _, hx⟩
  · exact ⟨none, 0, 0, fun _ => 0, hcs, ⟨fun _ => ⟨rfl, rfl⟩, Nat.le_refl _, Nat.zero_le _, fun _ => by omega, .inl rfl, fun _ _ h => by omega⟩⟩
  · have hlm : len ≤ m := by rw [hmm]; split <;> omega
    have each : ∀ i, i < len → ∃ z : Int, V i = .int .u8 z ∧ 0 ≤ z ∧ z < 256 := by
      intro i hi
      obtain ⟨_, h2⟩ := hx i (by omega)
      obtain ⟨z, e, _, f⟩ := DataW.trod_int Try.underlying5 h2
      simp at e
      have f := bounds_u8 f
      exact ⟨z, e, by omega, by omega⟩
    by_cases h0 : len = 0
    · subst h0
      exact ⟨some a, 0, cap, fun _ => 0, hcs, ⟨(fun h => by cases h), hl, hm, fun _ => by omega, .inl rfl, fun _ _ h => by omega⟩⟩
    obtain ⟨b, off, spot⟩ := a
    obtain ⟨c0, _⟩ := hx 0 (by omega)
    have c0 : W.cell? ⟨b, off, spot⟩ = some (V 0) := by simpa [Addr.add] using c0
    obtain rfl : spot = none := World.cell?_spot c0
    have hlt := World.block_lt_of_cell? _ _ c0
    refine ⟨some ⟨b, off, none⟩, len, cap, fun i => if h : i < len then Classical.choose (each i h) else 0, hcs, ⟨(fun h => by cases h), hl, hm, fun i => ?_, .inr ⟨b, off, rfl, fun i hi => ?_⟩, fun b' off' _ e => ?_⟩⟩
    · by_cases h : i < len
      · simp only [dif_pos h]; exact (Classical.choose_spec (each i h)).2
      · simp only [dif_neg h]; omega
    · simp only [dif_pos hi]
      rw [← (Classical.choose_spec (each i hi)).1, ← add_none]
      exact (hx i (by omega)).1
    · injection e with e
      injection e with e
      subst e
      exact hlt

theorem BsIn.below {W W' : World} {ao : Option Addr} {n cap N : Nat} {g : Nat → Int} (h : BsIn W ao n cap g) (hg : Below N W W') (hN : N = W.heap.size) : BsIn W' ao n cap g := by
  refine ⟨h.nil, h.le, h.max, h.fit, ?_, fun b off h0 e => Nat.lt_of_lt_of_le (h.lt b off h0 e) hg.size⟩
  rcases h.bs with h0 | ⟨b, off, e, hc⟩
  · exact .inl h0
  · by_cases h0 : n = 0
    · exact .inl h0
    · exact .inr ⟨b, off, e, fun i hi => (hg.cell (p := ⟨b, off + i, none⟩) (by rw [hN]; exact h.lt b off (by omega) e)).trans (hc i hi)⟩
theorem BsIn.kept {W W' : World} {ao : Option Addr} {n cap : Nat} {g : Nat → Int} (h : BsIn W ao n cap g) (hg : W.grownBy W' none) : BsIn W' ao n cap g := by
  refine ⟨h.nil, h.le, h.max, h.fit, ?_, fun b off h0 e => Nat.lt_of_lt_of_le (h.lt b off h0 e) hg.size⟩
  rcases h.bs with h0 | ⟨b, off, e, hc⟩
  · exact .inl h0
  · exact .inr ⟨b, off, e, fun i hi => hg.cell (hc i hi) (by simp)⟩

theorem own_slice {w : World} {base n : Nat} {x : Value} {g : Nat → Int} (h : OwnB w base x n g) (hn : 0 < n) : ∃ T cap, x = .slice (some ⟨T, 0, none⟩) n cap ∧ n ≤ cap ∧ base ≤ T := by
  rcases h.2 with ⟨_, h0⟩ | ⟨T, cap, cur, rfl, hb, _, hc, _⟩
  · omega
  · exact ⟨T, cap, rfl, hc, hb⟩

/-- rows of bytes -/
structure RowV where
  ao : Option Addr
  n : Nat
  cap : Nat
  g : Nat → Int

def IsRowsB (w : World) (a : Option Addr) (len cap : Nat) (V : Nat → RowV) : Prop :=
  len ≤ cap ∧ cap ≤ maxLen ∧ (len = 0 ∨ ∃ b off, a = some ⟨b, off, none⟩ ∧ b < w.heap.size ∧ ∀ i, i < len → w.cell? ⟨b, off + i, none⟩ = some (.slice (V i).ao (V i).n (V i).cap) ∧ BsIn w (V i).ao (V i).n (V i).cap (V i).g)

theorem open_rows {H : Type} {enc : TypeId × Value → H} {W : World} {spare : Nat → Bool} {held : Bool} {fuel : Nat} {cs : List Value} {x : DataW H × List MemPlace}
    (h : DataW.trod enc Try.prog W 0 spare held fuel 36 cs = some x) : ∃ a len cap V, cs = [.slice a len cap] ∧ IsRowsB W a len cap V := by
  have ce : Try.prog.cellsOf 23 = 1 := by kernel_rfl
  rcases Go.Deep.open_slice1 Try.underlying36 ce h with ⟨hcs, _⟩ | ⟨a, len, cap, m, n, U, D, Pl, hcs, hb, hl, hm, hmm, _, hx⟩
  · exact ⟨none, 0, 0, fun _ => ⟨none, 0, 0, fun _ => 0⟩, hcs, Nat.le_refl _, Nat.zero_le _, .inl rfl⟩
  · have hlm : len ≤ m := by rw [hmm]; split <;> omega
    by_cases h0 : len = 0
    · exact ⟨_, _, _, fun _ => ⟨none, 0, 0, fun _ => 0⟩, hcs, hl, hm, .inl h0⟩
    have each : ∀ i, i < len → ∃ v : RowV, U i = .slice v.ao v.n v.cap ∧ BsIn W v.ao v.n v.cap v.g := by
      intro i hi
      obtain ⟨_, h2⟩ := hx i (by omega)
      obtain ⟨ao, l, c, g, e, hbs⟩ := open_bytes h2
      simp at e
      exact ⟨⟨ao, l, c, g⟩, e, hbs⟩
    obtain ⟨b, off, spot⟩ := a
    obtain ⟨c0, _⟩ := hx 0 (by omega)
    have c0 : W.cell? ⟨b, off, spot⟩ = some (U 0) := by simpa [Addr.add] using c0
    obtain rfl : spot = none := World.cell?_spot c0
    have hlt := World.block_lt_of_cell? _ _ c0
    refine ⟨some ⟨b, off, none⟩, len, cap, fun i => if h : i < len then Classical.choose (each i h) else ⟨none, 0, 0, fun _ => 0⟩, hcs, hl, hm, .inr ⟨b, off, rfl, hlt, fun i hi => ?_⟩⟩
    simp only [dif_pos hi]
    have sp := Classical.choose_spec (each i hi)
    refine ⟨?_, sp.2⟩
    rw [← sp.1, ← add_none]
    exact (hx i (by omega)).1

namespace Rc
def xv (n : Nat) (g : Nat → Int) : InV := if n < 8 then zeroI else dv g
def xe (n : Nat) (g : Nat → Int) : Int := if n < 8 then 31 else de g
def xn (n : Nat) (g : Nat → Int) : Int := if n < 8 then 0 else if okB g then 8 else 0
theorem x_cases (n : Nat) (g : Nat → Int) : (xe n g = 31 ∧ xn n g = 0) ∨ (xe n g = 0 ∧ xn n g = 8) ∨ (xe n g = 30 ∧ xn n g = 0) := by
  unfold xe xn de
  by_cases h : n < 8
  · simp [h]
  · cases okB g <;> simp [h]
end Rc

theorem rdecode_in {ao : Option Addr} {n cap : Nat} {g : Nat → Int} {w : World} (h : BsIn w ao n cap g) :
    Calls Try.prog 15 #[.slice ao n cap] w fun e w' => e = .returned (.tuple #[.agg #[.int .i64 (Rc.xv n g).op, .int .i64 (Rc.xv n g).a, .int .i64 (Rc.xv n g).b, .int .i64 (Rc.xv n g).c, .int .i64 (Rc.xv n g).k, .int .i64 (Rc.xv n g).sub, .int .i64 (Rc.xv n g).scale, .int .i64 (Rc.xv n g).imm, .int .i64 (Rc.xv n g).label], .int .i64 (Rc.xe n g)]) ∧ w.grownBy w' none := by
  by_cases hn : n < 8
  · have e1 : Rc.xv n g = zeroI := by unfold Rc.xv; rw [if_pos hn]
    have e2 : Rc.xe n g = 31 := by unfold Rc.xe; rw [if_pos hn]
    rw [e1, e2]
    exact rdecode_short ao n cap w (by omega)
  · have e1 : Rc.xv n g = Rc.dv g := by unfold Rc.xv; rw [if_neg hn]
    have e2 : Rc.xe n g = Rc.de g := by unfold Rc.xe; rw [if_neg hn]
    rw [e1, e2]
    obtain ⟨b, off, rfl, hc⟩ := h.bs.at (by omega)
    exact rdecode_any b off n cap g w (by omega) h.le h.fit hc

theorem decode_own {ao : Option Addr} {n cap base : Nat} {g : Nat → Int} {w : World} (h : OwnB w base (.slice ao n cap) n g) (hf : Mm.Fit g) :
    Calls Try.prog 14 #[.slice ao n cap] w fun e w' => e = .returned (.tuple #[.agg #[.int .i64 (Rc.xv n g).op, .int .i64 (Rc.xv n g).a, .int .i64 (Rc.xv n g).b, .int .i64 (Rc.xv n g).c, .int .i64 (Rc.xv n g).k, .int .i64 (Rc.xv n g).sub, .int .i64 (Rc.xv n g).scale, .int .i64 (Rc.xv n g).imm, .int .i64 (Rc.xv n g).label], .int .i64 (Rc.xn n g), .int .i64 (Rc.xe n g)]) ∧ w.grownBy w' none := by
  by_cases hn : n < 8
  · have e1 : Rc.xv n g = zeroI := by unfold Rc.xv; rw [if_pos hn]
    have e2 : Rc.xe n g = 31 := by unfold Rc.xe; rw [if_pos hn]
    have e3 : Rc.xn n g = 0 := by unfold Rc.xn; rw [if_pos hn]
    rw [e1, e2, e3]
    exact decode_short ao n cap w (by omega)
  · have e1 : Rc.xv n g = Rc.dv g := by unfold Rc.xv; rw [if_neg hn]
    have e2 : Rc.xe n g = Rc.de g := by unfold Rc.xe; rw [if_neg hn]
    obtain ⟨T, c, e, hc, _⟩ := own_slice h (by omega)
    injection e with ea _ ec
    subst ea ec
    cases ho : Rc.okB g
    · have e3 : Rc.xn n g = 0 := by unfold Rc.xn; rw [if_neg hn, ho]; rfl
      rw [e1, e2, e3, Rc.dv_no ho, Rc.de_no ho]
      exact decode_no T 0 n cap g w (by omega) hc hf (fun i hi => by rw [Nat.zero_add]; exact h.cellAt hi) ho
    · have e3 : Rc.xn n g = 8 := by unfold Rc.xn; rw [if_neg hn, ho]; rfl
      rw [e1, e2, e3, Rc.dv_ok ho, Rc.de_ok ho]
      exact decode_ok T 0 n cap g w (by omega) hc hf (fun i hi => by rw [Nat.zero_add]; exact h.cellAt hi) ho

end Go.Proofs.Ytkpmhgkljedapaa
