/- check's table of types. -/
import Derived.Test.YtpcgkggpmipiaaaGreatG11
import Derived.Test.YtpcgkggpmipiaaaGreatG4
namespace Go.Proofs.YtpcgkggpmipiaaaGreat
open Go.RowKit
set_option linter.unusedVariables false
set_option maxRecDepth 100000
set_option maxHeartbeats 8000000
theorem info_bool9 : (Tryz.prog.info? 4).map (fun i => (i.zero, i.size, i.bytes)) = some (some (.bool false), 1, 1) := by kernel_rfl
def OwnT (w : World) (base : Nat) (v : Value) (l : List Bool) : Prop := w.ownsRow base 4 1 v l.length (l.map Value.bool)
theorem OwnT.grow {w w' : World} {base : Nat} {v : Value} {l : List Bool} (h : OwnT w base v l) (hg : w.grownBy w' none) : OwnT w' base v l := World.ownsRow.kept h hg (Classical.em _)
theorem OwnT.ch {w w' : World} {m : List Nat} {base : Nat} {v : Value} {z : List Bool} (h : OwnT w base v z) (hg : Ch w w' m) (hne : ∀ k, v.ownBlock = some k → k ∉ m) : OwnT w' base v z := ownsRow_ch h hg hne
theorem OwnT.base {w : World} {base : Nat} {v : Value} {l : List Bool} (h : OwnT w base v l) : ∀ k, v.ownBlock = some k → base ≤ k := fun k hk => (World.ownsRow.lt h k hk).1
theorem OwnT.lie {w : World} {base : Nat} {v : Value} {l : List Bool} (h : OwnT w base v l) : ∃ a c, v = .slice a l.length c ∧ l.length ≤ c ∧ c ≤ maxLen ∧ (l.length = 0 ∨ ∃ b, a = some ⟨b, 0, none⟩ ∧ base ≤ b ∧ b < w.heap.size ∧ ∀ i, i < l.length → w.cell? ⟨b, i, none⟩ = some (.bool (l.getD i false))) := by
 rcases h.2 with ⟨rfl, h0⟩ | ⟨T, c, cur, rfl, e2, e3, e4, e5, _⟩
 ·exact ⟨none, 0, by rw [h0], by omega, Nat.zero_le _, .inl h0⟩
 ·exact ⟨some ⟨T, 0, none⟩, c, rfl, e4, e5, .inr ⟨T, rfl, e2, (World.ownsRow.lt h T rfl).2, fun i hi => by
   rw [World.ownsRow.cellAt h i (by omega), List.getElem?_map, List.getD_eq_getElem?_getD, List.getElem?_eq_getElem hi]; rfl⟩⟩
theorem wp_appT {ops : Array Oper} {rest : List Oper} {o : Oper} {a : Act} {Q : Exit → Act → World → Prop} {W : World} (hgd : o.guard = none) (s x : Operand)
  (ho : o.op = .call { callee := .builtin .append, args := #[s, x], argTypes := #[72, 72] }) (base : Nat) (v : Value) (l : List Bool) (X : Bool) (hs : a.eval s = v) (hown : OwnT W base v l)
  {nb : Nat} (hx : a.eval x = .slice (some ⟨nb, 0, none⟩) 1 1) (hnb : nb = W.heap.size) (hl : l.length ≤ 1000000) (hb : base ≤ W.heap.size)
  (h : ∀ v' w', OwnT w' base v' (l ++ [X]) → W.grownBy w' v.ownBlock → wpList Tryz.prog ops Q rest (a.put o.dst v') w') : wpList Tryz.prog ops Q (o :: rest) a (W.alloc (Obj.cells #[.bool X] 4)) := by
 obtain ⟨i, hi, hz0, hz1, hz2⟩ := info_parts info_bool9
 refine wpList_app_one (P := Tryz.prog) W hgd s x 72 ho base 4 i _ 1 1 Tryz.underlying72 hi hz0 hz1 hz2 rfl (by decide) v l.length (l.map Value.bool) hs hown [.bool X] hx hnb rfl (by intro y hy; simp at hy; subst hy; rfl) (by unfold maxLen; omega) (by omega) hb ?_
 intro v' w2 ho2 hg2 _
 refine h v' w2 ?_ hg2
 unfold OwnT
 rw [List.length_append, List.map_append]
 exact ho2
def TabE (w : World) (T : Nat → Ty.TyV) (n : Nat) (ea : Option Addr) (ec : Nat) (e : Ending) (w' : World) : Prop :=
 w.grownBy w' none ∧ (if Ty.chk T n = 0 then ∃ va vc, e = .returned (.agg #[.slice ea n ec, .slice va n vc]) ∧ n ≤ vc ∧ (n = 0 ∨ ∃ b, va = some ⟨b, 0, none⟩ ∧ w.heap.size ≤ b ∧ b < w'.heap.size ∧ ∀ i, i < n → w'.cell? ⟨b, i, none⟩ = some (.bool (Ty.valB (Ty.lie T i)))) else e = ckF 90)
theorem ckNewTable {N : Nat} {w : World} {T : Nat → Ty.TyV} {n : Nat} {ea : Option Addr} {ec : Nat} (h : TysIn N w ea n ec T) (hN : N ≤ w.heap.size) (hn : n ≤ 1000000) :
  Calls Tryz.prog 56 #[.slice ea n ec] w fun e w' => TabE w T n ea ec e w' := by
 have hle := h.le
 have hmx := h.max
 unfold maxLen at hmx
 have HM : Hid (∀ (b : Bool) (e : Int) W, Calls Tryz.prog 42 #[.bool b, .int .i64 e] W fun r w' => r = (bif b then .returned (.tuple #[]) else ckF e) ∧ w' = W) := ckMust_any
 have HT : Hid (∀ W, w.grownBy W none → TysIn N W ea n ec T ∧ N ≤ W.heap.size) := fun W g => ⟨h.grow9 g, by have := g.size; omega⟩
 have g1 := World.grownBy_alloc w (Obj.cells #[.slice none 0 0, .slice none 0 0] 74) none
 have k2 : Bk (w.alloc (Obj.cells #[.slice none 0 0, .slice none 0 0] 74)) w.heap.size 74 [.slice none 0 0, .slice none 0 0] := Bk.new _ _ _
 obtain ⟨ch, hch⟩ : ∃ x, x = Ty.chk T n := ⟨_, rfl⟩
 have HC : Hid (Calls Tryz.prog 89 #[.slice ea n ec] (w.alloc (Obj.cells #[.slice none 0 0, .slice none 0 0] 74)) fun e w' => e = .returned (.int .i64 ch) ∧ w.grownBy w' none ∧ Bk w' w.heap.size 74 [.slice none 0 0, .slice none 0 0]) := by
  rw [hch]
  exact Calls.mono (check_any (HT.out _ g1).1 (HT.out _ g1).2) fun e w' h9 => ⟨h9.1, grown_trans g1 h9.2, k2.grow h9.2⟩
 have HCh : Hid (Ty.chk T n = ch) := hch.symm
 clear h g1 k2 hch
 rcases Bool.eq_false_or_eq_true (ch == 0) with q0 | q0
 case inr =>
  have HQ : Hid (¬ ch = 0) := by show ¬ _; simpa using q0
  go_enter Tryz.func56, Tryz.ntmps56
  go_wp2_with (first | (go_at_call 42; refine (HM.out _ _ _).mono ?_; rintro e w3 ⟨rfl, hw3⟩; rw [hw3]; clear hw3 w3; simp only [cond_false]) | (go_at_call 89; refine HC.out.mono ?_; rintro e w3 ⟨rfl, hg3, _⟩; have HG3 : Hid (w.grownBy w3 none) := hg3; clear hg3))
  exact ⟨rfl, HG3.out, by rw [HCh.out, if_neg HQ.out]⟩
 have HQ : Hid (ch = 0) := by show _ = _; simpa using q0
 have HVal : Hid (∀ W i, w.grownBy W none → i < n → Calls Tryz.prog 90 #[.slice ea n ec, .int .i64 (i : Int)] W fun e w' => e = .returned (.tuple #[.bool (Ty.valB (Ty.lie T i)), .int .i64 0]) ∧ W.grownBy w' none) := fun W i g hi => value7_ok (HT.out W g).1 (HT.out W g).2 (by rw [HCh.out, HQ.out]) hi
 go_enter Tryz.func56, Tryz.ntmps56
 go_wp2_with (first | (go_at_call 42; refine (HM.out _ _ _).mono ?_; rintro e w4 ⟨rfl, hw4⟩; rw [hw4]; clear hw4 w4; simp only [cond_true]) | (go_at_call 89; refine HC.out.mono ?_; rintro e w3 ⟨rfl, hg3, hk3⟩; have HG3 : Hid (w.grownBy w3 none) := hg3; have HK3 : Hid (Bk w3 w.heap.size 74 [.slice none 0 0, .slice none 0 0]) := hk3; clear hg3 hk3))
 have hB3 : w.heap.size < w3.heap.size := HK3.out.lt
 go_loopw [15] (fun ix wr => ∃ (k : Nat) (v : Value), ix = .int .i64 k ∧ k ≤ n ∧ w.grownBy wr none ∧ Bk wr w.heap.size 74 [.slice none 0 0, .slice none 0 0] ∧ Bk wr w3.heap.size 74 [.slice ea n ec, v] ∧ OwnT wr (w3.heap.size + 1) v ((List.range k).map fun i => Ty.valB (Ty.lie T i))) (fun ix _ => n - (intOf ix).toNat)
 case atStart => exact ⟨0, .slice none 0 0, rfl, Nat.zero_le _, grown_trans HG3.out (World.grownBy_alloc _ _ _), HK3.out.grow (World.grownBy_alloc _ _ _), Bk.new _ _ _, World.ownsRow_nil _ _ _ _⟩
 case round =>
  obtain ⟨k, v, rfl, hk, hg, hk2, hk3, ho⟩ := hrel
  have HG : Hid (w.grownBy wr none) := hg
  have HK2 : Hid (Bk wr w.heap.size 74 [.slice none 0 0, .slice none 0 0]) := hk2
  have HO : Hid (OwnT wr (w3.heap.size + 1) v ((List.range k).map fun i => Ty.valB (Ty.lie T i))) := ho
  have HK4 : Hid (Bk wr w3.heap.size 74 [.slice ea n ec, v]) := hk3
  have hlt3 := hk3.lt
  by_cases hkn : k < n
  ·have hkn' : (k : Int) < n := by omega
   obtain ⟨z, hz⟩ : ∃ z, z = Ty.valB (Ty.lie T k) := ⟨_, rfl⟩
   have HV := HVal.out wr k HG.out hkn
   rw [← hz] at HV
   have HV2 : Hid (Calls Tryz.prog 90 #[.slice ea n ec, .int .i64 (k : Int)] wr fun e w' => e = .returned (.tuple #[.bool z, .int .i64 0]) ∧ wr.grownBy w' none) := HV
   have HZ : Hid (((List.range k).map fun i => Ty.valB (Ty.lie T i)) ++ [z] = (List.range (k + 1)).map fun i => Ty.valB (Ty.lie T i)) := by show _ = _; rw [hz, List.range_succ, List.map_append, List.map_singleton]
   clear HV hz hg hk2 hk3 ho
   generalize hls : ((List.range k).map fun i => Ty.valB (Ty.lie T i)) = ls at *
   have HLs : Hid (ls.length ≤ 1000000) := by show _ ≤ _; rw [← hls]; simp; omega
   clear hls
   go_wp2_with (first | (go_at_call 90; refine HV2.out.mono ?_; rintro e w5 ⟨rfl, hg5⟩; have HG5 : Hid (w.grownBy w5 none ∧ wr.grownBy w5 none) := ⟨grown_trans HG.out hg5, hg5⟩; have HK5 : Hid (Bk w5 w3.heap.size 74 [.slice ea n ec, v]) := HK4.out.grow hg5; have y1 := HK5.out.cell (i := 1) rfl; have HO5 : Hid (OwnT w5 (w3.heap.size + 1) v ls) := HO.out.grow hg5; clear hg5) | (at_builtin; refine wp_appT rfl _ _ rfl (w3.heap.size + 1) v ls z rfl HO5.out rfl (by simp) HLs.out (by have := HG5.out.2.size; omega) ?_; intro v6 w6 ho6 hg6; obtain ⟨va6, vc6, hv6, _⟩ := ho6.lie; rw [List.length_append, List.length_singleton] at hv6; subst hv6; have hC6 : Ch w5 w6 (match v.ownBlock with | some q => [q] | none => []) := (by cases hob : v.ownBlock with | none => rw [hob] at hg6; exact Ch.of hg6 | some q => rw [hob] at hg6; exact Ch.one hg6 (by simp)); have hne : ∀ b, b ≤ w3.heap.size → b ∉ (match v.ownBlock with | some q => [q] | none => []) := (fun b hb => by cases hob : v.ownBlock with | none => simp | some q => have := HO5.out.base q hob; simp; omega); have hK6 := HK5.out.ch hC6 (hne _ (Nat.le_refl _)); have f6 := hK6.frozen 1; have c6 := hK6.cell (i := 1) rfl; have HC6 : Hid (Ch w5 w6 (match v.ownBlock with | some q => [q] | none => []) ∧ (∀ b, b ≤ w3.heap.size → b ∉ (match v.ownBlock with | some q => [q] | none => [])) ∧ Bk w6 w3.heap.size 74 [.slice ea n ec, v] ∧ OwnT w6 (w3.heap.size + 1) (.slice va6 (ls.length + 1) vc6) (ls ++ [z])) := ⟨hC6, hne, hK6, ho6⟩; clear hC6 hne hK6 ho6 hg6))
   go_roundw
   case rel =>
    obtain ⟨e1, e2, e3, e4⟩ := HC6.out
    have hset : Ch w6 (w6.setCell ⟨w3.heap.size, 1, none⟩ (.slice va6 (ls.length + 1) vc6)) [w3.heap.size] := Ch.one (grown_set _ _ _ _) (by simp)
    have hG6 : w.grownBy w6 none := by
     refine ((Ch.of (l := match v.ownBlock with | some q => [q] | none => []) HG5.out.1).trans e1).nil fun q hq => ?_
     have h9 : ¬ q ≤ w3.heap.size := fun h => e2 q h hq
     omega
    refine ⟨k + 1, _, by go_num, by omega, ((Ch.of (l := [w3.heap.size]) hG6).trans hset).nil (fun q hq => by simp at hq; omega), ?_, e3.set 1 _, ?_⟩
    ·exact ((HK2.out.grow HG5.out.2).ch e1 (e2 _ (by omega))).ch hset (by simp; omega)
    ·rw [← HZ.out]
     exact e4.ch hset (fun q hq => by have := e4.base q hq; simp; omega)
   case measure => simp [intOf]; omega
  ·obtain rfl : k = n := by omega
   obtain ⟨va, vc, hv, hvc, _, hvl⟩ := ho.lie
   have hll : ((List.range k).map fun i => Ty.valB (Ty.lie T i)).length = k := by simp
   rw [hll] at hv hvc hvl
   subst hv
   have t0 := hk3.cell (i := 0) rfl
   have t1 := hk3.cell (i := 1) rfl
   have s0 := hk2.cell (i := 0) rfl
   have s1 := hk2.cell (i := 1) rfl
   have f0 := hk2.frozen 0
   have f1 := hk2.frozen 1
   have hk7 := (hk2.set 0 (.slice ea k ec)).set 1 (.slice va k vc)
   have r0 := hk7.cell (i := 0) rfl
   have r1 := hk7.cell (i := 1) rfl
   have hC7 : Ch wr ((wr.setCell ⟨w.heap.size, 0, none⟩ (.slice ea k ec)).setCell ⟨w.heap.size, 1, none⟩ (.slice va k vc)) [w.heap.size] := (Ch.one (grown_set _ _ _ _) (by simp)).trans (Ch.one (grown_set _ _ _ _) (by simp))
   have HE : Hid (w.grownBy ((wr.setCell ⟨w.heap.size, 0, none⟩ (.slice ea k ec)).setCell ⟨w.heap.size, 1, none⟩ (.slice va k vc)) none ∧ (k = 0 ∨ ∃ b, va = some ⟨b, 0, none⟩ ∧ w.heap.size ≤ b ∧ b < ((wr.setCell ⟨w.heap.size, 0, none⟩ (.slice ea k ec)).setCell ⟨w.heap.size, 1, none⟩ (.slice va k vc)).heap.size ∧ ∀ i, i < k → ((wr.setCell ⟨w.heap.size, 0, none⟩ (.slice ea k ec)).setCell ⟨w.heap.size, 1, none⟩ (.slice va k vc)).cell? ⟨b, i, none⟩ = some (.bool (Ty.valB (Ty.lie T i))))) := by
    refine ⟨((Ch.of (l := [w.heap.size]) hg).trans hC7).nil (by simp), ?_⟩
    rcases hvl with h0 | ⟨b, e1, e2, e3, e4⟩
    ·exact .inl h0
    ·refine .inr ⟨b, e1, by omega, by have := hC7.size; omega, fun i hi => ?_⟩
     have h9 := e4 i hi
     rw [show ((List.range k).map fun i => Ty.valB (Ty.lie T i)).getD i false = Ty.valB (Ty.lie T i) from by simp [List.getD_eq_getElem?_getD, hi]] at h9
     exact hC7.cell h9 (by simp; omega)
   have HVc : Hid (k ≤ vc) := hvc
   clear hvl hvc hk7 hC7 hg hk2 hk3 ho hll
   go_wp2
   refine ⟨rfl, .agg #[.slice ea k ec, .slice va k vc], ?_, HE.out.1, ?_⟩
   ·simp [results, show Tryz.func56.results = #[.cell 2 74] from rfl, go_sem, r0, r1]
   ·rw [HCh.out, if_pos HQ.out]
    exact ⟨va, vc, rfl, HVc.out, HE.out.2⟩
end Go.Proofs.YtpcgkggpmipiaaaGreat
