/- Contracts and plain facts that the walks share. -/
import Derived.Test.YtpcgkggpmipiaaaGreatG10
import Derived.Test.YtpcgkggpmipiaaaGreatRuLx
namespace Go.Proofs.YtpcgkggpmipiaaaGreat
open Go.RowKit
set_option linter.unusedVariables false
theorem ckMust_any (b : Bool) (e : Int) (w : World) : Calls Tryz.prog 42 #[.bool b, .int .i64 e] w fun r w' => r = (bif b then .returned (.tuple #[]) else ckF e) ∧ w' = w := by
 cases b
 ·exact ckMust_no e w
 ·exact ckMust_ok e w
structure Kf (N : Nat) (W1 : World) (SB : Nat) (c : Ck.En) (A : ScA) (loops nodes deep : Int) (B4 : Nat) (t n : Int) : Prop where
 k0 : ∀ W, W1.grownBy W none → W.cell? ⟨SB, 0, none⟩ = some (.slice A.ea c.n A.ec)
 k1 : ∀ W, W1.grownBy W none → W.cell? ⟨SB, 1, none⟩ = some (.slice A.va c.n A.vc)
 k4 : ∀ W, W1.grownBy W none → W.cell? ⟨SB, 4, none⟩ = some (.slice A.la c.f.locals.length A.lc)
 x1 : ∀ W, W1.grownBy W none → W.cell? ⟨B4, 1, none⟩ = some (.int .i64 t)
 x2 : ∀ W, W1.grownBy W none → W.cell? ⟨B4, 2, none⟩ = some (.int .i64 n)
 sc : ∀ W, W1.grownBy W none → Sc N W SB c A loops nodes deep
theorem ck_open {N : Nat} {w : World} {SB : Nat} {c : Ck.En} {A : ScA} {loops nodes deep : Int} (h : Sc N w SB c A loops nodes deep) (op t n : Int) (s : ByteArray) (ax : Option Addr) (kx cx : Nat) :
  ∃ W1 B4, Hid (w.alloc (Obj.cells #[.int .i64 op, .int .i64 t, .int .i64 n, .string s, .slice ax kx cx] 45) = W1 ∧ w.heap.size = B4) ∧ Hid (w.grownBy W1 none) ∧ Hid (Kf N W1 SB c A loops nodes deep B4 t n) := by
 have g1 := World.grownBy_alloc w (Obj.cells #[.int .i64 op, .int .i64 t, .int .i64 n, .string s, .slice ax kx cx] 45) none
 have hS := h.grow g1
 have kb : Bk (w.alloc (Obj.cells #[.int .i64 op, .int .i64 t, .int .i64 n, .string s, .slice ax kx cx] 45)) w.heap.size 45 [.int .i64 op, .int .i64 t, .int .i64 n, .string s, .slice ax kx cx] := Bk.new _ _ _
 exact ⟨_, _, ⟨rfl, rfl⟩, g1, fun W g => (hS.grow g).k.cell (i := 0) rfl, fun W g => (hS.grow g).k.cell (i := 1) rfl, fun W g => (hS.grow g).k.cell (i := 4) rfl, fun W g => (kb.grow g).cell (i := 1) rfl, fun W g => (kb.grow g).cell (i := 2) rfl, fun W g => hS.grow g⟩
def CkM (f : FuncId) (w : World) (SB : Nat) (op t n : Int) (s : ByteArray) (ax : Option Addr) (kx cx : Nat) (aa : Option Addr) (k ac : Nat) (r : Except Int Int) : Prop :=
 Calls Tryz.prog f #[.pointer (some ⟨SB, 0, none⟩), exV op t n s ax kx cx, .slice aa k ac] w fun e w' => e = ckE (Value.int .i64) r ∧ w.grownBy w' none
theorem ent_nat {k : Nat} {x : Int} (h : 0 ≤ x ∧ x < k) : ∃ m : Nat, x = (m : Int) ∧ m < k := ⟨x.toNat, by omega, by omega⟩
theorem list1 {l : List Int} {k : Nat} (h : l.length = 1) (hn : ∀ x, x ∈ l → 0 ≤ x ∧ x < (k : Int)) : ∃ a : Nat, l = [(a : Int)] ∧ a < k := by
 match l, h with
 | [a], _ =>
  obtain ⟨m, rfl, hm⟩ := ent_nat (hn a (by simp))
  exact ⟨m, rfl, hm⟩
theorem list2 {l : List Int} {k : Nat} (h : l.length = 2) (hn : ∀ x, x ∈ l → 0 ≤ x ∧ x < (k : Int)) : ∃ a b : Nat, l = [(a : Int), (b : Int)] ∧ a < k ∧ b < k := by
 match l, h with
 | [a, b], _ =>
  obtain ⟨m, rfl, hm⟩ := ent_nat (hn a (by simp))
  obtain ⟨m2, rfl, hm2⟩ := ent_nat (hn b (by simp))
  exact ⟨m, m2, rfl, hm, hm2⟩
theorem list3 {l : List Int} {k : Nat} (h : l.length = 3) (hn : ∀ x, x ∈ l → 0 ≤ x ∧ x < (k : Int)) : ∃ a b d : Nat, l = [(a : Int), (b : Int), (d : Int)] ∧ a < k ∧ b < k ∧ d < k := by
 match l, h with
 | [a, b, d], _ =>
  obtain ⟨m, rfl, hm⟩ := ent_nat (hn a (by simp))
  obtain ⟨m2, rfl, hm2⟩ := ent_nat (hn b (by simp))
  obtain ⟨m3, rfl, hm3⟩ := ent_nat (hn d (by simp))
  exact ⟨m, m2, m3, rfl, hm, hm2, hm3⟩
theorem nums_at {M : Nat} {w : World} {aa : Option Addr} {k ac : Nat} {F : Nat → Int} (h : NumIn M w aa k ac F) (hk : 0 < k) : ∃ ab ao, aa = some ⟨ab, ao, none⟩ ∧ Hid (∀ W, w.grownBy W none → ∀ i, i < k → W.cell? ⟨ab, ao + i, none⟩ = some (.int .i64 (F i))) ∧ k ≤ ac := by
 rcases h.lie with h0 | ⟨b, off, e, hb, hi⟩
 ·omega
 ·exact ⟨b, off, e, fun W g i hi2 => by
   obtain ⟨b', o', e', _, hc⟩ := (h.grow g).at hi2
   rw [e] at e'
   injection e' with e'
   injection e' with e1 e2
   rw [e1, e2]; exact hc, h.le⟩
end Go.Proofs.YtpcgkggpmipiaaaGreat
namespace Go.Proofs.YtpcgkggpmipiaaaGreat
set_option maxRecDepth 100000
set_option maxHeartbeats 32000000
open Go.RowKit
set_option linter.unusedVariables false
set_option maxRecDepth 100000
theorem wp_appZ9 {ops : Array Oper} {rest : List Oper} {o : Oper} {a : Act} {Q : Exit → Act → World → Prop} {W : World} (hgd : o.guard = none) (s x : Operand)
  (ho : o.op = .call { callee := .builtin .append, args := #[s, x], argTypes := #[48, 48] }) (base : Nat) (v : Value) (l : List Int) (X : Int) (hs : a.eval s = v) (hown : OwnZ W base v l)
  {nb : Nat} (hx : a.eval x = .slice (some ⟨nb, 0, none⟩) 1 1) (hnb : nb = W.heap.size) (hl : l.length ≤ 100000000) (hb : base ≤ W.heap.size)
  (h : ∀ v' w', OwnZ w' base v' (l ++ [X]) → W.grownBy w' v.ownBlock → wpList Tryz.prog ops Q rest (a.put o.dst v') w') : wpList Tryz.prog ops Q (o :: rest) a (W.alloc (Obj.cells #[.int .i64 X] 3)) := by
 subst hnb
 obtain ⟨i, hi, hz0, hz1, hz2⟩ := info_parts info_int
 have hl1 : OwnZ (W.alloc (Obj.cells #[.int .i64 X] 3)) W.heap.size (.slice (some ⟨W.heap.size, 0, none⟩) 1 1) [X] := World.ownsRow_lit (base := W.heap.size) (e := 3) (size := 1) W #[.int .i64 X] 1 (Nat.le_refl _) (by decide) rfl
 refine wpList_append_own _ hgd s x 48 ho base 3 i (.int .i64 0) 1 8 Tryz.underlying48 hi hz0 hz1 hz2 rfl (by decide) v l.length (l.map (Value.int .i64)) hs (hown.grow (World.grownBy_alloc _ _ _)) ⟨W.heap.size, 0, none⟩ 1 1 [.int .i64 X] hx (by simp)
  (fun j y hj => World.ownsRow.cells hl1 rfl j y hj) (by intro y hy; simp at hy; subst hy; rfl) (by unfold maxLen; omega) (by omega) (by simp; omega) ?_
 intro v' w2 ho2 hg2 _
 refine h v' w2 ?_ (grown_trans (grown_noneR _ (World.grownBy_alloc _ _ _)) hg2)
 unfold OwnZ
 rw [List.length_append, List.map_append]
 exact ho2
def TmX (x : Pg.Ex) : Prop := ∀ (N : Nat) (w : World) (SB : Nat) (c : Ck.En) (A : ScA) (loops nodes deep : Int) (a : Option Addr) (k : Nat), Ck.Wf c → Sc N w SB c A loops nodes deep → ExL (fun b => b < N) w a k x.args → x.s.size ≤ reachBytes →
 0 ≤ nodes → nodes + x.dl.nd < 33554432 → 0 ≤ deep → deep + x.dl.dp < 65536 →
 Calls Tryz.prog 45 #[.pointer (some ⟨SB, 0, none⟩), exV x.op x.t x.n x.s a x.args.length k] w fun e w' => e = ckE (Value.int .i64) (Ck.tm c x) ∧ Ch w w' [SB] ∧ ((∃ v, Ck.tm c x = .ok v) → Sc N w' SB c A loops (nodes + x.dl.nd) deep)
def TmsE (N : Nat) (w : World) (SB : Nat) (c : Ck.En) (A : ScA) (loops nodes deep : Int) (r : Except Int (List Int)) (e : Ending) (w' : World) : Prop := match r with
 | .error er => e = ckF er
 | .ok vs => ∃ v, e = .returned v ∧ OwnZ w' w.heap.size v vs ∧ Sc N w' SB c A loops nodes deep
theorem ckTerms (l : List Pg.Ex) (ih : ∀ y, y ∈ l → TmX y) {N : Nat} {w : World} {SB : Nat} {c : Ck.En} {A : ScA} {loops nodes deep : Int} {a : Option Addr} {k : Nat} (hc : Ck.Wf c) (h : Sc N w SB c A loops nodes deep) (hl : ExL (fun b => b < N) w a k l) (h0 : 0 ≤ nodes) (h1 : nodes + (Pg.dCat Pg.Ex.dl l).nd < 33554432) (h2 : 0 ≤ deep) (h3 : deep + (Pg.dCat Pg.Ex.dl l).dp < 65536) :
  Calls Tryz.prog 79 #[.pointer (some ⟨SB, 0, none⟩), .slice a l.length k] w fun e w' => Ch w w' [SB] ∧ TmsE N w SB c A loops (nodes + (Pg.dCat Pg.Ex.dl l).nd) deep (Ck.tms c l) e w' := by
 have hle := hl.le
 have hmx := hl.max
 unfold maxLen at hmx
 have hln := Ck.len_nd l
 have hlb : l.length ≤ 100000000 := by omega
 have hSlt := h.k.lt
 have hNB := h.nb
 have hnd : ∀ j, j ≤ l.length → (Pg.dCat Pg.Ex.dl (l.take j)).nd ≤ (Pg.dCat Pg.Ex.dl l).nd := fun j _ => (Pg.dCat_le Pg.Ex.dl l j).1
 have HL : Hid (∀ W, Ch w W [SB] → ExL (fun b => b < N) W a k l) := fun W g => ExL.ch hl g (by intro b hb; simp; omega) (fun _ h => h)
 have HS : Hid (Sc N w SB c A loops nodes deep) := h
 have HI : Hid (∀ y, y ∈ l → TmX y) := ih
 have HC : Hid (Ck.Wf c) := hc
 have HN : Hid (∀ j, (hj : j < l.length) → nodes + (Pg.dCat Pg.Ex.dl (l.take j)).nd + (l[j]).dl.nd < 33554432 ∧ deep + (l[j]).dl.dp < 65536 ∧ nodes + (Pg.dCat Pg.Ex.dl (l.take (j + 1))).nd = nodes + (Pg.dCat Pg.Ex.dl (l.take j)).nd + (l[j]).dl.nd) := fun j hj => by
  have e1 := (Pg.nd_succ Pg.Ex.dl hj)
  have e2 := hnd (j + 1) (by omega)
  have e3 := (Pg.dCat_le Pg.Ex.dl l (j + 1)).2.1
  exact ⟨by omega, by omega, by omega⟩
 obtain ⟨R, hR⟩ : ∃ R, R = Ck.tms c l := ⟨_, rfl⟩
 have HR : Hid (R = Ck.tms c l) := hR
 rw [← hR]
 obtain ⟨nd, hndd⟩ : ∃ x, x = nodes + ((Pg.dCat Pg.Ex.dl l).nd : Int) := ⟨_, rfl⟩
 have HD : Hid (nd = nodes + ((Pg.dCat Pg.Ex.dl l).nd : Int)) := hndd
 rw [← hndd]
 clear hR hndd h hl ih hc hnd h1 h3 hln
 go_enter Tryz.func79, Tryz.ntmps79
 go_wp2_with fail
 go_loopw [4, 9] (fun v ix wr => ∃ (j : Nat) (vs : List Int), ix = .int .i64 j ∧ j ≤ l.length ∧ vs.length = j ∧ Ck.tms c (l.take j) = .ok vs ∧ OwnZ wr w.heap.size v vs ∧ Ch w wr [SB] ∧ Sc N wr SB c A loops (nodes + (Pg.dCat Pg.Ex.dl (l.take j)).nd) deep) (fun _ ix _ => l.length - (intOf ix).toNat)
 case atStart => exact ⟨0, [], rfl, Nat.zero_le _, rfl, rfl, World.ownsRow_nil _ _ _ _, Ch.of (World.grownBy.refl _ _), by simpa [Pg.dCat, Pg.Dl.nil] using HS.out⟩
 case round =>
  obtain ⟨j, vs, rfl, hj, hvl, hvs, ho, hg, hS⟩ := hrel
  obtain ⟨av, cv, hv, hcv, _⟩ := ho.slice
  rw [hvl] at hv hcv
  subst hv
  have HO : Hid (OwnZ wr w.heap.size (.slice av j cv) vs) := ho
  have HG : Hid (Ch w wr [SB]) := hg
  have HS2 : Hid (Sc N wr SB c A loops (nodes + (Pg.dCat Pg.Ex.dl (l.take j)).nd) deep) := hS
  have HV : Hid (vs.length = j ∧ Ck.tms c (l.take j) = .ok vs) := ⟨hvl, hvs⟩
  have hsz := hg.size
  clear ho hg hS hvs
  by_cases hjn : j < l.length
  ·have hjn' : (j : Int) < l.length := by omega
   obtain ⟨b, o, rfl, hb, hx⟩ := (HL.out wr HG.out).at hjn
   obtain ⟨a1, k1, he⟩ := hx.row
   have c0 := he.c0
   have c1 := he.c1
   have c2 := he.c2
   have c3 := he.c3
   have c4 := he.c4
   obtain ⟨n1, n2, n3⟩ := HN.out j hjn
   obtain ⟨y, hy⟩ : ∃ y, y = l[j] := ⟨_, rfl⟩
   rw [← hy] at he c0 c1 c2 c3 c4 n1 n2 n3
   have hX : TmX y := by rw [hy]; exact HI.out _ (List.getElem_mem hjn)
   have HY : Hid (Ck.tm c l[j] = Ck.tm c y) := by show _ = _; rw [hy]
   have HT : Hid (∀ W, wr.grownBy W none → Calls Tryz.prog 45 #[.pointer (some ⟨SB, 0, none⟩), exV y.op y.t y.n y.s a1 y.args.length k1] W fun e w' => e = ckE (Value.int .i64) (Ck.tm c y) ∧ Ch W w' [SB] ∧ ((∃ v, Ck.tm c y = .ok v) → Sc N w' SB c A loops (nodes + (Pg.dCat Pg.Ex.dl (l.take j)).nd + y.dl.nd) deep)) := fun W g =>
    hX N W SB c A loops _ deep a1 k1 HC.out (HS2.out.grow g) (ExL.ch (l := []) he.args (Ch.of g) (by simp) (fun _ h => h)) he.sz (by omega) n1 h2 n2
   have HN3 : Hid (nodes + ((Pg.dCat Pg.Ex.dl (l.take (j + 1))).nd : Int) = nodes + (Pg.dCat Pg.Ex.dl (l.take j)).nd + y.dl.nd) := n3
   clear he hx hX hy n1 n2 n3
   obtain ⟨op, t, n, s, args⟩ := y
   simp only [Pg.Ex.op, Pg.Ex.t, Pg.Ex.n, Pg.Ex.s, Pg.Ex.args] at c0 c1 c2 c3 c4 HT
   generalize (Pg.Ex.mk op t n s args).dl.nd = dy at *
   cases hty : Ck.tm c (.mk op t n s args) with
   | error er =>
    rw [hty] at HT HY
    simp only [ckE] at HT
    go_wp2_with (go_at_call 45; refine (HT.out _ (World.grownBy_alloc _ _ _)).mono ?_; rintro e w3 ⟨rfl, hg3, _⟩; have HG3 : Hid (Ch w w3 [SB]) := (HG.out.trans (Ch.of (World.grownBy_alloc _ _ _))).trans hg3; clear hg3)
    exact ⟨rfl, HG3.out, by rw [HR.out, Ck.tms_err hjn HV.out.2 HY.out]; rfl⟩
   | ok v =>
    rw [hty] at HT HY
    simp only [ckE] at HT
    go_wp2_with (first
     | (go_at_call 45; refine (HT.out _ (World.grownBy_alloc _ _ _)).mono ?_; rintro e w3 ⟨rfl, hg3, hS3⟩; have hg4 : Ch wr w3 [SB] := (Ch.of (World.grownBy_alloc _ _ _)).trans hg3; have HG4 : Hid (Ch wr w3 [SB]) := hg4; have HG3 : Hid (Ch w w3 [SB]) := HG.out.trans hg4; have HS3 : Hid (Sc N w3 SB c A loops (nodes + (Pg.dCat Pg.Ex.dl (l.take j)).nd + dy) deep) := hS3 ⟨v, rfl⟩; clear hg3 hS3 hg4)
     | (at_builtin; refine wp_appZ9 rfl _ _ rfl w.heap.size (.slice av j cv) vs v rfl (HO.out.ch HG4.out (fun q hq => by have := HO.out.base q hq; simp; omega)) rfl rfl (by have := HV.out.1; omega) (by have := HG3.out.size; omega) ?_; intro v5 w5 ho5 hg5))
    have hg6 : Ch w w5 [SB] := by
     cases hav : (Value.slice av j cv).ownBlock with
     | none => rw [hav] at hg5; exact HG3.out.trans (Ch.of hg5)
     | some T5 => rw [hav] at hg5; exact HG3.out.new (HO.out.base T5 hav) hg5
    have hS6 : Sc N w5 SB c A loops (nodes + (Pg.dCat Pg.Ex.dl (l.take (j + 1))).nd) deep := by
     rw [HN3.out]
     cases hav : (Value.slice av j cv).ownBlock with
     | none => rw [hav] at hg5; exact HS3.out.grow hg5
     | some T5 => rw [hav] at hg5; exact HS3.out.other hg5 (by have := HO.out.base T5 hav; omega)
    go_roundw
    case rel => exact ⟨j + 1, vs ++ [v], by go_num, by omega, by simp [HV.out.1], Ck.tms_succ hjn HV.out.2 HY.out, ho5, hg6, hS6⟩
    case measure => simp [intOf]; omega
  ·obtain rfl : j = l.length := by omega
   go_wp2
   go_ret
   have e1 := HV.out.2
   have e2 := HS2.out
   rw [List.take_length] at e1 e2
   exact ⟨HG.out, by rw [HR.out, e1, HD.out]; exact ⟨_, rfl, HO.out, e2⟩⟩
end Go.Proofs.YtpcgkggpmipiaaaGreat
