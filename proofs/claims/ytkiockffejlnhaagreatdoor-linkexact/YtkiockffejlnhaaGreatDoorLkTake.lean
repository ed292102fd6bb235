/- link's take: parts of pieces, or that these may not be. -/
import Derived.Test.YtkiockffejlnhaaGreatDoorLkMeas
namespace Go.Proofs.YtkiockffejlnhaaGreatDoor
set_option maxRecDepth 100000
set_option maxHeartbeats 32000000
open Go.RowKit
set_option linter.unusedVariables false
structure PcA where
 ia : Option Addr
 ic : Nat
 ma : Option Addr
 mc : Nat
 out : Int
structure PcAt (N : Nat) (w : World) (b o : Nat) (P : Lk.PcV) (A : PcA) : Prop where
 c0 : w.cell? ⟨b, o, none⟩ = some (.slice A.ia P.n A.ic)
 c1 : w.cell? ⟨b, o + 1, none⟩ = some (.slice A.ma P.m A.mc)
 c2 : w.cell? ⟨b, o + 2, none⟩ = some (.int .i64 A.out)
 ins : InsIn N w A.ia P.n A.ic P.I
 mks : NumIn N w A.ma P.m A.mc P.M
theorem PcAt.ch {N : Nat} {w w' : World} {b o : Nat} {P : Lk.PcV} {A : PcA} {l : List Nat} (h : PcAt N w b o P A) (hg : Ch w w' l) (hl : ∀ k, k ∈ l → N ≤ k) (hb : b < N) : PcAt N w' b o P A :=
 have hn : b ∉ l := fun hm => by have := hl b hm; omega
 ⟨hg.cell h.c0 hn, hg.cell h.c1 hn, hg.cell h.c2 hn, h.ins.ch hg hl, h.mks.ch hg hl⟩
structure PcsIn (N : Nat) (w : World) (a : Option Addr) (K c : Nat) (V : Nat → Lk.PcV) (A : Nat → PcA) : Prop where
 le : K ≤ c
 max : c ≤ maxLen
 lie : K = 0 ∨ ∃ b off, a = some ⟨b, off, none⟩ ∧ b < N ∧ ∀ k, k < K → PcAt N w b (off + k * 3) (V k) (A k)
theorem PcsIn.ch {N : Nat} {w w' : World} {a : Option Addr} {K c : Nat} {V : Nat → Lk.PcV} {A : Nat → PcA} {l : List Nat} (h : PcsIn N w a K c V A) (hg : Ch w w' l) (hl : ∀ k, k ∈ l → N ≤ k) : PcsIn N w' a K c V A :=
 ⟨h.le, h.max, by
  rcases h.lie with h0 | ⟨b, off, e, hb, hi⟩
  ·exact .inl h0
  ·exact .inr ⟨b, off, e, hb, fun i hi' => (hi i hi').ch hg hl hb⟩⟩
theorem PcsIn.at {N : Nat} {w : World} {a : Option Addr} {K c : Nat} {V : Nat → Lk.PcV} {A : Nat → PcA} (h : PcsIn N w a K c V A) {k : Nat} (hk : k < K) : ∃ b off, a = some ⟨b, off, none⟩ ∧ b < N ∧ PcAt N w b (off + k * 3) (V k) (A k) := by
 rcases h.lie with h0 | ⟨b, off, e, hb, hh⟩
 ·omega
 ·exact ⟨b, off, e, hb, hh k hk⟩
namespace Lk
def piecesB (t : Int) (K : Nat) (V : Nat → PcV) : Bool := (List.range K).all fun k => marksB (V k) && instsB t K (V k)
theorem piecesB_iff {t : Int} {K : Nat} {V : Nat → PcV} : piecesB t K V = true ↔ ∀ k, k < K → marksB (V k) = true ∧ instsB t K (V k) = true := by unfold piecesB; simp
theorem piecesB_no {t : Int} {K : Nat} {V : Nat → PcV} {k : Nat} (hk : k < K) (h : (marksB (V k) && instsB t K (V k)) = false) : piecesB t K V = false := by
 cases hb : piecesB t K V
 ·rfl
 ·have := piecesB_iff.1 hb k hk
  rw [this.1, this.2] at h
  cases h
theorem PcV.ok_of {t p : Int} {P : PcV} (h1 : marksB P = true) (h2 : instsB t p P = true) : P.Ok t p := ⟨marksB_iff.1 h1, instsB_iff.1 h2⟩
end Lk
theorem info_pp : (Tryz.prog.info? 59).map (fun i => (i.zero, i.size, i.bytes)) = some (some (.pointer none), 1, 8) := by kernel_rfl
theorem wp_appP {ops : Array Oper} {rest : List Oper} {o : Oper} {a : Act} {Q : Exit → Act → World → Prop} {W : World} (hgd : o.guard = none) (s x : Operand)
  (ho : o.op = .call { callee := .builtin .append, args := #[s, x], argTypes := #[56, 56] }) (base K : Nat) (v : Value) (f : Nat → Nat) (B : Nat) (hs : a.eval s = v) (hown : W.ownsRow base 59 1 v K ((List.range K).map fun k => Value.pointer (some ⟨f k, 0, none⟩)))
  (hx : a.eval x = .slice (some ⟨W.heap.size, 0, none⟩) 1 1) (hl : K ≤ 100) (hb : base ≤ W.heap.size) (hf : f K = B)
  (h : ∀ v' w', w'.ownsRow base 59 1 v' (K + 1) ((List.range (K + 1)).map fun k => Value.pointer (some ⟨f k, 0, none⟩)) → W.grownBy w' v.ownBlock → wpList Tryz.prog ops Q rest (a.put o.dst v') w') : wpList Tryz.prog ops Q (o :: rest) a (W.alloc (Obj.cells #[.pointer (some ⟨B, 0, none⟩)] 59)) := by
 obtain ⟨i, hi, hz0, hz1, hz2⟩ := info_parts info_pp
 refine wpList_append_own _ hgd s x 56 ho base 59 i (.pointer none) 1 8 Tryz.underlying56 hi hz0 hz1 hz2 rfl (by decide) v K _ hs (World.ownsRow.alloc hown _) ⟨W.heap.size, 0, none⟩ 1 1 [.pointer (some ⟨B, 0, none⟩)] hx rfl
  (by intro j u hj; match j, hj with | 0, hj => simp at hj; subst hj; simp [Addr.add]) (by simp; rfl) (by unfold maxLen; omega) (by omega) (by simp; omega) ?_
 intro v' w2 ho2 hg2 _
 refine h v' w2 ?_ (gtr (grown_noneR _ gal) hg2)
 rw [List.range_succ, List.map_append]
 subst hf
 exact ho2
theorem Rw.app {N : Nat} {w w' : World} {rv rv' : Value} {K fe : Nat} {V : Nat → Lk.PcV} {A : Nat → PtA} {S : Nat → Nat → Int} (h : Rw N w rv K fe V A S) {n : PtA} (hp : Pt N w n.B fe (V K) n.ia n.ma n.ic n.mc (.slice (some ⟨n.T, 0, none⟩) (V K).n (V K).n)) (hs : OwnN w N (.slice (some ⟨n.T, 0, none⟩) (V K).n (V K).n) (V K).n (S K)) (hd : ∀ j, j < K → (A j).T ≠ n.T)
  (ho : w'.ownsRow N 59 1 rv' (K + 1) ((List.range (K + 1)).map fun k => Value.pointer (some ⟨(if k < K then A k else n).B, 0, none⟩))) (hg : w.grownBy w' rv.ownBlock) : Rw N w' rv' (K + 1) fe V (fun k => if k < K then A k else n) S := by
 have hrow : ∀ g, rv.ownBlock = some g → N ≤ g ∧ ∃ cur, w.heap[g]? = some (.cells cur 59 (0, 0)) := fun g hgb => by
  rcases h.own.2 with ⟨e, _⟩ | ⟨g', c, cur, e, e1, e2, _⟩
  ·rw [e] at hgb; cases hgb
  ·rw [e] at hgb
   simp [Value.ownBlock] at hgb
   subst hgb
   exact ⟨e1, cur, e2⟩
 obtain ⟨l, hl, hln⟩ : ∃ l : List Nat, Ch w w' l ∧ ∀ k, k ∈ l → rv.ownBlock = some k := by
  cases hb : rv.ownBlock with
  | none => exact ⟨[], Ch.of (by rw [hb] at hg; exact hg), by simp⟩
  | some b => exact ⟨[b], Ch.one (by rw [hb] at hg; exact hg) (by simp), by simp⟩
 have hlN : ∀ k, k ∈ l → N ≤ k := fun k hk => (hrow k (hln k hk)).1
 have hBl : ∀ {B : Nat} {P : Lk.PcV} {ia ma : Option Addr} {ic mc : Nat} {sv : Value}, Pt N w B fe P ia ma ic mc sv → B ∉ l := fun hpt hm => by
  obtain ⟨_, cur, e⟩ := hrow _ (hln _ hm)
  have := hpt.blk
  rw [e] at this
  simp at this
 have hTl : ∀ {T m : Nat} {g : Nat → Int}, OwnN w N (.slice (some ⟨T, 0, none⟩) m m) m g → T ∉ l := fun hoo hm => by
  obtain ⟨_, cur, e⟩ := hrow _ (hln _ hm)
  rcases hoo.2 with ⟨e1, _⟩ | ⟨g', c, cur', e1, _, e2, _⟩
  ·cases e1
  ·simp at e1
   obtain ⟨rfl, _⟩ := e1
   rw [e] at e2
   simp at e2
 refine ⟨ho, fun k hk => ?_, fun k hk => ?_, fun j k hj hk hjk => ?_⟩
 ·by_cases hkK : k < K
  ·simp only [hkK, if_true]
   exact (h.pt k hkK).ch hl hlN (hBl (h.pt k hkK))
  ·obtain rfl : k = K := by omega
   simp only [Nat.lt_irrefl, if_false]
   exact hp.ch hl hlN (hBl hp)
 ·by_cases hkK : k < K
  ·simp only [hkK, if_true]
   exact (h.sz k hkK).ch hl (fun b hb => by simp [Value.ownBlock] at hb; subst hb; exact hTl (h.sz k hkK))
  ·obtain rfl : k = K := by omega
   simp only [Nat.lt_irrefl, if_false]
   exact hs.ch hl (fun b hb => by simp [Value.ownBlock] at hb; subst hb; exact hTl hs)
 ·by_cases h1 : j < K <;> by_cases h2 : k < K
  ·simp only [h1, h2, if_true]; exact h.dis j k h1 h2 hjk
  ·simp only [h1, h2, if_true, if_false]; exact hd j h1
  ·simp only [h1, h2, if_true, if_false]; exact fun e => hd k h2 e.symm
  ·omega
theorem Rw.nil (N : Nat) (w : World) (fe : Nat) (V : Nat → Lk.PcV) (A : Nat → PtA) (S : Nat → Nat → Int) : Rw N w (.slice none 0 0) 0 fe V A S := ⟨World.ownsRow_nil _ _ _ _, fun k hk => by omega, fun k hk => by omega, fun j k hj => by omega⟩
theorem own_if {N : Nat} {w : World} {rv : Value} {K : Nat} {A : Nat → PtA} (h : w.ownsRow N 59 1 rv K ((List.range K).map fun k => Value.pointer (some ⟨(A k).B, 0, none⟩))) (n : PtA) : w.ownsRow N 59 1 rv K ((List.range K).map fun k => Value.pointer (some ⟨(if k < K then A k else n).B, 0, none⟩)) := by
 rw [show (List.range K).map (fun k => Value.pointer (some ⟨(if k < K then A k else n).B, 0, none⟩)) = (List.range K).map (fun k => Value.pointer (some ⟨(A k).B, 0, none⟩)) from List.map_congr_left fun k hk => by rw [if_pos (List.mem_range.1 hk)]]
 exact h
theorem Pt.new {N : Nat} {w : World} {fe : Nat} {P : Lk.PcV} {A : PcA} (hN : N ≤ w.heap.size) (hi : InsIn N w A.ia P.n A.ic P.I) (hm : NumIn N w A.ma P.m A.mc P.M) :
  Pt N (w.alloc (.cells #[.func (.func fe) #[] #[], .slice A.ia P.n A.ic, .slice A.ma P.m A.mc, .slice none 0 0] 83)) w.heap.size fe P A.ia A.ma A.ic A.mc (.slice none 0 0) := by
 have hC := Ch.of (l := []) (World.grownBy_alloc w (.cells #[.func (.func fe) #[] #[], .slice A.ia P.n A.ic, .slice A.ma P.m A.mc, .slice none 0 0] 83) none)
 refine ⟨?_, hi.ch hC (by simp), hm.ch hC (by simp), hN⟩
 show (w.heap.push _)[w.heap.size]? = _
 simp
theorem take_r {N : Nat} {w : World} {a : Option Addr} {K c : Nat} {V : Nat → Lk.PcV} {A : Nat → PcA} (h : PcsIn N w a K c V A) (hTab : TabAt w) (hTN : 2 < N) (hNw : N ≤ w.heap.size) (hK0 : 0 < K) (hK : K ≤ 33) (hn : ∀ k, k < K → ((V k).n : Int) ≤ 8796093022208) :
  Calls Tryz.prog 20 #[.int .i64 1, .slice a K c] w fun e w' => w.grownBy w' none ∧
   ((Lk.piecesB 1 K V = true ∧ ∃ rv B, e = .returned (.tuple #[rv, .bool true]) ∧ Rw N w' rv K 60 V B (fun k => ((V k).sh 1).s)) ∨ (Lk.piecesB 1 K V = false ∧ e = .returned (.tuple #[.slice none 0 0, .bool false]))) := by
 have HPs : Hid (∀ W, w.grownBy W none → PcsIn N W a K c V A) := fun W g => h.ch (l := []) (Ch.of g) (by simp)
 have HTb : Hid (TabAt w) := hTab
 have HNn : Hid (∀ k, k < K → ((V k).n : Int) ≤ 8796093022208) := hn
 have HNo : Hid (∀ k, k < K → (Lk.marksB (V k) && Lk.instsB 1 K (V k)) = false → Lk.piecesB 1 K V = false) := fun k hk hf => Lk.piecesB_no hk hf
 have HYes : Hid ((∀ k, k < K → Lk.marksB (V k) = true ∧ Lk.instsB 1 K (V k) = true) → Lk.piecesB 1 K V = true) := Lk.piecesB_iff.2
 obtain ⟨R, hR⟩ : ∃ R, R = Lk.piecesB 1 K V := ⟨_, rfl⟩
 rw [← hR] at HNo HYes ⊢
 clear h hTab hn hR
 have hK0' : (0 : Int) < K := by omega
 have hK0'' : ((K : Int) == 0) = false := by simp; omega
 have hK' : (K : Int) ≤ 33 := by omega
 go_enter Tryz.func20, Tryz.ntmps20
 go_wp2_with (go_at_call 38; refine (encof_r _).mono ?_; rintro e w0 ⟨rfl, hw0⟩; rw [hw0]; clear hw0 w0)
 go_loopw [8, 31] (fun rv i wr => ∃ (k : Nat) (B : Nat → PtA), i = .int .i64 k ∧ k ≤ K ∧ Rw N wr rv k 60 V B (fun k => ((V k).sh 1).s) ∧ wr.ownsRow w.heap.size 59 1 rv k ((List.range k).map fun j => Value.pointer (some ⟨(B j).B, 0, none⟩)) ∧ w.grownBy wr none ∧ (∀ j, j < k → Lk.marksB (V j) = true ∧ Lk.instsB 1 K (V j) = true)) (fun _ i _ => K - (intOf i).toNat)
 case atStart => exact ⟨0, fun _ => ⟨0, 0, none, 0, none, 0⟩, rfl, Nat.zero_le _, Rw.nil _ _ _ _ _ _, World.ownsRow_nil _ _ _ _, gr0, fun j hj => by omega⟩
 case round =>
  obtain ⟨al, hal⟩ : ∃ al, al = u8 := ⟨_, rfl⟩
  obtain ⟨k, B, rfl, hk, hrw, how, hg, hall⟩ := hrel
  rw [← hal] at hrw how ⊢
  clear hal
  have HRw : Hid (Rw N wr al k 60 V B (fun k => ((V k).sh 1).s)) := hrw
  have HG : Hid (w.grownBy wr none) := hg
  have HAl : Hid (∀ j, j < k → Lk.marksB (V j) = true ∧ Lk.instsB 1 K (V j) = true) := hall
  have hNr : N ≤ wr.heap.size := Nat.le_trans hNw hg.size
  obtain ⟨ao, cp, rfl, _⟩ := hrw.slice
  have HOw : Hid (wr.ownsRow w.heap.size 59 1 (.slice ao k cp) k ((List.range k).map fun j => Value.pointer (some ⟨(B j).B, 0, none⟩))) := how
  have hwr := hg.size
  clear hrw hall how
  by_cases hkK : k < K
  ·have hkK' : (k : Int) < K := by omega
   obtain ⟨b, off, rfl, hb, hpc⟩ := (HPs.out wr hg).at hkK
   obtain ⟨P, hP⟩ : ∃ P, P = V k := ⟨_, rfl⟩
   obtain ⟨Q, hQ⟩ : ∃ Q, Q = A k := ⟨_, rfl⟩
   have hnk := HNn.out k hkK
   rw [← hP, ← hQ] at hpc
   rw [← hP] at hnk
   obtain ⟨c0, c1, c2, hins, hmks⟩ := hpc
   have HNk : Hid ((Lk.marksB P && Lk.instsB 1 K P) = false → R = false) := by rw [hP]; exact HNo.out k hkK
   have hA1 := World.grownBy_alloc wr (Obj.cells #[.slice Q.ia P.n Q.ic, .slice Q.ma P.m Q.mc, .int .i64 Q.out] 48) none
   have hPt := Pt.new (w := wr.alloc (Obj.cells #[.slice Q.ia P.n Q.ic, .slice Q.ma P.m Q.mc, .int .i64 Q.out] 48)) (fe := 60) (Nat.le_trans hNr hA1.size) (hins.ch (l := []) (Ch.of hA1) (by simp)) (hmks.ch (l := []) (Ch.of hA1) (by simp))
   have HGp : Hid (wr.grownBy ((wr.alloc (Obj.cells #[.slice Q.ia P.n Q.ic, .slice Q.ma P.m Q.mc, .int .i64 Q.out] 48)).alloc (.cells #[.func (.func 60) #[] #[], .slice Q.ia P.n Q.ic, .slice Q.ma P.m Q.mc, .slice none 0 0] 83)) none) := ga hA1 _
   have hBe : (wr.alloc (Obj.cells #[.slice Q.ia P.n Q.ic, .slice Q.ma P.m Q.mc, .int .i64 Q.out] 48)).heap.size = wr.heap.size + 1 := by simp
   rw [hBe] at hPt
   have hs2 : ((wr.alloc (Obj.cells #[.slice Q.ia P.n Q.ic, .slice Q.ma P.m Q.mc, .int .i64 Q.out] 48)).alloc (.cells #[.func (.func 60) #[] #[], .slice Q.ia P.n Q.ic, .slice Q.ma P.m Q.mc, .slice none 0 0] 83)).heap.size = wr.heap.size + 2 := by simp
   have HMk := pmarks_any hPt
   have HMs := pmeas_r (K : Int) hPt ((HTb.out.kept HG.out (by simp)).kept HGp.out (by simp)) hTN hnk
   rw [hs2] at HMs
   have HPk : Hid (P = V k) := hP
   have HMk2 : Hid (Calls Tryz.prog 39 #[.pointer (some ⟨wr.heap.size + 1, 0, none⟩)] ((wr.alloc (Obj.cells #[.slice Q.ia P.n Q.ic, .slice Q.ma P.m Q.mc, .int .i64 Q.out] 48)).alloc (.cells #[.func (.func 60) #[] #[], .slice Q.ia P.n Q.ic, .slice Q.ma P.m Q.mc, .slice none 0 0] 83)) fun e w' => e = .returned (.bool (Lk.marksB P)) ∧ w' = ((wr.alloc (Obj.cells #[.slice Q.ia P.n Q.ic, .slice Q.ma P.m Q.mc, .int .i64 Q.out] 48)).alloc (.cells #[.func (.func 60) #[] #[], .slice Q.ia P.n Q.ic, .slice Q.ma P.m Q.mc, .slice none 0 0] 83))) := HMk
   have HMs2 : Hid (Calls Tryz.prog 40 #[.pointer (some ⟨wr.heap.size + 1, 0, none⟩), .int .i64 (K : Int)] ((wr.alloc (Obj.cells #[.slice Q.ia P.n Q.ic, .slice Q.ma P.m Q.mc, .int .i64 Q.out] 48)).alloc (.cells #[.func (.func 60) #[] #[], .slice Q.ia P.n Q.ic, .slice Q.ma P.m Q.mc, .slice none 0 0] 83)) fun e w' => e = .returned (.bool (Lk.instsB 1 K P)) ∧ Ch ((wr.alloc (Obj.cells #[.slice Q.ia P.n Q.ic, .slice Q.ma P.m Q.mc, .int .i64 Q.out] 48)).alloc (.cells #[.func (.func 60) #[] #[], .slice Q.ia P.n Q.ic, .slice Q.ma P.m Q.mc, .slice none 0 0] 83)) w' [wr.heap.size + 1] ∧
    (Lk.instsB 1 K P = true → Pt N w' (wr.heap.size + 1) 60 P Q.ia Q.ma Q.ic Q.mc (.slice (some ⟨wr.heap.size + 2, 0, none⟩) P.n P.n) ∧ OwnN w' N (.slice (some ⟨wr.heap.size + 2, 0, none⟩) P.n P.n) P.n (P.sh 1).s)) := HMs
   clear hBe hs2 HMk HMs hP hQ hnk hPt
   cases hmb : Lk.marksB P
   ·rw [hmb] at HMk2
    go_wp2_with (first | (go_at_call 39; refine HMk2.out.mono ?_; rintro e w4 ⟨rfl, hw4⟩; rw [hw4]; clear hw4 w4))
    go_ret2
    exact ⟨gtr HG.out HGp.out, .inr ⟨HNk.out (by rw [hmb]; rfl), rfl⟩⟩
   ·rw [hmb] at HMk2
    cases hib : Lk.instsB 1 K P
    ·rw [hib] at HMs2
     go_wp2_with (first | (go_at_call 39; refine HMk2.out.mono ?_; rintro e w4 ⟨rfl, hw4⟩; rw [hw4]; clear hw4 w4) | (go_at_call 40; refine HMs2.out.mono ?_; rintro e w5 ⟨rfl, hc5, _⟩))
     go_ret2
     exact ⟨gtr HG.out (((Ch.of HGp.out).trans hc5).nil (by simp)), .inr ⟨HNk.out (by rw [hib]; simp), rfl⟩⟩
    ·rw [hib] at HMs2
     go_wp2_with (first | (go_at_call 39; refine HMk2.out.mono ?_; rintro e w4 ⟨rfl, hw4⟩; rw [hw4]; clear hw4 w4) | (go_at_call 40; refine HMs2.out.mono ?_; rintro e w5 ⟨rfl, hc5, hy5⟩; obtain ⟨hp5, ho5⟩ := hy5 (by trivial); have HG5 : Hid (wr.grownBy w5 none) := ((Ch.of HGp.out).trans hc5).nil (by simp); have HP5 : Hid (Pt N w5 (wr.heap.size + 1) 60 P Q.ia Q.ma Q.ic Q.mc (.slice (some ⟨wr.heap.size + 2, 0, none⟩) P.n P.n)) := hp5; have HO5 : Hid (OwnN w5 N (.slice (some ⟨wr.heap.size + 2, 0, none⟩) P.n P.n) P.n (P.sh 1).s) := ho5; have hs5 : w.heap.size ≤ w5.heap.size := Nat.le_trans hwr HG5.out.size; clear hc5 hy5 hp5 ho5) | (at_builtin; refine wp_appP rfl _ _ rfl w.heap.size k (.slice ao k cp) (fun j => (if j < k then B j else ⟨wr.heap.size + 1, wr.heap.size + 2, Q.ia, Q.ic, Q.ma, Q.mc⟩ : PtA).B) (wr.heap.size + 1) rfl (own_if (World.ownsRow.kept HOw.out HG5.out (Classical.em _)) _) rfl (by omega) hs5 (by simp) ?_; intro v6 w6 ho6 hg6))
     have e := HPk.out
     subst e
     have hR6 := (HRw.out.grow HG5.out).app (n := ⟨wr.heap.size + 1, wr.heap.size + 2, Q.ia, Q.ic, Q.ma, Q.mc⟩) HP5.out HO5.out (fun j hj => by show (B j).T ≠ wr.heap.size + 2; have : (B j).T < wr.heap.size := (HRw.out.sz j hj).lt _ rfl; omega) (World.ownsRow.mono ho6 hNw) hg6
     exact ⟨⟨k + 1, _, by go_num, by omega, hR6, ho6, own_new (v := .nilFunc) (gtr HG.out HG5.out) hg6 (fun b hb => (World.ownsRow.lt HOw.out b hb).1), fun j hj => by
      by_cases e : j = k
      ·subst e; exact ⟨hmb, hib⟩
      ·exact HAl.out j (by omega)⟩, by simp [intOf]; omega⟩
  ·obtain rfl : k = K := by omega
   go_wp2
   go_ret2
   exact ⟨HG.out, .inl ⟨HYes.out HAl.out, _, B, rfl, HRw.out⟩⟩
theorem take_c {N : Nat} {w : World} {a : Option Addr} {K c : Nat} {V : Nat → Lk.PcV} {A : Nat → PcA} (h : PcsIn N w a K c V A) (hTab : TabAt w) (hTN : 2 < N) (hNw : N ≤ w.heap.size) (hK0 : 0 < K) (hK : K ≤ 33) (hn : ∀ k, k < K → ((V k).n : Int) ≤ 8796093022208) :
  Calls Tryz.prog 20 #[.int .i64 2, .slice a K c] w fun e w' => w.grownBy w' none ∧
   ((Lk.piecesB 2 K V = true ∧ ∃ rv B, e = .returned (.tuple #[rv, .bool true]) ∧ Rw N w' rv K 61 V B (fun k => ((V k).sh 2).s)) ∨ (Lk.piecesB 2 K V = false ∧ e = .returned (.tuple #[.slice none 0 0, .bool false]))) := by
 have HPs : Hid (∀ W, w.grownBy W none → PcsIn N W a K c V A) := fun W g => h.ch (l := []) (Ch.of g) (by simp)
 have HTb : Hid (TabAt w) := hTab
 have HNn : Hid (∀ k, k < K → ((V k).n : Int) ≤ 8796093022208) := hn
 have HNo : Hid (∀ k, k < K → (Lk.marksB (V k) && Lk.instsB 2 K (V k)) = false → Lk.piecesB 2 K V = false) := fun k hk hf => Lk.piecesB_no hk hf
 have HYes : Hid ((∀ k, k < K → Lk.marksB (V k) = true ∧ Lk.instsB 2 K (V k) = true) → Lk.piecesB 2 K V = true) := Lk.piecesB_iff.2
 obtain ⟨R, hR⟩ : ∃ R, R = Lk.piecesB 2 K V := ⟨_, rfl⟩
 rw [← hR] at HNo HYes ⊢
 clear h hTab hn hR
 have hK0' : (0 : Int) < K := by omega
 have hK0'' : ((K : Int) == 0) = false := by simp; omega
 have hK' : (K : Int) ≤ 33 := by omega
 go_enter Tryz.func20, Tryz.ntmps20
 go_wp2_with (go_at_call 38; refine (encof_c _).mono ?_; rintro e w0 ⟨rfl, hw0⟩; rw [hw0]; clear hw0 w0)
 go_loopw [8, 31] (fun rv i wr => ∃ (k : Nat) (B : Nat → PtA), i = .int .i64 k ∧ k ≤ K ∧ Rw N wr rv k 61 V B (fun k => ((V k).sh 2).s) ∧ wr.ownsRow w.heap.size 59 1 rv k ((List.range k).map fun j => Value.pointer (some ⟨(B j).B, 0, none⟩)) ∧ w.grownBy wr none ∧ (∀ j, j < k → Lk.marksB (V j) = true ∧ Lk.instsB 2 K (V j) = true)) (fun _ i _ => K - (intOf i).toNat)
 case atStart => exact ⟨0, fun _ => ⟨0, 0, none, 0, none, 0⟩, rfl, Nat.zero_le _, Rw.nil _ _ _ _ _ _, World.ownsRow_nil _ _ _ _, gr0, fun j hj => by omega⟩
 case round =>
  obtain ⟨al, hal⟩ : ∃ al, al = u8 := ⟨_, rfl⟩
  obtain ⟨k, B, rfl, hk, hrw, how, hg, hall⟩ := hrel
  rw [← hal] at hrw how ⊢
  clear hal
  have HRw : Hid (Rw N wr al k 61 V B (fun k => ((V k).sh 2).s)) := hrw
  have HG : Hid (w.grownBy wr none) := hg
  have HAl : Hid (∀ j, j < k → Lk.marksB (V j) = true ∧ Lk.instsB 2 K (V j) = true) := hall
  have hNr : N ≤ wr.heap.size := Nat.le_trans hNw hg.size
  obtain ⟨ao, cp, rfl, _⟩ := hrw.slice
  have HOw : Hid (wr.ownsRow w.heap.size 59 1 (.slice ao k cp) k ((List.range k).map fun j => Value.pointer (some ⟨(B j).B, 0, none⟩))) := how
  have hwr := hg.size
  clear hrw hall how
  by_cases hkK : k < K
  ·have hkK' : (k : Int) < K := by omega
   obtain ⟨b, off, rfl, hb, hpc⟩ := (HPs.out wr hg).at hkK
   obtain ⟨P, hP⟩ : ∃ P, P = V k := ⟨_, rfl⟩
   obtain ⟨Q, hQ⟩ : ∃ Q, Q = A k := ⟨_, rfl⟩
   have hnk := HNn.out k hkK
   rw [← hP, ← hQ] at hpc
   rw [← hP] at hnk
   obtain ⟨c0, c1, c2, hins, hmks⟩ := hpc
   have HNk : Hid ((Lk.marksB P && Lk.instsB 2 K P) = false → R = false) := by rw [hP]; exact HNo.out k hkK
   have hA1 := World.grownBy_alloc wr (Obj.cells #[.slice Q.ia P.n Q.ic, .slice Q.ma P.m Q.mc, .int .i64 Q.out] 48) none
   have hPt := Pt.new (w := wr.alloc (Obj.cells #[.slice Q.ia P.n Q.ic, .slice Q.ma P.m Q.mc, .int .i64 Q.out] 48)) (fe := 61) (Nat.le_trans hNr hA1.size) (hins.ch (l := []) (Ch.of hA1) (by simp)) (hmks.ch (l := []) (Ch.of hA1) (by simp))
   have HGp : Hid (wr.grownBy ((wr.alloc (Obj.cells #[.slice Q.ia P.n Q.ic, .slice Q.ma P.m Q.mc, .int .i64 Q.out] 48)).alloc (.cells #[.func (.func 61) #[] #[], .slice Q.ia P.n Q.ic, .slice Q.ma P.m Q.mc, .slice none 0 0] 83)) none) := ga hA1 _
   have hBe : (wr.alloc (Obj.cells #[.slice Q.ia P.n Q.ic, .slice Q.ma P.m Q.mc, .int .i64 Q.out] 48)).heap.size = wr.heap.size + 1 := by simp
   rw [hBe] at hPt
   have hs2 : ((wr.alloc (Obj.cells #[.slice Q.ia P.n Q.ic, .slice Q.ma P.m Q.mc, .int .i64 Q.out] 48)).alloc (.cells #[.func (.func 61) #[] #[], .slice Q.ia P.n Q.ic, .slice Q.ma P.m Q.mc, .slice none 0 0] 83)).heap.size = wr.heap.size + 2 := by simp
   have HMk := pmarks_any hPt
   have HMs := pmeas_c (K : Int) hPt ((HTb.out.kept HG.out (by simp)).kept HGp.out (by simp)) hTN hnk
   rw [hs2] at HMs
   have HPk : Hid (P = V k) := hP
   have HMk2 : Hid (Calls Tryz.prog 39 #[.pointer (some ⟨wr.heap.size + 1, 0, none⟩)] ((wr.alloc (Obj.cells #[.slice Q.ia P.n Q.ic, .slice Q.ma P.m Q.mc, .int .i64 Q.out] 48)).alloc (.cells #[.func (.func 61) #[] #[], .slice Q.ia P.n Q.ic, .slice Q.ma P.m Q.mc, .slice none 0 0] 83)) fun e w' => e = .returned (.bool (Lk.marksB P)) ∧ w' = ((wr.alloc (Obj.cells #[.slice Q.ia P.n Q.ic, .slice Q.ma P.m Q.mc, .int .i64 Q.out] 48)).alloc (.cells #[.func (.func 61) #[] #[], .slice Q.ia P.n Q.ic, .slice Q.ma P.m Q.mc, .slice none 0 0] 83))) := HMk
   have HMs2 : Hid (Calls Tryz.prog 40 #[.pointer (some ⟨wr.heap.size + 1, 0, none⟩), .int .i64 (K : Int)] ((wr.alloc (Obj.cells #[.slice Q.ia P.n Q.ic, .slice Q.ma P.m Q.mc, .int .i64 Q.out] 48)).alloc (.cells #[.func (.func 61) #[] #[], .slice Q.ia P.n Q.ic, .slice Q.ma P.m Q.mc, .slice none 0 0] 83)) fun e w' => e = .returned (.bool (Lk.instsB 2 K P)) ∧ Ch ((wr.alloc (Obj.cells #[.slice Q.ia P.n Q.ic, .slice Q.ma P.m Q.mc, .int .i64 Q.out] 48)).alloc (.cells #[.func (.func 61) #[] #[], .slice Q.ia P.n Q.ic, .slice Q.ma P.m Q.mc, .slice none 0 0] 83)) w' [wr.heap.size + 1] ∧
    (Lk.instsB 2 K P = true → Pt N w' (wr.heap.size + 1) 61 P Q.ia Q.ma Q.ic Q.mc (.slice (some ⟨wr.heap.size + 2, 0, none⟩) P.n P.n) ∧ OwnN w' N (.slice (some ⟨wr.heap.size + 2, 0, none⟩) P.n P.n) P.n (P.sh 2).s)) := HMs
   clear hBe hs2 HMk HMs hP hQ hnk hPt
   cases hmb : Lk.marksB P
   ·rw [hmb] at HMk2
    go_wp2_with (first | (go_at_call 39; refine HMk2.out.mono ?_; rintro e w4 ⟨rfl, hw4⟩; rw [hw4]; clear hw4 w4))
    go_ret2
    exact ⟨gtr HG.out HGp.out, .inr ⟨HNk.out (by rw [hmb]; rfl), rfl⟩⟩
   ·rw [hmb] at HMk2
    cases hib : Lk.instsB 2 K P
    ·rw [hib] at HMs2
     go_wp2_with (first | (go_at_call 39; refine HMk2.out.mono ?_; rintro e w4 ⟨rfl, hw4⟩; rw [hw4]; clear hw4 w4) | (go_at_call 40; refine HMs2.out.mono ?_; rintro e w5 ⟨rfl, hc5, _⟩))
     go_ret2
     exact ⟨gtr HG.out (((Ch.of HGp.out).trans hc5).nil (by simp)), .inr ⟨HNk.out (by rw [hib]; simp), rfl⟩⟩
    ·rw [hib] at HMs2
     go_wp2_with (first | (go_at_call 39; refine HMk2.out.mono ?_; rintro e w4 ⟨rfl, hw4⟩; rw [hw4]; clear hw4 w4) | (go_at_call 40; refine HMs2.out.mono ?_; rintro e w5 ⟨rfl, hc5, hy5⟩; obtain ⟨hp5, ho5⟩ := hy5 (by trivial); have HG5 : Hid (wr.grownBy w5 none) := ((Ch.of HGp.out).trans hc5).nil (by simp); have HP5 : Hid (Pt N w5 (wr.heap.size + 1) 61 P Q.ia Q.ma Q.ic Q.mc (.slice (some ⟨wr.heap.size + 2, 0, none⟩) P.n P.n)) := hp5; have HO5 : Hid (OwnN w5 N (.slice (some ⟨wr.heap.size + 2, 0, none⟩) P.n P.n) P.n (P.sh 2).s) := ho5; have hs5 : w.heap.size ≤ w5.heap.size := Nat.le_trans hwr HG5.out.size; clear hc5 hy5 hp5 ho5) | (at_builtin; refine wp_appP rfl _ _ rfl w.heap.size k (.slice ao k cp) (fun j => (if j < k then B j else ⟨wr.heap.size + 1, wr.heap.size + 2, Q.ia, Q.ic, Q.ma, Q.mc⟩ : PtA).B) (wr.heap.size + 1) rfl (own_if (World.ownsRow.kept HOw.out HG5.out (Classical.em _)) _) rfl (by omega) hs5 (by simp) ?_; intro v6 w6 ho6 hg6))
     have e := HPk.out
     subst e
     have hR6 := (HRw.out.grow HG5.out).app (n := ⟨wr.heap.size + 1, wr.heap.size + 2, Q.ia, Q.ic, Q.ma, Q.mc⟩) HP5.out HO5.out (fun j hj => by show (B j).T ≠ wr.heap.size + 2; have : (B j).T < wr.heap.size := (HRw.out.sz j hj).lt _ rfl; omega) (World.ownsRow.mono ho6 hNw) hg6
     exact ⟨⟨k + 1, _, by go_num, by omega, hR6, ho6, own_new (v := .nilFunc) (gtr HG.out HG5.out) hg6 (fun b hb => (World.ownsRow.lt HOw.out b hb).1), fun j hj => by
      by_cases e : j = k
      ·subst e; exact ⟨hmb, hib⟩
      ·exact HAl.out j (by omega)⟩, by simp [intOf]; omega⟩
  ·obtain rfl : k = K := by omega
   go_wp2
   go_ret2
   exact ⟨HG.out, .inl ⟨HYes.out HAl.out, _, B, rfl, HRw.out⟩⟩
theorem take_no {t : Int} {a : Option Addr} {K c : Nat} (w : World) (h1 : (t == 1) = false) (h2 : (t == 2) = false) :
  Calls Tryz.prog 20 #[.int .i64 t, .slice a K c] w fun e w' => e = .returned (.tuple #[.slice none 0 0, .bool false]) ∧ w' = w := by
 go_enter Tryz.func20, Tryz.ntmps20
 go_wp2_with (go_at_call 38; refine (encof_no t h1 h2 _).mono ?_; rintro e w0 ⟨rfl, hw0⟩; rw [hw0]; clear hw0 w0)
 go_ret2
 exact ⟨rfl, rfl⟩
theorem take_r0 {a : Option Addr} {K c : Nat} (w : World) (h : K = 0 ∨ 33 < K) :
  Calls Tryz.prog 20 #[.int .i64 1, .slice a K c] w fun e w' => e = .returned (.tuple #[.slice none 0 0, .bool false]) ∧ w' = w := by
 rcases h with rfl | h
 ·go_enter Tryz.func20, Tryz.ntmps20
  go_wp2_with (go_at_call 38; refine (encof_r _).mono ?_; rintro e w0 ⟨rfl, hw0⟩; rw [hw0]; clear hw0 w0)
  go_ret2
  exact ⟨rfl, rfl⟩
 ·have h' : (33 : Int) < K := by omega
  have h0 : ((K : Int) == 0) = false := by simp; omega
  go_enter Tryz.func20, Tryz.ntmps20
  go_wp2_with (go_at_call 38; refine (encof_r _).mono ?_; rintro e w0 ⟨rfl, hw0⟩; rw [hw0]; clear hw0 w0)
  go_ret2
  exact ⟨rfl, rfl⟩
theorem take_c0 {a : Option Addr} {K c : Nat} (w : World) (h : K = 0 ∨ 33 < K) :
  Calls Tryz.prog 20 #[.int .i64 2, .slice a K c] w fun e w' => e = .returned (.tuple #[.slice none 0 0, .bool false]) ∧ w' = w := by
 rcases h with rfl | h
 ·go_enter Tryz.func20, Tryz.ntmps20
  go_wp2_with (go_at_call 38; refine (encof_c _).mono ?_; rintro e w0 ⟨rfl, hw0⟩; rw [hw0]; clear hw0 w0)
  go_ret2
  exact ⟨rfl, rfl⟩
 ·have h' : (33 : Int) < K := by omega
  have h0 : ((K : Int) == 0) = false := by simp; omega
  go_enter Tryz.func20, Tryz.ntmps20
  go_wp2_with (go_at_call 38; refine (encof_c _).mono ?_; rintro e w0 ⟨rfl, hw0⟩; rw [hw0]; clear hw0 w0)
  go_ret2
  exact ⟨rfl, rfl⟩
end Go.Proofs.YtkiockffejlnhaaGreatDoor
