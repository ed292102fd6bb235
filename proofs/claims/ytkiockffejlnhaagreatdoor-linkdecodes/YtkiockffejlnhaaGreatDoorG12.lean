/- Contracts and plain facts that the walks share, text by text: LdRes, RcL, LkFar, CeWake, LkWake, RuRel, LdNext, CfLeaf, CfUse, CfMay. -/
import Derived.Test.YtkiockffejlnhaaGreatDoorG11
import Derived.Test.YtkiockffejlnhaaGreatDoorG8
import Derived.Test.YtkiockffejlnhaaGreatDoorG7
import Derived.Test.YtkiockffejlnhaaGreatDoorG6
import Derived.Test.YtkiockffejlnhaaGreatDoorCdRow
import Derived.Test.YtkiockffejlnhaaGreatDoorG1
import Derived.Deep.AppendLies
/- What a region that asks link.Link tells, operation by operation. -/
namespace Go.Proofs.YtkiockffejlnhaaGreatDoor
open Go.RowKit
set_option linter.unusedVariables false
theorem PcAt.up {N M : Nat} {w : World} {b o : Nat} {P : Lk.PcV} {A : PcA} (h : PcAt N w b o P A) (hM : N ≤ M) : PcAt M w b o P A := ⟨h.c0, h.c1, h.c2, h.ins.up hM, h.mks.up hM⟩
theorem PcsIn.grow {N : Nat} {w w' : World} {a : Option Addr} {K c : Nat} {V : Nat → Lk.PcV} {A : Nat → PcA} (h : PcsIn N w a K c V A) (hg : w.grownBy w' none) : PcsIn N w' a K c V A := h.ch (l := []) (Ch.of hg) (by simp)
structure ImgY (v : AkV) (n : Nat) (Ls : Nat → Nat → Bool) (cv dv : Value) (TF base : Nat) (w : World) : Prop where
  en : v.en = n
  nK : n < v.K
  ht : v.t = 1 ∨ v.t = 2
  K0 : 0 < v.K
  K33 : v.K ≤ 33
  lkd : Lk.Lkd v.t v.K v.V Ls
  own : OwnL w base cv (Lk.codeA v.t v.V (Lk.SS v.t v.V Ls) v.K)
  fn : OwnN w base (.slice (some ⟨TF, 0, none⟩) v.K v.K) v.K (Lk.pos (ends v.V (Lk.SS v.t v.V Ls)))
  ds : ∃ x y z, dv = .slice x y z
theorem ImgY.cs {v : AkV} {n : Nat} {Ls : Nat → Nat → Bool} {cv dv : Value} {TF base : Nat} {w : World} (h : ImgY v n Ls cv dv TF base w) : ∃ x y z, cv = .slice x y z := by
  rcases h.own.2 with ⟨e, _⟩ | ⟨g, c, cur, e, _⟩
  · exact ⟨_, _, _, e⟩
  · exact ⟨_, _, _, e⟩
theorem ImgY.grow {v : AkV} {n : Nat} {Ls : Nat → Nat → Bool} {cv dv : Value} {TF base : Nat} {w w' : World} (h : ImgY v n Ls cv dv TF base w) (g : w.grownBy w' none) : ImgY v n Ls cv dv TF base w' :=
  ⟨h.en, h.nK, h.ht, h.K0, h.K33, h.lkd, h.own.grow g, h.fn.grow g, h.ds⟩
def okD (v : AkV) : Prop := LkOk v.t v.en v.K v.V v.dn
def ResD (v : AkV) (base : Nat) (x : Value) (w : World) : Prop :=
  (¬ okD v ∧ ∃ E : Int, (E = 60 ∨ E = 61) ∧ x = .tuple #[.agg #[.int .i64 0, .slice none 0 0, .slice none 0 0, .int .i64 0, .slice none 0 0], .int .i64 E]) ∨ (okD v ∧ ∃ n Ls cv dv TF, x = .tuple #[.agg #[.int .i64 v.t, cv, dv, .int .i64 (Lk.pos (ends v.V (Lk.SS v.t v.V Ls)) n), .slice (some ⟨TF, 0, none⟩) v.K v.K], .int .i64 0] ∧ ImgY v n Ls cv dv TF base w)
def ImD (v : AkV) (base : Nat) (x : Value) (w : World) : Prop :=
  (¬ okD v ∧ x = .agg #[.int .i64 0, .slice none 0 0, .slice none 0 0, .int .i64 0, .slice none 0 0]) ∨ (okD v ∧ ∃ n Ls cv dv TF, x = .agg #[.int .i64 v.t, cv, dv, .int .i64 (Lk.pos (ends v.V (Lk.SS v.t v.V Ls)) n), .slice (some ⟨TF, 0, none⟩) v.K v.K] ∧ ImgY v n Ls cv dv TF base w)
def ErD (v : AkV) (x : Value) : Prop := (¬ okD v ∧ ∃ E : Int, (E = 60 ∨ E = 61) ∧ x = .int .i64 E) ∨ (okD v ∧ x = .int .i64 0)
def psiD (v : AkV) (B base : Nat) : Nat → Value → World → Prop
  | 0, x, _ => x = .pointer (some ⟨B, 0, none⟩)
  | 1, x, _ => x = .int .i64 v.t
  | 2, x, _ => x = .pointer (some ⟨B, 1, none⟩)
  | 3, x, _ => x = .slice v.a v.K v.c
  | 4, x, w => ∃ a' c' A' N, x = .slice a' v.K c' ∧ N ≤ w.heap.size ∧ PcsIn N w a' v.K c' v.V A'
  | 5, x, _ => x = .pointer (some ⟨B, 2, none⟩)
  | 6, x, _ => x = .slice v.da v.dn v.dc
  | 7, x, w => ∃ a' c', x = .slice a' v.dn c' ∧ BsIn w a' v.dn c' v.dg
  | 8, x, _ => x = .pointer (some ⟨B, 3, none⟩)
  | 9, x, _ => x = .int .i64 v.en
  | 10, x, w => ResD v base x w
  | 11, x, w => ResD v base x w
  | 12, x, w => ImD v base x w
  | 13, x, _ => ErD v x
  | _, x, w => ∃ N, x = .pointer (some ⟨N, 0, none⟩) ∧ w.rowIs N 32 5 (row5 (.int .i64 0) (.slice none 0 0) (.slice none 0 0) (.int .i64 0) (.slice none 0 0)) ∧ base ≤ N
theorem ResD.grow {v : AkV} {base : Nat} {x : Value} {w w' : World} (h : ResD v base x w) (g : w.grownBy w' none) : ResD v base x w' := by
  rcases h with h | ⟨h, n, Ls, cv, dv, TF, e, hi⟩
  · exact .inl h
  · exact .inr ⟨h, n, Ls, cv, dv, TF, e, hi.grow g⟩
theorem ImD.grow {v : AkV} {base : Nat} {x : Value} {w w' : World} (h : ImD v base x w) (g : w.grownBy w' none) : ImD v base x w' := by
  rcases h with h | ⟨h, n, Ls, cv, dv, TF, e, hi⟩
  · exact .inl h
  · exact .inr ⟨h, n, Ls, cv, dv, TF, e, hi.grow g⟩
theorem psiD_stable {v : AkV} {B base i : Nat} {x : Value} {w w' : World} (h : psiD v B base i x w) (g : w.grownBy w' none) : psiD v B base i x w' := by
  unfold psiD at h ⊢
  split at h
  all_goals first
    | exact h
    | (obtain ⟨a', c', A', N, e, hN, hp⟩ := h; exact ⟨a', c', A', N, e, Nat.le_trans hN g.size, hp.grow g⟩)
    | (obtain ⟨a', c', e, hb⟩ := h; exact ⟨a', c', e, hb.kept g⟩)
    | exact ResD.grow h g
    | exact ImD.grow h g
    | (obtain ⟨N, e, hr, hb⟩ := h; exact ⟨N, e, rowIs_grown hr g, hb⟩)
theorem OwnB.bsIn' {w : World} {base n : Nat} {v : Value} {g : Nat → Int} (h : OwnB w base v n g) (hf : Mm.Fit g) : ∃ ao cap, v = .slice ao n cap ∧ BsIn w ao n cap g := by
  obtain ⟨ao, cap, rfl, h1, h2, h3, h4⟩ := h.shape
  refine ⟨ao, cap, rfl, ⟨h1, h2, h3, hf, h4, fun b off h0 e => ?_⟩⟩
  subst e
  rcases h.2 with ⟨e1, _⟩ | ⟨g', c', cur, e1, hb', hg', _⟩
  · cases e1
  · injection e1 with e1 e2 e3
    injection e1 with e1
    injection e1 with e1
    subst e1
    exact (Array.getElem?_eq_some_iff.1 hg').1
theorem callPs {v : AkV} {B base : Nat} {W : World} {N : Nat} (h : PcsIn N W v.a v.K v.c v.V v.A) (hN : N ≤ W.heap.size) (hn : v.K ≤ 3000) (iz : ∀ k, k < v.K → (v.A k).ia = none → (v.V k).n = 0 ∧ (v.A k).ic = 0) (mz : ∀ k, k < v.K → (v.A k).ma = none → (v.V k).m = 0 ∧ (v.A k).mc = 0) (ib : ∀ k, k < v.K → (v.V k).n * 72 ≤ reachBytes) (mb : ∀ k, k < v.K → (v.V k).m * 8 ≤ reachBytes) :
    Calls Tryz.prog 6 #[.slice v.a v.K v.c] W fun e w' => ∃ x, e = .returned x ∧ W.grownBy w' none ∧ psiD v B base 4 x w' :=
  (copyPieces_any h hN hn iz mz ib mb).mono fun e w' ⟨a', c', A', he, hp, hg⟩ => ⟨_, he, hg, a', c', A', _, rfl, Nat.le_refl _, hp⟩
theorem callBs {v : AkV} {B base : Nat} {W : World} (h : BsIn W v.da v.dn v.dc v.dg) (hn : (v.dn : Int) ≤ 140737488351232) :
    Calls Tryz.prog 7 #[.slice v.da v.dn v.dc] W fun e w' => ∃ x, e = .returned x ∧ W.grownBy w' none ∧ psiD v B base 7 x w' :=
  (copyB v.dn v.dc v.da v.dg W hn h.nil h.bs).mono fun e w' ⟨x, he, ho, hg⟩ => by
    obtain ⟨ao, cap, rfl, hb⟩ := ho.bsIn' h.fit
    exact ⟨_, he, hg, ao, cap, rfl, hb⟩
theorem callLk {v : AkV} {B base : Nat} {W : World} {a' da' : Option Addr} {c' dc' N : Nat} {A' : Nat → PcA} (hp : PcsIn N W a' v.K c' v.V A') (hN : N ≤ W.heap.size) (hTab : TabAt W) (hb : base ≤ W.heap.size) (hn : ∀ k, k < v.K → ((v.V k).n : Int) ≤ 8796093022208) (hd : BsIn W da' v.dn dc' v.dg) :
    Calls Tryz.prog 8 #[.int .i64 v.t, .slice a' v.K c', .slice da' v.dn dc', .int .i64 v.en] W fun e w' => ∃ x, e = .returned x ∧ W.grownBy w' none ∧ psiD v B base 10 x w' :=
  (link_all (t := v.t) (en := v.en) (hp.up hN) hTab hn hd.nil hd.bs hd.lt (by have h1 := hd.le; have h2 := hd.max; unfold maxLen at h2; omega)).mono fun e w' ⟨hg, h⟩ => by
    rcases h with ⟨h1, h2⟩ | ⟨h1, ht, h0, h33, _, n, Ls, hen, hnK, hl, cv, dv, TF, he, o1, o2, o3⟩
    · rcases h2 with he | he
      · exact ⟨_, he, hg, .inl ⟨h1, 60, .inl rfl, rfl⟩⟩
      · exact ⟨_, he, hg, .inl ⟨h1, 61, .inr rfl, rfl⟩⟩
    · exact ⟨_, he, hg, .inr ⟨h1, n, Ls, cv, dv, TF, rfl, hen, hnK, ht, h0, h33, hl, o1.low hb, o3.low hb, (by obtain ⟨ao, cap, e, _⟩ := o2.shape; exact ⟨_, _, _, e⟩)⟩⟩
theorem img_put {v : AkV} {n : Nat} {Ls : Nat → Nat → Bool} {cv dv : Value} {TF base N : Nat} {w0 W : World} {f : Nat → Value} (hg : w0.grownBy W none) (hb : base ≤ N) (hw : w0.heap.size ≤ N) (hr : W.rowIs N 32 5 f) (h : ImgY v n Ls cv dv TF base W) (x0 x1 x2 x3 x4 : Value) :
    (put5 W N x0 x1 x2 x3 x4).rowIs N 32 5 (row5 x0 x1 x2 x3 x4) ∧ ImgY v n Ls cv dv TF base (put5 W N x0 x1 x2 x3 x4) ∧ w0.grownBy (put5 W N x0 x1 x2 x3 x4) none := by
  have gp := grown_put5 W N x0 x1 x2 x3 x4
  have hr' : W.rowIs N 32 5 f := hr
  obtain ⟨cur, hN, _⟩ := hr
  refine ⟨row5_put hr' _ _ _ _ _, ⟨h.en, h.nK, h.ht, h.K0, h.K33, h.lkd, h.own.kept gp (.inr (apart_ty h.own hN (by decide))), ?_, h.ds⟩, grown_two hg gp hw⟩
  refine World.ownsRow.kept h.fn gp (.inr ?_)
  intro hb'
  rcases h.fn.2 with ⟨e1, _⟩ | ⟨g', c, cur', e1, _, e2, _⟩
  · cases e1
  · rw [e1] at hb'
    simp [Value.ownBlock] at hb'
    subst hb'
    rw [hN] at e2
    simp at e2
end Go.Proofs.YtkiockffejlnhaaGreatDoor

/- risc.Decode: its contract. -/
namespace Go.Proofs.YtkiockffejlnhaaGreatDoor
open Go.RowKit
set_option linter.unusedVariables false
theorem formOf_x (b off n cap : Nat) (g : Nat → Int) (w : World) (hn : 8 ≤ n) (hnc : n ≤ cap) (hg : Mm.Fit g) (hc : ∀ i, i < n → w.cell? ⟨b, off + i, none⟩ = some (.int .u8 (g i))) :
    Calls Tryz.prog 55 #[.slice (some ⟨b, off, none⟩) n cap] w fun e w' => e = .returned (.agg #[.int .i64 (Rc.fo g).code, .int .i64 (Rc.fo g).a, .int .i64 (Rc.fo g).b, .int .i64 (Rc.fo g).c, .int .i64 (Rc.fo g).n]) ∧ w.grownBy w' none := formOf_any b off n cap g w hn hnc hg hc
theorem unpack_x (g : Nat → Int) (w : World) :
    Calls Tryz.prog 56 #[formv (Rc.fo g)] w fun e w' => e = .returned (.agg #[.int .i64 (Rc.unpk (Rc.fo g)).op, .int .i64 (Rc.unpk (Rc.fo g)).a, .int .i64 (Rc.unpk (Rc.fo g)).b, .int .i64 (Rc.unpk (Rc.fo g)).c, .int .i64 (Rc.unpk (Rc.fo g)).k, .int .i64 (Rc.unpk (Rc.fo g)).sub, .int .i64 (Rc.unpk (Rc.fo g)).scale, .int .i64 (Rc.unpk (Rc.fo g)).imm, .int .i64 (Rc.unpk (Rc.fo g)).label]) ∧ w.grownBy w' none := by
  have r := Rc.s32_rng (Mm.ld g 4 4)
  exact unpack_any (Rc.fo g) w (by show _ ≤ Rc.s32 _; omega) (by show Rc.s32 _ ≤ _; omega)
theorem agree_x (g : Nat → Int) (hg : Mm.Fit g) (w : World) :
    Calls Tryz.prog 57 #[inst (Rc.unpk (Rc.fo g)), formv (Rc.fo g)] w fun e w' => e = .returned (.bool (Rc.okB g)) ∧ w.grownBy w' none := by
  have r := Rc.s32_rng (Mm.ld g 4 4)
  exact agree_any _ _ w (by show _ ≤ Rc.s32 _; omega) (by show Rc.s32 _ ≤ _; omega) (Rc.okB g) (Rc.ag_ok hg)
set_option maxHeartbeats 8000000 in
theorem decode_ok (b off n cap : Nat) (g : Nat → Int) (w : World) (hn : 8 ≤ n) (hnc : n ≤ cap) (hg : Mm.Fit g) (hc : ∀ i, i < n → w.cell? ⟨b, off + i, none⟩ = some (.int .u8 (g i))) (ho : Rc.okB g = true) :
    Calls Tryz.prog 34 #[.slice (some ⟨b, off, none⟩) n cap] w fun e w' => e = .returned (.tuple #[inst (Rc.rd g), .int .i64 8, .int .i64 0]) ∧ w.grownBy w' none := by
  have HC : Hid (∀ i, i < n → (w.alloc (Obj.cells #[.int .i64 0, .int .i64 0, .int .i64 0, .int .i64 0, .int .i64 0, .int .i64 0, .int .i64 0, .int .i64 0, .int .i64 0] 50)).cell? ⟨b, off + i, none⟩ = some (.int .u8 (g i))) := fun i hi => (World.grownBy_alloc w (Obj.cells #[.int .i64 0, .int .i64 0, .int .i64 0, .int .i64 0, .int .i64 0, .int .i64 0, .int .i64 0, .int .i64 0, .int .i64 0] 50) none).cell (hc i hi) (by simp)
  have c0 : (w.alloc (Obj.cells #[.int .i64 0, .int .i64 0, .int .i64 0, .int .i64 0, .int .i64 0, .int .i64 0, .int .i64 0, .int .i64 0, .int .i64 0] 50)).cell? ⟨w.heap.size, 0, none⟩ = some (.int .i64 0) := by simp
  have c1 : (w.alloc (Obj.cells #[.int .i64 0, .int .i64 0, .int .i64 0, .int .i64 0, .int .i64 0, .int .i64 0, .int .i64 0, .int .i64 0, .int .i64 0] 50)).cell? ⟨w.heap.size, 1, none⟩ = some (.int .i64 0) := by simp
  have c2 : (w.alloc (Obj.cells #[.int .i64 0, .int .i64 0, .int .i64 0, .int .i64 0, .int .i64 0, .int .i64 0, .int .i64 0, .int .i64 0, .int .i64 0] 50)).cell? ⟨w.heap.size, 2, none⟩ = some (.int .i64 0) := by simp
  have c3 : (w.alloc (Obj.cells #[.int .i64 0, .int .i64 0, .int .i64 0, .int .i64 0, .int .i64 0, .int .i64 0, .int .i64 0, .int .i64 0, .int .i64 0] 50)).cell? ⟨w.heap.size, 3, none⟩ = some (.int .i64 0) := by simp
  have c4 : (w.alloc (Obj.cells #[.int .i64 0, .int .i64 0, .int .i64 0, .int .i64 0, .int .i64 0, .int .i64 0, .int .i64 0, .int .i64 0, .int .i64 0] 50)).cell? ⟨w.heap.size, 4, none⟩ = some (.int .i64 0) := by simp
  have c5 : (w.alloc (Obj.cells #[.int .i64 0, .int .i64 0, .int .i64 0, .int .i64 0, .int .i64 0, .int .i64 0, .int .i64 0, .int .i64 0, .int .i64 0] 50)).cell? ⟨w.heap.size, 5, none⟩ = some (.int .i64 0) := by simp
  have c6 : (w.alloc (Obj.cells #[.int .i64 0, .int .i64 0, .int .i64 0, .int .i64 0, .int .i64 0, .int .i64 0, .int .i64 0, .int .i64 0, .int .i64 0] 50)).cell? ⟨w.heap.size, 6, none⟩ = some (.int .i64 0) := by simp
  have c7 : (w.alloc (Obj.cells #[.int .i64 0, .int .i64 0, .int .i64 0, .int .i64 0, .int .i64 0, .int .i64 0, .int .i64 0, .int .i64 0, .int .i64 0] 50)).cell? ⟨w.heap.size, 7, none⟩ = some (.int .i64 0) := by simp
  have c8 : (w.alloc (Obj.cells #[.int .i64 0, .int .i64 0, .int .i64 0, .int .i64 0, .int .i64 0, .int .i64 0, .int .i64 0, .int .i64 0, .int .i64 0] 50)).cell? ⟨w.heap.size, 8, none⟩ = some (.int .i64 0) := by simp
  have q0 : (w.alloc (Obj.cells #[.int .i64 0, .int .i64 0, .int .i64 0, .int .i64 0, .int .i64 0, .int .i64 0, .int .i64 0, .int .i64 0, .int .i64 0] 50)).frozen? ⟨w.heap.size, 0, none⟩ = false := by simp
  have q1 : (w.alloc (Obj.cells #[.int .i64 0, .int .i64 0, .int .i64 0, .int .i64 0, .int .i64 0, .int .i64 0, .int .i64 0, .int .i64 0, .int .i64 0] 50)).frozen? ⟨w.heap.size, 1, none⟩ = false := by simp
  have q2 : (w.alloc (Obj.cells #[.int .i64 0, .int .i64 0, .int .i64 0, .int .i64 0, .int .i64 0, .int .i64 0, .int .i64 0, .int .i64 0, .int .i64 0] 50)).frozen? ⟨w.heap.size, 2, none⟩ = false := by simp
  have q3 : (w.alloc (Obj.cells #[.int .i64 0, .int .i64 0, .int .i64 0, .int .i64 0, .int .i64 0, .int .i64 0, .int .i64 0, .int .i64 0, .int .i64 0] 50)).frozen? ⟨w.heap.size, 3, none⟩ = false := by simp
  have q4 : (w.alloc (Obj.cells #[.int .i64 0, .int .i64 0, .int .i64 0, .int .i64 0, .int .i64 0, .int .i64 0, .int .i64 0, .int .i64 0, .int .i64 0] 50)).frozen? ⟨w.heap.size, 4, none⟩ = false := by simp
  have q5 : (w.alloc (Obj.cells #[.int .i64 0, .int .i64 0, .int .i64 0, .int .i64 0, .int .i64 0, .int .i64 0, .int .i64 0, .int .i64 0, .int .i64 0] 50)).frozen? ⟨w.heap.size, 5, none⟩ = false := by simp
  have q6 : (w.alloc (Obj.cells #[.int .i64 0, .int .i64 0, .int .i64 0, .int .i64 0, .int .i64 0, .int .i64 0, .int .i64 0, .int .i64 0, .int .i64 0] 50)).frozen? ⟨w.heap.size, 6, none⟩ = false := by simp
  have q7 : (w.alloc (Obj.cells #[.int .i64 0, .int .i64 0, .int .i64 0, .int .i64 0, .int .i64 0, .int .i64 0, .int .i64 0, .int .i64 0, .int .i64 0] 50)).frozen? ⟨w.heap.size, 7, none⟩ = false := by simp
  have q8 : (w.alloc (Obj.cells #[.int .i64 0, .int .i64 0, .int .i64 0, .int .i64 0, .int .i64 0, .int .i64 0, .int .i64 0, .int .i64 0, .int .i64 0] 50)).frozen? ⟨w.heap.size, 8, none⟩ = false := by simp
  have hz : w.heap.size < (w.alloc (Obj.cells #[.int .i64 0, .int .i64 0, .int .i64 0, .int .i64 0, .int .i64 0, .int .i64 0, .int .i64 0, .int .i64 0, .int .i64 0] 50)).heap.size := by rw [size_alloc]; omega
  have l8 : ¬ ((n : Int) < 8) := by omega
  have hb0 := World.grownBy_alloc w (Obj.cells #[.int .i64 0, .int .i64 0, .int .i64 0, .int .i64 0, .int .i64 0, .int .i64 0, .int .i64 0, .int .i64 0, .int .i64 0] 50) none
  clear hc
  go_enter Tryz.func34, Tryz.ntmps34
  go_wp2_with fail
  generalize w.alloc (Obj.cells #[.int .i64 0, .int .i64 0, .int .i64 0, .int .i64 0, .int .i64 0, .int .i64 0, .int .i64 0, .int .i64 0, .int .i64 0] 50) = W0 at *
  refine (formOf_x b off n cap g _ hn hnc hg HC.out).mono ?_
  rintro e w1 ⟨rfl, hg1⟩
  clear HC
  have hA := World.grownBy_alloc w1 (Obj.cells #[.int .i64 (Rc.fo g).code, .int .i64 (Rc.fo g).a, .int .i64 (Rc.fo g).b, .int .i64 (Rc.fo g).c, .int .i64 (Rc.fo g).n] 97) none
  go_wp2_with (go_at_call 56; refine (unpack_x g _).mono ?_; rintro e w2 ⟨rfl, hg2⟩; have f0 := (World.grownBy_alloc w2 (Obj.cells #[.int .i64 (Rc.unpk (Rc.fo g)).op, .int .i64 (Rc.unpk (Rc.fo g)).a, .int .i64 (Rc.unpk (Rc.fo g)).b, .int .i64 (Rc.unpk (Rc.fo g)).c, .int .i64 (Rc.unpk (Rc.fo g)).k, .int .i64 (Rc.unpk (Rc.fo g)).sub, .int .i64 (Rc.unpk (Rc.fo g)).scale, .int .i64 (Rc.unpk (Rc.fo g)).imm, .int .i64 (Rc.unpk (Rc.fo g)).label] 50) none).cell (hg2.cell (a := ⟨w1.heap.size, 0, none⟩) (v := .int .i64 (Rc.fo g).code) (by simp) (by simp)) (by simp); have f1 := (World.grownBy_alloc w2 (Obj.cells #[.int .i64 (Rc.unpk (Rc.fo g)).op, .int .i64 (Rc.unpk (Rc.fo g)).a, .int .i64 (Rc.unpk (Rc.fo g)).b, .int .i64 (Rc.unpk (Rc.fo g)).c, .int .i64 (Rc.unpk (Rc.fo g)).k, .int .i64 (Rc.unpk (Rc.fo g)).sub, .int .i64 (Rc.unpk (Rc.fo g)).scale, .int .i64 (Rc.unpk (Rc.fo g)).imm, .int .i64 (Rc.unpk (Rc.fo g)).label] 50) none).cell (hg2.cell (a := ⟨w1.heap.size, 1, none⟩) (v := .int .i64 (Rc.fo g).a) (by simp) (by simp)) (by simp); have f2 := (World.grownBy_alloc w2 (Obj.cells #[.int .i64 (Rc.unpk (Rc.fo g)).op, .int .i64 (Rc.unpk (Rc.fo g)).a, .int .i64 (Rc.unpk (Rc.fo g)).b, .int .i64 (Rc.unpk (Rc.fo g)).c, .int .i64 (Rc.unpk (Rc.fo g)).k, .int .i64 (Rc.unpk (Rc.fo g)).sub, .int .i64 (Rc.unpk (Rc.fo g)).scale, .int .i64 (Rc.unpk (Rc.fo g)).imm, .int .i64 (Rc.unpk (Rc.fo g)).label] 50) none).cell (hg2.cell (a := ⟨w1.heap.size, 2, none⟩) (v := .int .i64 (Rc.fo g).b) (by simp) (by simp)) (by simp); have f3 := (World.grownBy_alloc w2 (Obj.cells #[.int .i64 (Rc.unpk (Rc.fo g)).op, .int .i64 (Rc.unpk (Rc.fo g)).a, .int .i64 (Rc.unpk (Rc.fo g)).b, .int .i64 (Rc.unpk (Rc.fo g)).c, .int .i64 (Rc.unpk (Rc.fo g)).k, .int .i64 (Rc.unpk (Rc.fo g)).sub, .int .i64 (Rc.unpk (Rc.fo g)).scale, .int .i64 (Rc.unpk (Rc.fo g)).imm, .int .i64 (Rc.unpk (Rc.fo g)).label] 50) none).cell (hg2.cell (a := ⟨w1.heap.size, 3, none⟩) (v := .int .i64 (Rc.fo g).c) (by simp) (by simp)) (by simp); have f4 := (World.grownBy_alloc w2 (Obj.cells #[.int .i64 (Rc.unpk (Rc.fo g)).op, .int .i64 (Rc.unpk (Rc.fo g)).a, .int .i64 (Rc.unpk (Rc.fo g)).b, .int .i64 (Rc.unpk (Rc.fo g)).c, .int .i64 (Rc.unpk (Rc.fo g)).k, .int .i64 (Rc.unpk (Rc.fo g)).sub, .int .i64 (Rc.unpk (Rc.fo g)).scale, .int .i64 (Rc.unpk (Rc.fo g)).imm, .int .i64 (Rc.unpk (Rc.fo g)).label] 50) none).cell (hg2.cell (a := ⟨w1.heap.size, 4, none⟩) (v := .int .i64 (Rc.fo g).n) (by simp) (by simp)) (by simp))
  refine (agree_x g hg _).mono ?_
  rw [ho]
  rintro e w3 ⟨rfl, hg3⟩
  have G : W0.grownBy w3 none := grown_trans (grown_trans (grown_trans (grown_trans hg1 hA) hg2) (World.grownBy_alloc _ _ _)) hg3
  have r0 := G.cell c0 (by simp)
  have s0 := (G.frozen_far ⟨w.heap.size, 0, none⟩ hz (by simp)).trans q0
  have r1 := G.cell c1 (by simp)
  have s1 := (G.frozen_far ⟨w.heap.size, 1, none⟩ hz (by simp)).trans q1
  have r2 := G.cell c2 (by simp)
  have s2 := (G.frozen_far ⟨w.heap.size, 2, none⟩ hz (by simp)).trans q2
  have r3 := G.cell c3 (by simp)
  have s3 := (G.frozen_far ⟨w.heap.size, 3, none⟩ hz (by simp)).trans q3
  have r4 := G.cell c4 (by simp)
  have s4 := (G.frozen_far ⟨w.heap.size, 4, none⟩ hz (by simp)).trans q4
  have r5 := G.cell c5 (by simp)
  have s5 := (G.frozen_far ⟨w.heap.size, 5, none⟩ hz (by simp)).trans q5
  have r6 := G.cell c6 (by simp)
  have s6 := (G.frozen_far ⟨w.heap.size, 6, none⟩ hz (by simp)).trans q6
  have r7 := G.cell c7 (by simp)
  have s7 := (G.frozen_far ⟨w.heap.size, 7, none⟩ hz (by simp)).trans q7
  have r8 := G.cell c8 (by simp)
  have s8 := (G.frozen_far ⟨w.heap.size, 8, none⟩ hz (by simp)).trans q8
  have i0 : w3.cell? ⟨w2.heap.size, 0, none⟩ = some (.int .i64 (Rc.unpk (Rc.fo g)).op) := hg3.cell (by simp) (by simp)
  have i1 : w3.cell? ⟨w2.heap.size, 1, none⟩ = some (.int .i64 (Rc.unpk (Rc.fo g)).a) := hg3.cell (by simp) (by simp)
  have i2 : w3.cell? ⟨w2.heap.size, 2, none⟩ = some (.int .i64 (Rc.unpk (Rc.fo g)).b) := hg3.cell (by simp) (by simp)
  have i3 : w3.cell? ⟨w2.heap.size, 3, none⟩ = some (.int .i64 (Rc.unpk (Rc.fo g)).c) := hg3.cell (by simp) (by simp)
  have i4 : w3.cell? ⟨w2.heap.size, 4, none⟩ = some (.int .i64 (Rc.unpk (Rc.fo g)).k) := hg3.cell (by simp) (by simp)
  have i5 : w3.cell? ⟨w2.heap.size, 5, none⟩ = some (.int .i64 (Rc.unpk (Rc.fo g)).sub) := hg3.cell (by simp) (by simp)
  have i6 : w3.cell? ⟨w2.heap.size, 6, none⟩ = some (.int .i64 (Rc.unpk (Rc.fo g)).scale) := hg3.cell (by simp) (by simp)
  have i7 : w3.cell? ⟨w2.heap.size, 7, none⟩ = some (.int .i64 (Rc.unpk (Rc.fo g)).imm) := hg3.cell (by simp) (by simp)
  have i8 : w3.cell? ⟨w2.heap.size, 8, none⟩ = some (.int .i64 (Rc.unpk (Rc.fo g)).label) := hg3.cell (by simp) (by simp)
  have HG : Hid (w.grownBy w3 none) := grown_trans hb0 G
  clear G hg1 hg2 hg3 hA hb0 hz f0 f1 f2 f3 f4 c0 q0 c1 q1 c2 q2 c3 q3 c4 q4 c5 q5 c6 q6 c7 q7 c8 q8
  go_wp2_with fail
  refine bodyPost_ret (by simp [results, Tryz.results34, go_sem, r0, r1, r2, r3, r4, r5, r6, r7, r8]; try rfl) rfl ?_
  refine ⟨(by rw [← Rc.unpk_ok ho]; rfl), ?_⟩
  repeat (refine gs ?_ _ _ (Nat.le_refl _))
  exact HG.out
end Go.Proofs.YtkiockffejlnhaaGreatDoor

/- Pieces of one jump and n returns: how long they are when linked. -/
namespace Go.Proofs.YtkiockffejlnhaaGreatDoor
open Go.RowKit
set_option linter.unusedVariables false
namespace Lk
def retV : InV := ⟨24, 0, 0, 0, 0, 0, 0, 0, 0⟩
def jmpV : InV := ⟨19, 0, 0, 0, 0, 0, 0, 0, 0⟩
theorem ret_may1 : Ru.mayT 1 (bare retV) = true := by decide
theorem ret_may2 : Ru.mayT 2 (bare retV) = true := by decide
theorem jmp_may1 : Ru.mayT 1 (bare jmpV) = true := by decide
theorem jmp_may2 : Ru.mayT 2 (bare jmpV) = true := by decide
theorem inst_ret {t : Int} (ht : t = 1 ∨ t = 2) (m p : Int) : instB t m p retV = true := by
  unfold instB
  have e : labB m p retV = true := by
    unfold labB
    rw [if_neg (by decide), if_neg (by decide)]
    rfl
  rw [e]
  rcases ht with rfl | rfl
  · rw [ret_may1]; rfl
  · rw [ret_may2]; rfl
theorem inst_jmp {t : Int} (ht : t = 1 ∨ t = 2) (p : Int) : instB t 1 p jmpV = true := by
  unfold instB
  have e : labB 1 p jmpV = true := by
    unfold labB
    rw [if_pos (by decide)]
    rfl
  rw [e]
  rcases ht with rfl | rfl
  · rw [jmp_may1]; rfl
  · rw [jmp_may2]; rfl
end Lk
end Go.Proofs.YtkiockffejlnhaaGreatDoor

/- gantrylaw4.wakes; bytes of one's own compared. -/
namespace Go.Proofs.YtkiockffejlnhaaGreatDoor
open Go.RowKit
set_option linter.unusedVariables false
theorem eq_ownL {w : World} {b1 b2 : Nat} {v1 v2 : Value} {l : List Int} (hn : (l.length : Int) ≤ 140737488351232) (h1 : OwnL w b1 v1 l) (h2 : OwnL w b2 v2 l) :
    Calls Tryz.prog 10 #[v1, v2] w fun e w' => e = .returned (.bool true) ∧ ∃ d, w' = w.drewN d := by
  obtain ⟨a1, c1, rfl, _, _, _, s1⟩ := h1.toB.shape
  obtain ⟨a2, c2, rfl, _, _, _, s2⟩ := h2.toB.shape
  exact eqB l.length c1 c2 a1 a2 _ _ w hn s1 s2 (fun _ _ => rfl)
end Go.Proofs.YtkiockffejlnhaaGreatDoor

/- gantrylaw6.wakes, num. -/
namespace Go.Proofs.YtkiockffejlnhaaGreatDoor
open Go.RowKit
set_option linter.unusedVariables false
theorem num6_any (e : Int) (w : World) : Calls Tryz.prog 12 #[.int .i64 e] w fun r w' => r = .returned (.int .i64 e) ∧ w' = w := by
  go_enter Tryz.func12, Tryz.ntmps12
  go_wp2
  go_ret
  exact ⟨rfl, rfl⟩
namespace Lk
def wakeP : PcV := ⟨2, fun i => if i = 0 then jmpV else retV, 1, fun _ => 1⟩
theorem wake_ok : marksB wakeP = true ∧ instsB 2 1 wakeP = true := by
  refine ⟨marksB_iff.2 fun i hi => ?_, instsB_iff.2 fun i hi => ?_⟩
  · show 0 ≤ (1 : Int) ∧ (1 : Int) ≤ ((2 : Nat) : Int)
    decide
  · show instB 2 ((1 : Nat) : Int) 1 (if i = 0 then jmpV else retV) = true
    split
    · exact inst_jmp (.inr rfl) 1
    · exact inst_ret (.inr rfl) _ 1
theorem wake_code (S : Nat → Nat → Int) : codeA 2 (fun _ => wakeP) S 1 = [19, 0, 0, 24] := by
  have e0 : Lk.fin 2 (fun _ => wakeP) S 0 0 = lead jmpV 0 := by
    unfold Lk.fin
    rw [if_pos (by rfl)]
    show lead jmpV (pos (S 0) 1 - pos (S 0) 1) = lead jmpV 0
    rw [Int.sub_self]
  have e1 : Lk.fin 2 (fun _ => wakeP) S 0 1 = retV := by
    unfold Lk.fin
    rw [if_neg (by decide), if_neg (by decide)]
    rfl
  show ([] : List Int) ++ (([] ++ Ru.encT 2 (Lk.fin 2 (fun _ => wakeP) S 0 0)) ++ Ru.encT 2 (Lk.fin 2 (fun _ => wakeP) S 0 1)) = _
  rw [e0, e1]
  decide
theorem rng0 (v : InV) (h1 : v.imm = 0) (h2 : v.scale = 0) : InRng v := ⟨by rw [h1]; decide, by rw [h1]; decide, by rw [h2]; decide, by rw [h2]; decide⟩
end Lk
theorem heap_old (w : World) (o : Obj) {k : Nat} (hk : k < w.heap.size) : (w.alloc o).heap[k]? = w.heap[k]? := (World.grownBy_alloc w o none).block k hk (by simp)
theorem heap_at (w : World) (o : Obj) {k : Nat} (hk : k = w.heap.size) : (w.alloc o).heap[k]? = some o := by rw [hk]; exact heap_alloc_new _ _
theorem heap5 (w : World) (a b c d e : Obj) : (((((w.alloc a).alloc b).alloc c).alloc d).alloc e).heap[w.heap.size]? = some a ∧ (((((w.alloc a).alloc b).alloc c).alloc d).alloc e).heap[w.heap.size + 1]? = some b ∧ (((((w.alloc a).alloc b).alloc c).alloc d).alloc e).heap[w.heap.size + 1 + 1 + 1]? = some d ∧ (((((w.alloc a).alloc b).alloc c).alloc d).alloc e).heap[w.heap.size + 1 + 1 + 1 + 1]? = some e := by
  refine ⟨?_, ?_, ?_, ?_⟩
  · rw [heap_old _ _ (by simp; omega), heap_old _ _ (by simp; omega), heap_old _ _ (by simp; omega), heap_old _ _ (by simp)]
    exact heap_at _ _ rfl
  · rw [heap_old _ _ (by simp), heap_old _ _ (by simp), heap_old _ _ (by simp)]
    exact heap_at _ _ (by simp)
  · rw [heap_old _ _ (by simp)]
    exact heap_at _ _ (by simp)
  · exact heap_at _ _ (by simp)
set_option maxRecDepth 100000 in
set_option maxHeartbeats 8000000 in
theorem wakes6_any (w : World) (hT : TabAt w) : Calls Tryz.prog 16 #[] w fun e w' => e = .returned (.bool true) ∧ w.grownBy w' none := by
  have HL : Hid (∀ W : World, TabAt W → ∀ T0 T1 T2 T3, W.heap[T0]? = some (.cells #[.int .i64 19, .int .i64 0, .int .i64 0, .int .i64 0, .int .i64 0, .int .i64 0, .int .i64 0, .int .i64 0, .int .i64 0, .int .i64 24, .int .i64 0, .int .i64 0, .int .i64 0, .int .i64 0, .int .i64 0, .int .i64 0, .int .i64 0, .int .i64 0] 50 (0, 0)) → W.heap[T1]? = some (.cells #[.int .i64 1] 3 (0, 0)) →
      W.heap[T2]? = some (.cells #[.slice (some ⟨T0, 0, none⟩) 2 2, .slice (some ⟨T1, 0, none⟩) 1 1, .int .i64 0] 48 (0, 0)) → W.heap[T3]? = some (.cells #[.int .u8 5] 5 (0, 0)) →
      Calls Tryz.prog 8 #[.int .i64 2, .slice (some ⟨T2, 0, none⟩) 1 1, .slice (some ⟨T3, 0, none⟩) 1 1, .int .i64 0] W fun e w' => ∃ cv dv TF, e = .returned (.tuple #[.agg #[.int .i64 2, cv, dv, .int .i64 0, .slice (some ⟨TF, 0, none⟩) 1 1], .int .i64 0]) ∧ OwnL w' W.heap.size cv [19, 0, 0, 24] ∧ OwnL w' W.heap.size dv [5] ∧ W.grownBy w' none) := by
    intro W hW T0 T1 T2 T3 h0 h1 h2 h3
    have l0 : T0 < W.heap.size := (Array.getElem?_eq_some_iff.1 h0).1
    have l1 : T1 < W.heap.size := (Array.getElem?_eq_some_iff.1 h1).1
    have l2 : T2 < W.heap.size := (Array.getElem?_eq_some_iff.1 h2).1
    have l3 : T3 < W.heap.size := (Array.getElem?_eq_some_iff.1 h3).1
    have hp : PcsIn W.heap.size W (some ⟨T2, 0, none⟩) 1 1 (fun _ => Lk.wakeP) (fun _ => ⟨some ⟨T0, 0, none⟩, 2, some ⟨T1, 0, none⟩, 1, 0⟩) := by
      refine ⟨Nat.le_refl _, by unfold maxLen; omega, .inr ⟨T2, 0, rfl, l2, fun k hk => ?_⟩⟩
      obtain rfl : k = 0 := by omega
      refine ⟨by simp [World.cell?, h2]; rfl, by simp [World.cell?, h2]; rfl, by simp [World.cell?, h2], ?_, ?_⟩
      · refine ⟨Nat.le_refl _, by show (2 : Nat) ≤ maxLen; unfold maxLen; omega, .inr ⟨T0, 0, rfl, l0, fun i hi => ?_⟩, fun i hi => ?_⟩
        · have : i = 0 ∨ i = 1 := by have : i < 2 := hi; omega
          rcases this with rfl | rfl
          · constructor <;> simp [World.cell?, h0, Lk.wakeP, Lk.jmpV]
          · constructor <;> simp [World.cell?, h0, Lk.wakeP, Lk.retV]
        · show InRng (if i = 0 then Lk.jmpV else Lk.retV)
          split <;> exact Lk.rng0 _ rfl rfl
      · refine ⟨Nat.le_refl _, by show (1 : Nat) ≤ maxLen; unfold maxLen; omega, .inr ⟨T1, 0, rfl, l1, fun i hi => ?_⟩⟩
        obtain rfl : i = 0 := by have : i < 1 := hi; omega
        simp [World.cell?, h1, Lk.wakeP]
    have hB : Lk.piecesB 2 1 (fun _ => Lk.wakeP) = true := Lk.piecesB_iff.2 fun k hk => Lk.wake_ok
    have hd : Bs W (some ⟨T3, 0, none⟩) 1 (fun _ => 5) := .inr ⟨T3, 0, rfl, fun i hi => by
      obtain rfl : i = 0 := by omega
      simp [World.cell?, h3]⟩
    refine (link_c (en := 0) (dg := fun _ => 5) hp hW (by decide) (by decide) (fun k hk => by show ((2 : Nat) : Int) ≤ _; decide) hB (by decide) (fun h => by cases h) hd (fun b off _ e => by injection e with e; injection e with e; subst e; exact l3) (by decide)).mono ?_
    rintro e w' ⟨g, Ls, hLs, hr⟩
    rcases hr with ⟨hbig, _⟩ | ⟨_, _, cv, dv, TF, rfl, oc, od, _⟩
    · exfalso
      rcases hbig with hb | hb
      · omega
      · have h6 := pos_lim (n := 1) (s := ends (fun _ => Lk.wakeP) (Lk.SS 2 (fun _ => Lk.wakeP) Ls)) (B := 80) (fun j hj => by
          obtain rfl : j = 0 := by omega
          have := pos_lim (n := 2) (s := Lk.SS 2 (fun _ => Lk.wakeP) Ls 0) (B := 40) (fun i hi => by
            have := Lk.size_le (Lk.PcV.ok_of Lk.wake_ok.1 Lk.wake_ok.2) (Ls 0) (i := i) hi
            show 0 ≤ (Lk.wakeP.sh 2).size (Ls 0) i ∧ (Lk.wakeP.sh 2).size (Ls 0) i ≤ 40
            omega)
          show 0 ≤ Lk.pos (Lk.SS 2 (fun _ => Lk.wakeP) Ls 0) 2 ∧ Lk.pos (Lk.SS 2 (fun _ => Lk.wakeP) Ls 0) 2 ≤ 80
          omega)
        omega
    · rw [Lk.wake_code] at oc
      exact ⟨cv, dv, TF, rfl, oc, OwnB.toL od, g⟩
  have HT : Hid (TabAt w) := hT
  clear hT
  have HE1 : Hid (∀ (W : World) ac cc, OwnL W 0 (.slice ac 4 cc) [19, 0, 0, 24] → Calls Tryz.prog 10 #[.slice ac 4 cc, .slice (some ⟨W.heap.size, 0, none⟩) 4 4] (W.alloc (.cells #[.int .u8 19, .int .u8 0, .int .u8 0, .int .u8 24] 5)) fun e w' => e = .returned (.bool true) ∧ W.grownBy w' none) := fun W ac cc h =>
    (eq_ownL (by decide) (OwnL.grow h (World.grownBy_alloc _ _ none)) (OwnL.lit W 0 [19, 0, 0, 24] (Nat.zero_le _) (by show 4 ≤ maxLen; unfold maxLen; omega))).mono (by rintro e w' ⟨rfl, d, rfl⟩; exact ⟨rfl, gn (World.grownBy_alloc _ _ _) _⟩)
  have HE2 : Hid (∀ (W : World) ac cc, OwnL W 0 (.slice ac 1 cc) [5] → Calls Tryz.prog 10 #[.slice ac 1 cc, .slice (some ⟨W.heap.size, 0, none⟩) 1 1] (W.alloc (.cells #[.int .u8 5] 5)) fun e w' => e = .returned (.bool true) ∧ W.grownBy w' none) := fun W ac cc h =>
    (eq_ownL (by decide) (OwnL.grow h (World.grownBy_alloc _ _ none)) (OwnL.lit W 0 [5] (Nat.zero_le _) (by show 1 ≤ maxLen; unfold maxLen; omega))).mono (by rintro e w' ⟨rfl, d, rfl⟩; exact ⟨rfl, gn (World.grownBy_alloc _ _ _) _⟩)
  go_enter Tryz.func16, Tryz.ntmps16
  go_wp2_with (first
    | (go_at_call 8; refine (HL.out _ (((((HT.out.kept (World.grownBy_alloc _ _ none) (by simp)).kept (World.grownBy_alloc _ _ none) (by simp)).kept (World.grownBy_alloc _ _ none) (by simp)).kept (World.grownBy_alloc _ _ none) (by simp)).kept (World.grownBy_alloc _ _ none) (by simp)) w.heap.size (w.heap.size + 1) (w.heap.size + 1 + 1 + 1) (w.heap.size + 1 + 1 + 1 + 1) (heap5 w _ _ _ _ _).1 (heap5 w _ _ _ _ _).2.1 (heap5 w _ _ _ _ _).2.2.1 (heap5 w _ _ _ _ _).2.2.2).mono ?_; rintro e w1 ⟨cv, dv, TF, rfl, oc, od, g1⟩; obtain ⟨ac, cc, rfl, _⟩ := oc.toB.shape; obtain ⟨ad, cd, rfl, _⟩ := od.toB.shape; have G1 : Hid (w.grownBy w1 none) := grown_trans (ga (ga (ga (ga (World.grownBy_alloc _ _ _) _) _) _) _) g1; have OC : Hid (OwnL w1 0 (.slice ac 4 cc) [19, 0, 0, 24]) := OwnL.low oc (Nat.zero_le _); have OD : Hid (OwnL w1 0 (.slice ad 1 cd) [5]) := OwnL.low od (Nat.zero_le _); clear g1 oc od)
    | (go_at_call 12; refine (num6_any _ _).mono ?_; rintro e w2 ⟨rfl, hw2⟩; rw [hw2]; clear hw2 w2))
  have C2 : (w1.alloc (.cells #[.int .i64 2, .slice ac 4 cc, .slice ad 1 cd, .int .i64 0, .slice (some ⟨TF, 0, none⟩) 1 1] 32)).cell? ⟨w1.heap.size, 2, none⟩ = some (.slice ad 1 cd) := by simp
  have GB := World.grownBy_alloc w1 (.cells #[.int .i64 2, .slice ac 4 cc, .slice ad 1 cd, .int .i64 0, .slice (some ⟨TF, 0, none⟩) 1 1] 32) none
  have OC2 := OwnL.grow OC.out GB
  have OD2 := OwnL.grow OD.out GB
  have G2 : Hid (w.grownBy (w1.alloc (.cells #[.int .i64 2, .slice ac 4 cc, .slice ad 1 cd, .int .i64 0, .slice (some ⟨TF, 0, none⟩) 1 1] 32)) none) := grown_trans G1.out GB
  have hs : (w1.alloc (.cells #[.int .i64 2, .slice ac 4 cc, .slice ad 1 cd, .int .i64 0, .slice (some ⟨TF, 0, none⟩) 1 1] 32)).heap.size = w1.heap.size + 1 := by simp
  obtain ⟨WB, hWB⟩ : ∃ WB, WB = w1.alloc (.cells #[.int .i64 2, .slice ac 4 cc, .slice ad 1 cd, .int .i64 0, .slice (some ⟨TF, 0, none⟩) 1 1] 32) := ⟨_, rfl⟩
  rw [← hWB] at C2 OC2 OD2 G2 hs ⊢
  clear hWB GB OC OD G1
  have h1 := HE1.out WB ac cc OC2
  rw [hs] at h1
  refine h1.mono ?_
  rintro e w3 ⟨rfl, g3⟩
  have C3 := g3.cell C2 (by simp)
  have OD3 : Hid (OwnL w3 0 (.slice ad 1 cd) [5]) := OwnL.grow OD2 g3
  have G3 : Hid (w.grownBy w3 none) := grown_trans G2.out g3
  clear h1 hs C2 OC2 OD2 G2 g3
  go_wp2_with (go_at_call 10; refine (HE2.out w3 ad cd OD3.out).mono ?_; rintro e w4 ⟨rfl, g4⟩)
  go_ret
  exact ⟨rfl, grown_trans G3.out g4⟩
end Go.Proofs.YtkiockffejlnhaaGreatDoor

/- A region that draws its order, whose operations each establish what is known of their own value, whatever came ahead; what the world may turn to in between is told by a relation of one's own. A store may be among them. -/
namespace Go.Proofs.YtkiockffejlnhaaGreatDoor
open Go.RowKit
set_option linter.unusedVariables false
section
variable {P : Program} {ops : Array Oper} {R : World → World → Prop}
def stepVR (P : Program) (ops : Array Oper) (R : World → World → Prop) (Ψ : Nat → Value → World → Prop) (i : Nat) (a : Act) (w : World) : Prop :=
  match ops[i]? with
  | none => False
  | some o => match (execOp a.eval o).run P w with
    | .ok (.value v) w' => (dstOf ops i).isSome = true ∧ R w w' ∧ Ψ i v w'
    | .ok .skip w' => R w w' ∧ Ψ i undef w'
    | .ok (.enter f args) w' => (dstOf ops i).isSome = true ∧ Calls P f args w' (fun e w'' => ∃ v, e = .returned v ∧ R w w'' ∧ Ψ i v w'')
    | _ => False
def dstR (ops : Array Oper) (n sz : Nat) : Bool :=
  (List.range n).all fun i => (match dstOf ops i with | some d => decide (d < sz) | none => true) && (List.range n).all fun j => i == j || dstOf ops i == none || !(dstOf ops i == dstOf ops j)
theorem dstR_lt {n sz i d : Nat} (h : dstR ops n sz = true) (hi : i < n) (hd : dstOf ops i = some d) : d < sz := by
  have h1 := List.all_eq_true.1 h i (List.mem_range.2 hi)
  simp only [hd, Bool.and_eq_true, decide_eq_true_eq] at h1
  exact h1.1
theorem dstR_ne {n sz i j d : Nat} (h : dstR ops n sz = true) (hi : i < n) (hj : j < n) (hij : i ≠ j) (hd : dstOf ops i = some d) : dstOf ops j ≠ some d := by
  have h1 := List.all_eq_true.1 h i (List.mem_range.2 hi)
  simp only [Bool.and_eq_true] at h1
  have h2 := List.all_eq_true.1 h1.2 j (List.mem_range.2 hj)
  simp only [hd, Bool.or_eq_true, beq_iff_eq, hij, false_or, Bool.not_eq_true', beq_eq_false_iff_ne] at h2
  rcases h2 with h2 | h2
  · simp at h2
  · exact fun e => h2 e.symm
set_option maxHeartbeats 2000000 in
theorem any_of_rel (htr : ∀ {w w1 w2 : World}, R w w1 → R w1 w2 → R w w2) {n : Nat} {a0 : Act} {W : World} {Q : Exit → Act → World → Prop} {Ψ : Nat → Value → World → Prop} {l : List Oper} (hl : ops = l.toArray)
    (hst : ∀ i v w w', i < n → Ψ i v w → R w w' → Ψ i v w')
    (hsel : Region.noSelect ops = true) (hn : n < ops.size) (hs : Region.sinkB .any ops n = true) (hc : Region.chainB .any ops n = true) (hlex : Region.lexHead .any ops (ops.size - n) n 0 (lexed ops.size 0) = true)
    (hL : lookB ops n = true) (hD : dstR ops n a0.tmps.size = true)
    (hstep : ∀ i, i < n → ∀ V w', R W w' → (∀ j, (depsOf ops i).contains j = true → Ψ j (V j) w') → stepVR P ops R Ψ i (frV ops a0 V i) w')
    (hend : ∀ V w', R W w' → (∀ i, i < n → Ψ i (V i) w') → wpList P ops Q (l.drop n) (frV ops a0 V n) w') (f : Nat) :
    ∀ listed a w, left listed n = f → HeadInv .any ops n listed → FrInv ops n a0 Ψ listed a w → R W w → wpAny P .any ops Q (f + (ops.size - n)) listed a w := by
  have hval : ∀ {listed a w i}, FrInv ops n a0 Ψ listed a w → i < n → listed.getD i false = true → Ψ i (valOf ops a i) w := by
    intro listed a w i inv hi hli
    unfold valOf
    cases hd : dstOf ops i with
    | none => exact inv.non i hi hli hd
    | some d => exact inv.val i d hi hli hd
  induction f with
  | zero =>
    intro listed a w hf hinv inv hg
    have hall := left_zero hf
    have ea : a = frV ops a0 (valOf ops a) n := by
      obtain ⟨tm, df⟩ := a
      have h1 : tm = (frV ops a0 (valOf ops ⟨tm, df⟩) n).tmps := by
        apply Array.ext_getElem?
        intro s
        by_cases hex : ∃ j, j < n ∧ dstOf ops j = some s
        · obtain ⟨j, hj, hd⟩ := hex
          exact (frV_in a0 ⟨tm, df⟩ inv.size n s ⟨j, hj, hd⟩ (dstR_lt hD hj hd)).symm
        · have hno : ∀ j, j < n → dstOf ops j ≠ some s := fun j hj hd => hex ⟨j, hj, hd⟩
          rw [frV_out a0 _ n s hno]
          exact inv.old s fun i hi _ => hno i hi
      have h2 : df = (frV ops a0 (valOf ops ⟨tm, df⟩) n).defers := by rw [frV_defers]; exact inv.defers
      generalize frV ops a0 (valOf ops ⟨tm, df⟩) n = b at *
      obtain ⟨bt, bd⟩ := b
      simp_all
    have el : listed = lexed ops.size n := by
      apply Array.ext
      · rw [lexed_size]; exact hinv.size
      · intro i h1 h2
        have e1 := lexed_get ops.size n i (by rw [← hinv.size]; exact h1)
        by_cases hin : i < n
        · have e2 := hall i hin
          have : (lexed ops.size n).getD i false = true := by rw [e1]; simp [hin]
          simp [h1, h2] at e2 this
          rw [e2, this]
        · have e2 := getD_both (hinv.tail i (by omega) (by rw [← hinv.size]; exact h1))
          have : (lexed ops.size n).getD i false = false := by rw [e1]; simp [hin]
          simp [h1, h2] at e2 this
          rw [e2, this]
    have hw := hend (valOf ops a) w hg fun i hi => hval inv hi (hall i hi)
    rw [← ea] at hw
    have hse := lexHead_end ops.size n 0 (by simpa using hlex)
    rw [Nat.zero_add] at hse
    have hdl : (l.drop n).length = ops.size - n := by rw [hl]; simp
    have T := wpAny_of_seq (md := .any) (P := P) (ops := ops) (Q' := Q) (l.drop n) n listed a w (fun j => by rw [hl]; simp [List.getElem?_drop]) (by rw [hdl, el]; exact hse) hw
    rw [hdl] at T
    rw [Nat.zero_add]
    exact T
  | succ f ih =>
    intro listed a w hf hinv inv hg
    obtain ⟨k, hk, hkf, hkall⟩ := left_pos (by rw [hf]; exact Nat.succ_ne_zero f)
    have hkt : listed.getD k true = false := getD_in (by rw [hinv.size]; omega) hkf
    have hkr : k ∈ Region.ready .any ops listed := by
      have h0 := lexHead_at ops.size n 0 (by simpa using hlex) k (Nat.zero_le _) (by omega)
      obtain ⟨_, o, ho, hall⟩ := mem_ready.1 h0
      refine mem_ready.2 ⟨hkt, o, ho, fun e he hb => ?_⟩
      have h1 := hall e he hb
      have h2 : e.on < ops.size := by
        rcases Nat.lt_or_ge e.on (lexed ops.size k).size with h' | h'
        · rw [lexed_size] at h'; exact h'
        · simp [Array.getElem?_eq_none h'] at h1
      rw [lexed_get ops.size k e.on h2] at h1
      exact hkall e.on (by simpa using h1)
    rw [Nat.add_right_comm]
    refine ⟨fun h0 => absurd h0 (List.ne_nil_of_mem hkr), fun i hi => ?_⟩
    have hin : i < n := Nat.lt_of_not_le fun h => tail_waits hs hc hn hinv _ k rfl hk hkt i h hi
    obtain ⟨hiun, o, ho, hall⟩ := mem_ready.1 hi
    obtain ⟨hgd, hlk⟩ := lookB_spec hL hin ho
    have hd : dstOf ops i = o.dst := by unfold dstOf; rw [ho]; rfl
    have S := hstep i hin (valOf ops a) w hg fun j hj => by
      have hj' := List.mem_filter.1 (show j ∈ depsOf ops i by simpa using hj)
      have hlt := List.mem_range.1 hj'.1
      exact hval inv (by omega) (waits_listed hi hj'.2)
    unfold stepVR at S
    simp only [ho] at S
    have hex : execOp a.eval o = execOp (frV ops a0 (valOf ops a) i).eval o := by
      refine execOp_congr o (fun cs b => Region.noSelect_spec hsel i o cs b ho) fun x hx => eval_same fun t ht => ?_
      subst ht
      have htl : t ∈ o.looksAt ops := List.mem_append_left _ (List.mem_filterMap.2 ⟨.tmp t, by simpa using hx, rfl⟩)
      by_cases hexi : ∃ j, j < n ∧ dstOf ops j = some t
      · obtain ⟨j, hj, hdj⟩ := hexi
        obtain ⟨hji, _⟩ := hlk t htl j hj hdj
        exact (frV_in a0 a inv.size i t ⟨j, hji, hdj⟩ (dstR_lt hD hj hdj)).symm
      · have hno : ∀ j, j < n → dstOf ops j ≠ some t := fun j hj hd => hexi ⟨j, hj, hd⟩
        rw [frV_out a0 _ i t fun j hj => hno j (by omega)]
        exact inv.old t fun j hj _ => hno j hj
    have next : ∀ v w', (dstOf ops i = none → v = undef) → R w w' → Ψ i v w' → wpAny P .any ops Q (f + (ops.size - n)) (listed.setIfInBounds i true) (a.put o.dst v) w' := by
      intro v w' hun hg' hv
      have hlf : left (listed.setIfInBounds i true) n = f := by have := left_set hin hiun; omega
      refine ih _ _ _ hlf (hinv.set hi hin) ?_ (htr hg hg')
      have hset : ∀ j, j ≠ i → (listed.setIfInBounds i true).getD j false = true → listed.getD j false = true := fun j hj h => by rwa [getD_set_ne false (Ne.symm hj)] at h
      refine ⟨(put_size _ _ _).trans inv.size, (put_defers _ _ _).trans inv.defers, fun s hs' => ?_, fun j d hj hjl hjd => ?_, fun j hj hjl hjd => ?_⟩
      · have h1 : dstOf ops i ≠ some s := hs' i hin (by
          have : i < listed.size := by rw [hinv.size]; omega
          simp [this])
        rw [put_other _ _ (by rw [← hd]; exact h1)]
        exact inv.old s fun j hj hjl => hs' j hj (getD_set_true hjl)
      · by_cases hji : j = i
        · subst hji
          have e : o.dst = some d := by rw [← hd]; exact hjd
          rw [e]
          have hlt : d < a.tmps.size := by rw [inv.size]; exact dstR_lt hD hin hjd
          have := put_same a d v hlt
          rw [Array.getD_eq_getD_getElem?, this]
          exact hv
        · have hne : o.dst ≠ some d := by rw [← hd]; exact dstR_ne hD hj hin hji hjd
          have := put_other a v hne
          rw [Array.getD_eq_getD_getElem?, this, ← Array.getD_eq_getD_getElem?]
          exact hst _ _ _ _ hj (inv.val j d hj (hset j hji hjl) hjd) hg'
      · by_cases hji : j = i
        · subst hji
          rw [← hun hjd]; exact hv
        · exact hst _ _ _ _ hj (inv.non j hj (hset j hji hjl) hjd) hg'
    unfold wpOp
    simp only [ho]
    have hwa : Region.wanted o (yielded ops a.tmps) = true := by unfold Region.wanted; rw [hgd]
    rw [if_pos hwa]
    refine .inl ?_
    unfold Oper.wp
    rw [hex]
    generalize (execOp (frV ops a0 (valOf ops a) i).eval o).run P w = r at S
    match r, S with
    | .ok (.value v) w', S => exact next v w' (fun e => by rw [e] at S; cases S.1) S.2.1 S.2.2
    | .ok .skip w', S => exact next undef w' (fun _ => rfl) S.1 S.2
    | .ok (.enter fn args) w', S =>
      rw [Oper.upon_enter]
      obtain ⟨hS, S⟩ := S
      refine Calls.mono S ?_
      rintro e w'' ⟨v, rfl, h1, h2⟩
      exact next v w'' (fun e => by rw [e] at hS; cases hS) h1 h2
theorem region_invR (htr : ∀ {w w1 w2 : World}, R w w1 → R w1 w2 → R w w2) (hrf : ∀ w : World, R w w) {id : Nat} {Q : Exit → Act → World → Prop} {a : Act} {w : World} {l : List Oper} (n : Nat) (Ψ : Nat → Value → World → Prop)
    (hm : P.follows .mixedOrders = true) (hB : Region.lexTailB .any l.toArray n = true) (hL : lookB l.toArray n = true) (hD : dstR l.toArray n a.tmps.size = true)
    (hst : ∀ i v w w', i < n → Ψ i v w → R w w' → Ψ i v w')
    (hstep : ∀ i, i < n → ∀ V w', R w.drew w' → (∀ j, (depsOf l.toArray i).contains j = true → Ψ j (V j) w') → stepVR P l.toArray R Ψ i (frV l.toArray a V i) w')
    (hend : ∀ V w', R w.drew w' → (∀ i, i < n → Ψ i (V i) w') → wpList P l.toArray Q (l.drop n) (frV l.toArray a V n) w') : (Code.region id l.toArray true).wp P Q a w := by
  simp only [Region.lexTailB, Bool.and_eq_true, decide_eq_true_eq] at hB
  obtain ⟨⟨⟨⟨hsel, hn⟩, hs⟩, hc⟩, hlex⟩ := hB
  have inv0 : HeadInv .any l.toArray n (Array.replicate l.toArray.size false) :=
    ⟨by simp, fun j oj _ hl => (by rw [getD_replicate_false] at hl; cases hl), fun t _ ht => getD_in (by simpa using ht) (getD_replicate_false _ _)⟩
  have hl0 : left (Array.replicate l.toArray.size false) n = n := by
    unfold left
    rw [List.filter_eq_self.2 fun i _ => by rw [getD_replicate_false]; rfl]
    simp
  have fr0 : FrInv l.toArray n a Ψ (Array.replicate l.toArray.size false) a w.drew :=
    ⟨rfl, rfl, fun _ _ => rfl, fun i d _ h => (by rw [getD_replicate_false] at h; cases h), fun i _ h => (by rw [getD_replicate_false] at h; cases h)⟩
  have T := any_of_rel (R := R) htr (P := P) (Q := Q) (ops := l.toArray) (n := n) (a0 := a) (W := w.drew) (Ψ := Ψ) rfl hst hsel hn hs hc (by simpa [lexed] using hlex) hL hD hstep hend n _ a w.drew hl0 inv0 fr0 (hrf _)
  rw [show n + (l.toArray.size - n) = l.toArray.size by omega] at T
  exact wp_region_any hm T
def outR (P : Program) (ops : Array Oper) (R : World → World → Prop) (Ψ : Nat → Value → World → Prop) (i : Nat) (w : World) : Result Next → Prop
  | .ok (.value v) w' => (dstOf ops i).isSome = true ∧ R w w' ∧ Ψ i v w'
  | .ok .skip w' => R w w' ∧ Ψ i undef w'
  | .ok (.enter f args) w' => (dstOf ops i).isSome = true ∧ Calls P f args w' (fun e w'' => ∃ v, e = .returned v ∧ R w w'' ∧ Ψ i v w'')
  | _ => False
theorem outR_val {Ψ : Nat → Value → World → Prop} {i : Nat} {w w' : World} {v : Value} {r : Result Next} (hd : (dstOf ops i).isSome = true) (hr : r = .ok (.value v) w') (hg : R w w') (hv : Ψ i v w') : outR P ops R Ψ i w r := by
  rw [hr]; exact ⟨hd, hg, hv⟩
theorem outR_skip {Ψ : Nat → Value → World → Prop} {i : Nat} {w w' : World} {r : Result Next} (hr : r = .ok .skip w') (hg : R w w') (hv : Ψ i undef w') : outR P ops R Ψ i w r := by
  rw [hr]; exact ⟨hg, hv⟩
theorem outR_call {Ψ : Nat → Value → World → Prop} {i : Nat} {w : World} {f : FuncId} {args : Array Value} {r : Result Next} (hd : (dstOf ops i).isSome = true) (hr : r = .ok (.enter f args) w) (hc : Calls P f args w fun e w'' => ∃ v, e = .returned v ∧ R w w'' ∧ Ψ i v w'') : outR P ops R Ψ i w r := by
  rw [hr]; exact ⟨hd, hc⟩
def stepR (P : Program) (ops : Array Oper) (R : World → World → Prop) (a : Act) (w : World) (Ψ : Nat → Value → World → Prop) (i : Nat) (o : Oper) : Prop :=
  ∀ (V : Nat → Value) (w' : World) (A : Act), R w.drew w' → (∀ j, (depsOf ops i).contains j = true → Ψ j (V j) w') → (∀ t j, srcOf ops t i = some j → decide (t < a.tmps.size) = true → A.tmps[t]? = some (V j)) →
    (∀ t v, srcOf ops t i = none → a.tmps[t]? = some v → A.tmps[t]? = some v) → outR P ops R Ψ i w' ((execOp A.eval o).run P w')
def stepsR (P : Program) (ops : Array Oper) (R : World → World → Prop) (a : Act) (w : World) (Ψ : Nat → Value → World → Prop) : Nat → List Oper → Prop
  | _, [] => True
  | i, o :: rest => stepR P ops R a w Ψ i o ∧ stepsR P ops R a w Ψ (i + 1) rest
theorem stepsR_get {ops : Array Oper} {a : Act} {w : World} {Ψ : Nat → Value → World → Prop} : ∀ {l : List Oper} {k i : Nat} {o : Oper}, stepsR P ops R a w Ψ k l → l[i]? = some o → stepR P ops R a w Ψ (k + i) o
  | [], _, _, _, _, h => by simp at h
  | x :: l, k, 0, o, hs, h => by
    obtain rfl : x = o := by simpa using h
    exact hs.1
  | x :: l, k, i + 1, o, hs, h => by
    have := stepsR_get (i := i) hs.2 (by simpa using h)
    rwa [show k + 1 + i = k + (i + 1) by omega] at this
theorem region_rel (R : World → World → Prop) (htr : ∀ {w w1 w2 : World}, R w w1 → R w1 w2 → R w w2) (hrf : ∀ w : World, R w w) {id : Nat} {Q : Exit → Act → World → Prop} {a : Act} {w : World} {l : List Oper} (n : Nat) (Ψ : Nat → Value → World → Prop)
    (hm : P.follows .mixedOrders = true) (hB : Region.lexTailB .any l.toArray n = true) (hL : lookB l.toArray n = true) (hD : dstR l.toArray n a.tmps.size = true)
    (hst : ∀ i v w w', i < n → Ψ i v w → R w w' → Ψ i v w')
    (hstep : stepsR P l.toArray R a w Ψ 0 (l.take n))
    (hend : ∀ V w', R w.drew w' → (∀ i, i < n → Ψ i (V i) w') → wpList P l.toArray Q (l.drop n) (frV l.toArray a V n) w') : (Code.region id l.toArray true).wp P Q a w := by
  have hn : n < l.length := by
    simp only [Region.lexTailB, Bool.and_eq_true, decide_eq_true_eq] at hB
    simpa using hB.1.1.1.2
  refine region_invR (R := R) (fun h1 h2 => htr h1 h2) (fun w => hrf w) n Ψ hm hB hL hD hst (fun i hi V w' g hV => ?_) hend
  have ho : (l.take n)[i]? = some l[i] := by rw [List.getElem?_take, if_pos hi, List.getElem?_eq_getElem (by omega)]
  have h1 := stepsR_get hstep ho
  rw [Nat.zero_add] at h1
  have h2 := h1 V w' (frV l.toArray a V i) g hV (fun t j hs ht => frV_at (of_decide_eq_true ht) hs) (fun t v hs hv => (frV_at0 hs).trans hv)
  unfold stepVR
  have ho' : l.toArray[i]? = some l[i] := by rw [List.getElem?_toArray, List.getElem?_eq_getElem (by omega)]
  rw [ho']
  exact h2
end
end Go.Proofs.YtkiockffejlnhaaGreatDoor

/- next: the instruction at a place of linked code. -/
namespace Go.Proofs.YtkiockffejlnhaaGreatDoor
open Go.RowKit
set_option linter.unusedVariables false
namespace Lk
theorem byt_encT (t : Int) (v : InV) : Cc.Byt (Ru.encT t v) := by
  unfold Ru.encT
  split
  · intro x hx
    obtain ⟨i, _, rfl⟩ := List.mem_map.1 hx
    exact Rc.enc_fit v i
  · exact Cc.byt_enc v
theorem bytA {l m : List Int} (h : Cc.Byt l) (k : Cc.Byt m) : Cc.Byt (l ++ m) := fun x hx => by
  rcases List.mem_append.1 hx with h1 | h1
  · exact h x h1
  · exact k x h1
theorem byt_codeP (t : Int) (V : Nat → PcV) (S : Nat → Nat → Int) (k : Nat) : ∀ i, Cc.Byt (codeP t V S k i)
  | 0 => fun x hx => by cases hx
  | i + 1 => bytA (byt_codeP t V S k i) (byt_encT _ _)
theorem byt_codeA (t : Int) (V : Nat → PcV) (S : Nat → Nat → Int) : ∀ k, Cc.Byt (codeA t V S k)
  | 0 => fun x hx => by cases hx
  | k + 1 => bytA (byt_codeA t V S k) (byt_codeP _ _ _ _ _)
theorem Lkd.at {t : Int} {K : Nat} {V : Nat → PcV} {Ls : Nat → Nat → Bool} (h : Lkd t K V Ls) {k : Nat} (hk : k < K) {i : Nat} (hi : i < (V k).n) :
    ∃ p : Nat, pos (ends V (SS t V Ls)) k + pos (SS t V Ls k) i = p ∧ p + (Ru.encT t (Lk.fin t V (SS t V Ls) k i)).length ≤ (codeA t V (SS t V Ls) K).length ∧ ∀ j, j < (Ru.encT t (Lk.fin t V (SS t V Ls) k i)).length → (codeA t V (SS t V Ls) K).getD (p + j) 0 = (Ru.encT t (Lk.fin t V (SS t V Ls) k i)).getD j 0 := by
  have h1 := h.lenA (k := k) (by omega)
  have h2 := h.lenP hk (i := i) (by omega)
  obtain ⟨s, hs⟩ := code_split (t := t) (K := K) (V := V) (S := SS t V Ls) hk hi
  refine ⟨(codeA t V (SS t V Ls) k ++ codeP t V (SS t V Ls) k i).length, ?_, ?_, fun j hj => ?_⟩
  · rw [List.length_append]; omega
  · rw [hs]; simp only [List.length_append]; omega
  · rw [hs, List.getD_eq_getElem?_getD, List.getElem?_append_right (by omega), Nat.add_sub_cancel_left, List.getElem?_append_left hj, List.getD_eq_getElem?_getD]
end Lk
theorem decR {w : World} {b off n cap : Nat} {g : Nat → Int} {v : InV} (hv : Rc.mayB v = true) (hnc : n ≤ cap) (hg : Mm.Fit g) (hc : ∀ i, i < n → w.cell? ⟨b, off + i, none⟩ = some (.int .u8 (g i))) (h8 : 8 ≤ n) (he : ∀ i, i < 8 → g i = Rc.enc v i) :
    Calls Tryz.prog 34 #[.slice (some ⟨b, off, none⟩) n cap] w fun e w' => e = .returned (.tuple #[.agg #[.int .i64 v.op, .int .i64 v.a, .int .i64 v.b, .int .i64 v.c, .int .i64 v.k, .int .i64 v.sub, .int .i64 v.scale, .int .i64 v.imm, .int .i64 v.label], .int .i64 8, .int .i64 0]) ∧ w.grownBy w' none := by
  have h1 := Rc.rd_congr he
  have h2 := Rc.back v hv
  have h3 := decode_ok b off n cap g w h8 hnc hg hc (by rw [h1.2]; exact Rc.ok_enc v hv)
  rw [h1.1, h2.1] at h3
  exact h3
theorem decC {w : World} {ao : Option Addr} {n cap : Nat} {g : Nat → Int} {v : InV} (h : BsIn w ao n cap g) (hv : Cc.mayB v = true) (hr : InRng v) (hn : (Cc.enc v).length ≤ n) (he : ∀ i, i < (Cc.enc v).length → g i = (Cc.enc v).getD i 0) :
    Calls Tryz.prog 35 #[.slice ao n cap] w fun e w' => e = .returned (.tuple #[.agg #[.int .i64 v.op, .int .i64 v.a, .int .i64 v.b, .int .i64 v.c, .int .i64 v.k, .int .i64 v.sub, .int .i64 v.scale, .int .i64 v.imm, .int .i64 v.label], .int .i64 ((Cc.enc v).length : Int), .int .i64 0]) ∧ w.grownBy w' none := by
  have h1 := cdecode_any h
  rw [Cc.dec_enc hv hr.i1 hr.i2 hn he] at h1
  exact h1
def RelN (RB : Nat) (v : InV) (w w' : World) : Prop := Ch w w' [RB] ∧ (InstAt w RB v → InstAt w' RB v) ∧ ((∃ u, InstAt w RB u) → ∃ u, InstAt w' RB u)
theorem RelN.refl {RB : Nat} {v : InV} (w : World) : RelN RB v w w := ⟨Ch.refl _ _, id, id⟩
theorem RelN.trans {RB : Nat} {v : InV} {w w1 w2 : World} (h : RelN RB v w w1) (k : RelN RB v w1 w2) : RelN RB v w w2 := ⟨h.1.trans k.1, fun x => k.2.1 (h.2.1 x), fun x => k.2.2 (h.2.2 x)⟩
theorem RelN.put {RB : Nat} {v u : InV} {w : World} (h : InstAt w RB u) : RelN RB v w (put9 w RB v) := ⟨Ch.one (grown_put9 _ _ _) (by simp), fun _ => h.put9 v, fun _ => ⟨v, h.put9 v⟩⟩
def psiN (v : InV) (ln : Int) (RB : Nat) : Nat → Value → World → Prop
  | 0, x, _ => x = .agg #[.int .i64 v.op, .int .i64 v.a, .int .i64 v.b, .int .i64 v.c, .int .i64 v.k, .int .i64 v.sub, .int .i64 v.scale, .int .i64 v.imm, .int .i64 v.label]
  | 1, x, _ => x = .int .i64 ln
  | 2, x, _ => x = .int .i64 0
  | 3, x, _ => x = .int .i64 0
  | 4, x, _ => x = .bool true
  | 5, _, w => InstAt w RB v
  | _, x, _ => x = .int .i64 ln
theorem psiN_stable {v : InV} {ln : Int} {RB i : Nat} {x : Value} {w w' : World} (h : psiN v ln RB i x w) (g : RelN RB v w w') : psiN v ln RB i x w' := by
  unfold psiN at h ⊢
  split at h
  all_goals first
    | exact h
    | exact g.2.1 h
-- next, target 1
set_option maxRecDepth 100000 in
set_option maxHeartbeats 8000000 in
theorem next_r {w : World} {T n cap p : Nat} {g : Nat → Int} {v : InV} {dv fv : Value} {en : Int} (hc : ∀ i, i < n → w.cell? ⟨T, i, none⟩ = some (.int .u8 (g i))) (hg : Mm.Fit g) (hn : n ≤ cap) (hcap : cap ≤ maxLen) (hnm : (n : Int) ≤ 1048576) (hv : Rc.mayB v = true) (hp : p + 8 ≤ n) (he : ∀ i, i < 8 → g (p + i) = Rc.enc v i) :
    Calls Tryz.prog 17 #[.agg #[.int .i64 1, .slice (some ⟨T, 0, none⟩) n cap, dv, .int .i64 en, fv], .int .i64 p] w fun e w' => e = .returned (.tuple #[.agg #[.int .i64 v.op, .int .i64 v.a, .int .i64 v.b, .int .i64 v.c, .int .i64 v.k, .int .i64 v.sub, .int .i64 v.scale, .int .i64 v.imm, .int .i64 v.label], .int .i64 8, .bool true]) ∧ w.grownBy w' none := by
  have hpn : p < n := by omega
  have hpn' : (p : Int) < n := by omega
  have hcp : ¬ cap = p := by omega
  have hcp2 : p ≤ cap := by omega
  unfold maxLen at hcap
  obtain ⟨W2, hW2⟩ : ∃ W2, W2 = (w.alloc (.cells #[.int .i64 1, .slice (some ⟨T, 0, none⟩) n cap, dv, .int .i64 en, fv] 32)).alloc (.cells #[.int .i64 0, .int .i64 0, .int .i64 0, .int .i64 0, .int .i64 0, .int .i64 0, .int .i64 0, .int .i64 0, .int .i64 0] 50) := ⟨_, rfl⟩
  have hg2 : w.grownBy W2 none := by rw [hW2]; exact ga (World.grownBy_alloc _ _ _) _
  have IR2 : InstAt W2 (w.heap.size + 1) zeroI := by
    have := InstAt.new (w.alloc (.cells #[.int .i64 1, .slice (some ⟨T, 0, none⟩) n cap, dv, .int .i64 en, fv] 32)) zeroI
    rw [hW2]
    simpa [zeroI] using this
  have HIR : Hid (InstAt W2 (w.heap.size + 1) zeroI) := IR2
  have HCp : Hid (Calls Tryz.prog 7 #[.slice (some ⟨T, p, none⟩) (n - p) (cap - p)] W2 fun e w' => ∃ T' c', e = .returned (.slice (some ⟨T', 0, none⟩) (n - p) c') ∧ OwnB w' W2.heap.size (.slice (some ⟨T', 0, none⟩) (n - p) c') (n - p) (fun i => g (p + i)) ∧ W2.grownBy w' none) :=
    (copyB (n - p) (cap - p) _ (fun i => g (p + i)) W2 (by omega) (fun h => by cases h) (.inr ⟨T, p, rfl, fun i hi => hg2.cell (hc (p + i) (by omega)) (by simp)⟩)).mono fun e w' ⟨x, hx, ho, hg'⟩ => by
      obtain ⟨T', c', rfl, _⟩ := own_slice ho (by omega)
      exact ⟨T', c', hx, ho, hg'⟩
  have HDc : Hid (∀ W T' c', OwnB W W2.heap.size (.slice (some ⟨T', 0, none⟩) (n - p) c') (n - p) (fun i => g (p + i)) → Calls Tryz.prog 34 #[.slice (some ⟨T', 0, none⟩) (n - p) c'] W fun e w' => e = .returned (.tuple #[.agg #[.int .i64 v.op, .int .i64 v.a, .int .i64 v.b, .int .i64 v.c, .int .i64 v.k, .int .i64 v.sub, .int .i64 v.scale, .int .i64 v.imm, .int .i64 v.label], .int .i64 8, .int .i64 0]) ∧ W.grownBy w' none) := fun W T' c' ho => by
    obtain ⟨ao, cap', hx, h0, h1, h2, h3⟩ := ho.shape
    injection hx with e1 e2 e3
    subst e1 e3
    rcases h3 with h3 | ⟨b, off, e, hcc⟩
    · omega
    · injection e with e
      injection e with e4 e5
      subst e4 e5
      exact decR hv h1 (fun i => hg (p + i)) hcc (by omega) he
  have HG2 : Hid (w.grownBy W2 none) := hg2
  have HW2 : Hid (W2 = (w.alloc (.cells #[.int .i64 1, .slice (some ⟨T, 0, none⟩) n cap, dv, .int .i64 en, fv] 32)).alloc (.cells #[.int .i64 0, .int .i64 0, .int .i64 0, .int .i64 0, .int .i64 0, .int .i64 0, .int .i64 0, .int .i64 0, .int .i64 0] 50)) := hW2
  have hs2 : W2.heap.size = w.heap.size + 2 := by rw [hW2]; simp
  clear hc hg he hv hp IR2 hW2 hg2
  obtain ⟨ln, hln⟩ : ∃ ln : Int, ln = 8 := ⟨_, rfl⟩
  rw [← hln] at HDc ⊢
  clear hln
  go_enter Tryz.func17, Tryz.ntmps17
  go_wp2_with (first
    | (go_at_call 7; rw [← HW2.out]; refine HCp.out.mono ?_; rintro e w3 ⟨T', c', rfl, ho3, hg3⟩; have HO3 : Hid (OwnB w3 W2.heap.size (.slice (some ⟨T', 0, none⟩) (n - p) c') (n - p) (fun i => g (p + i))) := ho3; have HG3 : Hid (W2.grownBy w3 none) := hg3; clear ho3 hg3)
    | (go_at_call 34; refine (HDc.out _ _ _ HO3.out).mono ?_; rintro e w4 ⟨rfl, hg4⟩; have HG4 : Hid (w3.grownBy w4 none) := hg4; clear hg4))
  obtain ⟨W5, hW5⟩ : ∃ W5, W5 = w4.alloc (.cells #[.int .i64 v.op, .int .i64 v.a, .int .i64 v.b, .int .i64 v.c, .int .i64 v.k, .int .i64 v.sub, .int .i64 v.scale, .int .i64 v.imm, .int .i64 v.label] 50) := ⟨_, rfl⟩
  obtain ⟨B5, hB5⟩ : ∃ B5, B5 = w4.heap.size := ⟨_, rfl⟩
  have I5 : InstAt W5 B5 v := by rw [hW5, hB5]; exact InstAt.new _ _
  have HG5 : Hid (W2.grownBy W5 none) := by rw [hW5]; exact ga (grown_trans HG3.out HG4.out) _
  have HI5 : Hid (InstAt W5 (w.heap.size + 1) zeroI) := HIR.out.kept HG5.out (by simp)
  have hBR : ¬ B5 = w.heap.size + 1 := by have := HG3.out.size; have := HG4.out.size; omega
  rw [← hW5, ← hB5]
  clear hW5 hB5
  have y0 := I5.c0
  have y1 := I5.c1
  have y2 := I5.c2
  have y3 := I5.c3
  have y4 := I5.c4
  have y5 := I5.c5
  have y6 := I5.c6
  have y7 := I5.c7
  have y8 := I5.c8
  clear I5
  have HGD : Hid (w.grownBy W5.drew none) := grown_drew (grown_trans HG2.out HG5.out)
  have HID : Hid (InstAt W5.drew (w.heap.size + 1) zeroI) := HI5.out.kept (grown_drew (World.grownBy.refl _ none)) (by simp)
  have hD5 : W5.grownBy W5.drew none := grown_drew (World.grownBy.refl _ none)
  refine region_rel (RelN (w.heap.size + 1) v) RelN.trans RelN.refl 7 (psiN v ln (w.heap.size + 1)) (by kernel_rfl) (by kernel_rfl) (by kernel_rfl) (by kernel_rfl) (fun i x w0 w1 hi h g => psiN_stable h g) ?_ ?_
  · simp only [List.take_succ_cons, List.take_zero]
    refine ⟨?_, ?_, ?_, ?_, ?_, ?_, ?_, trivial⟩
    · intro VV W0 AA g hV hs hz
      have gD : Ch W5 W0 [w.heap.size + 1] := (Ch.of hD5).trans g.1
      have e0 := hz 7 (.pointer (some ⟨B5, 0, none⟩)) (by kernel_rfl) rfl
      have x0 := gD.cell y0 (by simpa using hBR)
      have x1 := gD.cell y1 (by simpa using hBR)
      have x2 := gD.cell y2 (by simpa using hBR)
      have x3 := gD.cell y3 (by simpa using hBR)
      have x4 := gD.cell y4 (by simpa using hBR)
      have x5 := gD.cell y5 (by simpa using hBR)
      have x6 := gD.cell y6 (by simpa using hBR)
      have x7 := gD.cell y7 (by simpa using hBR)
      have x8 := gD.cell y8 (by simpa using hBR)
      clear hV hs hz
      refine outR_val (v := .agg #[.int .i64 v.op, .int .i64 v.a, .int .i64 v.b, .int .i64 v.c, .int .i64 v.k, .int .i64 v.sub, .int .i64 v.scale, .int .i64 v.imm, .int .i64 v.label]) (w' := W0) (by kernel_rfl) ?_ (RelN.refl _) rfl
      simp [go_sem, e0, x0, x1, x2, x3, x4, x5, x6, x7, x8]
    · intro VV W0 AA g hV hs hz
      have e0 := hz 8 (.int .i64 ln) (by kernel_rfl) rfl
      clear hV hs hz
      refine outR_val (v := .int .i64 ln) (w' := W0) (by kernel_rfl) ?_ (RelN.refl _) rfl
      simp [go_sem, e0]
    · intro VV W0 AA g hV hs hz
      have e0 := hz 9 (.int .i64 0) (by kernel_rfl) rfl
      clear hV hs hz
      refine outR_val (v := .int .i64 0) (w' := W0) (by kernel_rfl) ?_ (RelN.refl _) rfl
      simp [go_sem, e0]
    · intro VV W0 AA g hV hs hz
      have q2 : VV 2 = .int .i64 0 := hV 2 (by kernel_rfl)
      have e2 := hs 38 2 (by kernel_rfl) (by kernel_rfl)
      clear hV hs hz
      refine outR_call (f := 12) (by kernel_rfl) ?_ ((num6_any 0 W0).mono fun e w2 ⟨he, hg⟩ => ⟨_, he, hg ▸ RelN.refl _, rfl⟩)
      simp [go_sem, q2, e2]
    · intro VV W0 AA g hV hs hz
      have q3 : VV 3 = .int .i64 0 := hV 3 (by kernel_rfl)
      have e3 := hs 39 3 (by kernel_rfl) (by kernel_rfl)
      clear hV hs hz
      refine outR_val (v := .bool true) (w' := W0) (by kernel_rfl) ?_ (RelN.refl _) rfl
      simp [go_sem, q3, e3]
    · intro VV W0 AA g hV hs hz
      have q0 : VV 0 = .agg #[.int .i64 v.op, .int .i64 v.a, .int .i64 v.b, .int .i64 v.c, .int .i64 v.k, .int .i64 v.sub, .int .i64 v.scale, .int .i64 v.imm, .int .i64 v.label] := hV 0 (by kernel_rfl)
      have e0 := hs 36 0 (by kernel_rfl) (by kernel_rfl)
      have e4 := hz 4 (.pointer (some ⟨w.heap.size + 1, 0, none⟩)) (by kernel_rfl) rfl
      obtain ⟨u, hu⟩ := g.2.2 ⟨_, HID.out⟩
      clear hV hs hz
      have hu' := hu
      obtain ⟨z0, z1, z2, z3, z4, z5, z6, z7, z8, zz⟩ := hu
      refine outR_skip (w' := put9 W0 (w.heap.size + 1) v) ?_ (RelN.put hu') (hu'.put9 v)
      have f0 := zz 0
      have f1 := zz 1
      have f2 := zz 2
      have f3 := zz 3
      have f4 := zz 4
      have f5 := zz 5
      have f6 := zz 6
      have f7 := zz 7
      have f8 := zz 8
      simp [go_sem, q0, e0, e4, put9, z0, z1, z2, z3, z4, z5, z6, z7, z8, f0, f1, f2, f3, f4, f5, f6, f7, f8]
    · intro VV W0 AA g hV hs hz
      have q1 : VV 1 = .int .i64 ln := hV 1 (by kernel_rfl)
      have e1 := hs 37 1 (by kernel_rfl) (by kernel_rfl)
      clear hV hs hz
      refine outR_val (v := .int .i64 ln) (w' := W0) (by kernel_rfl) ?_ (RelN.refl _) rfl
      simp [go_sem, q1, e1]
  · intro VV W0 g hV
    have h0 : VV 0 = .agg #[.int .i64 v.op, .int .i64 v.a, .int .i64 v.b, .int .i64 v.c, .int .i64 v.k, .int .i64 v.sub, .int .i64 v.scale, .int .i64 v.imm, .int .i64 v.label] := hV 0 (by decide)
    have h1 : VV 1 = .int .i64 ln := hV 1 (by decide)
    have h2 : VV 2 = .int .i64 0 := hV 2 (by decide)
    have h3 : VV 3 = .int .i64 0 := hV 3 (by decide)
    have h4 : VV 4 = .bool true := hV 4 (by decide)
    have h6 : VV 6 = .int .i64 ln := hV 6 (by decide)
    have IR : InstAt W0 (w.heap.size + 1) v := hV 5 (by decide)
    have HGF : Hid (w.grownBy W0 none) := ((Ch.of HGD.out).trans g.1).nil (by simp)
    simp [frV, dstOf, Act.put, h0, h1, h2, h3, h4, h6]
    clear h0 h1 h2 h3 h4 h6 hV g y0 y1 y2 y3 y4 y5 y6 y7 y8
    go_wp2_with fail
    obtain ⟨q0, q1, q2, q3, q4, q5, q6, q7, q8, _⟩ := IR
    refine bodyPost_ret (by simp [results, Tryz.results17, go_sem, q0, q1, q2, q3, q4, q5, q6, q7, q8]; try rfl) rfl ?_
    exact ⟨rfl, HGF.out⟩
-- next, target 2
set_option maxRecDepth 100000 in
set_option maxHeartbeats 8000000 in
theorem next_c {w : World} {T n cap p : Nat} {g : Nat → Int} {v : InV} {dv fv : Value} {en : Int} (hc : ∀ i, i < n → w.cell? ⟨T, i, none⟩ = some (.int .u8 (g i))) (hg : Mm.Fit g) (hn : n ≤ cap) (hcap : cap ≤ maxLen) (hnm : (n : Int) ≤ 1048576) (hv : Cc.mayB v = true) (hr : InRng v) (hp : p + (Cc.enc v).length ≤ n) (he : ∀ i, i < (Cc.enc v).length → g (p + i) = (Cc.enc v).getD i 0) :
    Calls Tryz.prog 17 #[.agg #[.int .i64 2, .slice (some ⟨T, 0, none⟩) n cap, dv, .int .i64 en, fv], .int .i64 p] w fun e w' => e = .returned (.tuple #[.agg #[.int .i64 v.op, .int .i64 v.a, .int .i64 v.b, .int .i64 v.c, .int .i64 v.k, .int .i64 v.sub, .int .i64 v.scale, .int .i64 v.imm, .int .i64 v.label], .int .i64 ((Cc.enc v).length : Int), .bool true]) ∧ w.grownBy w' none := by
  have hl1 := Cc.enc_pos v
  have hpn : p < n := by omega
  have hpn' : (p : Int) < n := by omega
  have hcp : ¬ cap = p := by omega
  have hcp2 : p ≤ cap := by omega
  unfold maxLen at hcap
  obtain ⟨W2, hW2⟩ : ∃ W2, W2 = (w.alloc (.cells #[.int .i64 2, .slice (some ⟨T, 0, none⟩) n cap, dv, .int .i64 en, fv] 32)).alloc (.cells #[.int .i64 0, .int .i64 0, .int .i64 0, .int .i64 0, .int .i64 0, .int .i64 0, .int .i64 0, .int .i64 0, .int .i64 0] 50) := ⟨_, rfl⟩
  have hg2 : w.grownBy W2 none := by rw [hW2]; exact ga (World.grownBy_alloc _ _ _) _
  have IR2 : InstAt W2 (w.heap.size + 1) zeroI := by
    have := InstAt.new (w.alloc (.cells #[.int .i64 2, .slice (some ⟨T, 0, none⟩) n cap, dv, .int .i64 en, fv] 32)) zeroI
    rw [hW2]
    simpa [zeroI] using this
  have HIR : Hid (InstAt W2 (w.heap.size + 1) zeroI) := IR2
  have HCp : Hid (Calls Tryz.prog 7 #[.slice (some ⟨T, p, none⟩) (n - p) (cap - p)] W2 fun e w' => ∃ T' c', e = .returned (.slice (some ⟨T', 0, none⟩) (n - p) c') ∧ OwnB w' W2.heap.size (.slice (some ⟨T', 0, none⟩) (n - p) c') (n - p) (fun i => g (p + i)) ∧ W2.grownBy w' none) :=
    (copyB (n - p) (cap - p) _ (fun i => g (p + i)) W2 (by omega) (fun h => by cases h) (.inr ⟨T, p, rfl, fun i hi => hg2.cell (hc (p + i) (by omega)) (by simp)⟩)).mono fun e w' ⟨x, hx, ho, hg'⟩ => by
      obtain ⟨T', c', rfl, _⟩ := own_slice ho (by omega)
      exact ⟨T', c', hx, ho, hg'⟩
  have HDc : Hid (∀ W T' c', OwnB W W2.heap.size (.slice (some ⟨T', 0, none⟩) (n - p) c') (n - p) (fun i => g (p + i)) → Calls Tryz.prog 35 #[.slice (some ⟨T', 0, none⟩) (n - p) c'] W fun e w' => e = .returned (.tuple #[.agg #[.int .i64 v.op, .int .i64 v.a, .int .i64 v.b, .int .i64 v.c, .int .i64 v.k, .int .i64 v.sub, .int .i64 v.scale, .int .i64 v.imm, .int .i64 v.label], .int .i64 ((Cc.enc v).length : Int), .int .i64 0]) ∧ W.grownBy w' none) := fun W T' c' ho => by
    obtain ⟨ao, cap', hx, h0, h1, h2, h3⟩ := ho.shape
    injection hx with e1 e2 e3
    subst e1 e3
    rcases h3 with h3 | ⟨b, off, e, hcc⟩
    · omega
    · injection e with e
      injection e with e4 e5
      subst e4 e5
      exact decC ⟨(fun h => by cases h), h1, h2, fun i => hg (p + i), .inr ⟨_, 0, rfl, hcc⟩, (fun b off h0 e => by injection e with e; injection e with e; subst e; exact (World.ownsRow.lt ho _ rfl).2)⟩ hv hr (by omega) he
  have HG2 : Hid (w.grownBy W2 none) := hg2
  have HW2 : Hid (W2 = (w.alloc (.cells #[.int .i64 2, .slice (some ⟨T, 0, none⟩) n cap, dv, .int .i64 en, fv] 32)).alloc (.cells #[.int .i64 0, .int .i64 0, .int .i64 0, .int .i64 0, .int .i64 0, .int .i64 0, .int .i64 0, .int .i64 0, .int .i64 0] 50)) := hW2
  have hs2 : W2.heap.size = w.heap.size + 2 := by rw [hW2]; simp
  clear hc hg he hv hp IR2 hW2 hg2 hr hl1
  obtain ⟨ln, hln⟩ : ∃ ln : Int, ln = ((Cc.enc v).length : Int) := ⟨_, rfl⟩
  rw [← hln] at HDc ⊢
  clear hln
  go_enter Tryz.func17, Tryz.ntmps17
  go_wp2_with (first
    | (go_at_call 7; rw [← HW2.out]; refine HCp.out.mono ?_; rintro e w3 ⟨T', c', rfl, ho3, hg3⟩; have HO3 : Hid (OwnB w3 W2.heap.size (.slice (some ⟨T', 0, none⟩) (n - p) c') (n - p) (fun i => g (p + i))) := ho3; have HG3 : Hid (W2.grownBy w3 none) := hg3; clear ho3 hg3)
    | (go_at_call 35; refine (HDc.out _ _ _ HO3.out).mono ?_; rintro e w4 ⟨rfl, hg4⟩; have HG4 : Hid (w3.grownBy w4 none) := hg4; clear hg4))
  obtain ⟨W5, hW5⟩ : ∃ W5, W5 = w4.alloc (.cells #[.int .i64 v.op, .int .i64 v.a, .int .i64 v.b, .int .i64 v.c, .int .i64 v.k, .int .i64 v.sub, .int .i64 v.scale, .int .i64 v.imm, .int .i64 v.label] 50) := ⟨_, rfl⟩
  obtain ⟨B5, hB5⟩ : ∃ B5, B5 = w4.heap.size := ⟨_, rfl⟩
  have I5 : InstAt W5 B5 v := by rw [hW5, hB5]; exact InstAt.new _ _
  have HG5 : Hid (W2.grownBy W5 none) := by rw [hW5]; exact ga (grown_trans HG3.out HG4.out) _
  have HI5 : Hid (InstAt W5 (w.heap.size + 1) zeroI) := HIR.out.kept HG5.out (by simp)
  have hBR : ¬ B5 = w.heap.size + 1 := by have := HG3.out.size; have := HG4.out.size; omega
  rw [← hW5, ← hB5]
  clear hW5 hB5
  have y0 := I5.c0
  have y1 := I5.c1
  have y2 := I5.c2
  have y3 := I5.c3
  have y4 := I5.c4
  have y5 := I5.c5
  have y6 := I5.c6
  have y7 := I5.c7
  have y8 := I5.c8
  clear I5
  have HGD : Hid (w.grownBy W5.drew none) := grown_drew (grown_trans HG2.out HG5.out)
  have HID : Hid (InstAt W5.drew (w.heap.size + 1) zeroI) := HI5.out.kept (grown_drew (World.grownBy.refl _ none)) (by simp)
  have hD5 : W5.grownBy W5.drew none := grown_drew (World.grownBy.refl _ none)
  refine region_rel (RelN (w.heap.size + 1) v) RelN.trans RelN.refl 7 (psiN v ln (w.heap.size + 1)) (by kernel_rfl) (by kernel_rfl) (by kernel_rfl) (by kernel_rfl) (fun i x w0 w1 hi h g => psiN_stable h g) ?_ ?_
  · simp only [List.take_succ_cons, List.take_zero]
    refine ⟨?_, ?_, ?_, ?_, ?_, ?_, ?_, trivial⟩
    · intro VV W0 AA g hV hs hz
      have gD : Ch W5 W0 [w.heap.size + 1] := (Ch.of hD5).trans g.1
      have e0 := hz 10 (.pointer (some ⟨B5, 0, none⟩)) (by kernel_rfl) rfl
      have x0 := gD.cell y0 (by simpa using hBR)
      have x1 := gD.cell y1 (by simpa using hBR)
      have x2 := gD.cell y2 (by simpa using hBR)
      have x3 := gD.cell y3 (by simpa using hBR)
      have x4 := gD.cell y4 (by simpa using hBR)
      have x5 := gD.cell y5 (by simpa using hBR)
      have x6 := gD.cell y6 (by simpa using hBR)
      have x7 := gD.cell y7 (by simpa using hBR)
      have x8 := gD.cell y8 (by simpa using hBR)
      clear hV hs hz
      refine outR_val (v := .agg #[.int .i64 v.op, .int .i64 v.a, .int .i64 v.b, .int .i64 v.c, .int .i64 v.k, .int .i64 v.sub, .int .i64 v.scale, .int .i64 v.imm, .int .i64 v.label]) (w' := W0) (by kernel_rfl) ?_ (RelN.refl _) rfl
      simp [go_sem, e0, x0, x1, x2, x3, x4, x5, x6, x7, x8]
    · intro VV W0 AA g hV hs hz
      have e0 := hz 11 (.int .i64 ln) (by kernel_rfl) rfl
      clear hV hs hz
      refine outR_val (v := .int .i64 ln) (w' := W0) (by kernel_rfl) ?_ (RelN.refl _) rfl
      simp [go_sem, e0]
    · intro VV W0 AA g hV hs hz
      have e0 := hz 12 (.int .i64 0) (by kernel_rfl) rfl
      clear hV hs hz
      refine outR_val (v := .int .i64 0) (w' := W0) (by kernel_rfl) ?_ (RelN.refl _) rfl
      simp [go_sem, e0]
    · intro VV W0 AA g hV hs hz
      have q2 : VV 2 = .int .i64 0 := hV 2 (by kernel_rfl)
      have e2 := hs 53 2 (by kernel_rfl) (by kernel_rfl)
      clear hV hs hz
      refine outR_call (f := 12) (by kernel_rfl) ?_ ((num6_any 0 W0).mono fun e w2 ⟨he, hg⟩ => ⟨_, he, hg ▸ RelN.refl _, rfl⟩)
      simp [go_sem, q2, e2]
    · intro VV W0 AA g hV hs hz
      have q3 : VV 3 = .int .i64 0 := hV 3 (by kernel_rfl)
      have e3 := hs 54 3 (by kernel_rfl) (by kernel_rfl)
      clear hV hs hz
      refine outR_val (v := .bool true) (w' := W0) (by kernel_rfl) ?_ (RelN.refl _) rfl
      simp [go_sem, q3, e3]
    · intro VV W0 AA g hV hs hz
      have q0 : VV 0 = .agg #[.int .i64 v.op, .int .i64 v.a, .int .i64 v.b, .int .i64 v.c, .int .i64 v.k, .int .i64 v.sub, .int .i64 v.scale, .int .i64 v.imm, .int .i64 v.label] := hV 0 (by kernel_rfl)
      have e0 := hs 51 0 (by kernel_rfl) (by kernel_rfl)
      have e4 := hz 4 (.pointer (some ⟨w.heap.size + 1, 0, none⟩)) (by kernel_rfl) rfl
      obtain ⟨u, hu⟩ := g.2.2 ⟨_, HID.out⟩
      clear hV hs hz
      have hu' := hu
      obtain ⟨z0, z1, z2, z3, z4, z5, z6, z7, z8, zz⟩ := hu
      refine outR_skip (w' := put9 W0 (w.heap.size + 1) v) ?_ (RelN.put hu') (hu'.put9 v)
      have f0 := zz 0
      have f1 := zz 1
      have f2 := zz 2
      have f3 := zz 3
      have f4 := zz 4
      have f5 := zz 5
      have f6 := zz 6
      have f7 := zz 7
      have f8 := zz 8
      simp [go_sem, q0, e0, e4, put9, z0, z1, z2, z3, z4, z5, z6, z7, z8, f0, f1, f2, f3, f4, f5, f6, f7, f8]
    · intro VV W0 AA g hV hs hz
      have q1 : VV 1 = .int .i64 ln := hV 1 (by kernel_rfl)
      have e1 := hs 52 1 (by kernel_rfl) (by kernel_rfl)
      clear hV hs hz
      refine outR_val (v := .int .i64 ln) (w' := W0) (by kernel_rfl) ?_ (RelN.refl _) rfl
      simp [go_sem, q1, e1]
  · intro VV W0 g hV
    have h0 : VV 0 = .agg #[.int .i64 v.op, .int .i64 v.a, .int .i64 v.b, .int .i64 v.c, .int .i64 v.k, .int .i64 v.sub, .int .i64 v.scale, .int .i64 v.imm, .int .i64 v.label] := hV 0 (by decide)
    have h1 : VV 1 = .int .i64 ln := hV 1 (by decide)
    have h2 : VV 2 = .int .i64 0 := hV 2 (by decide)
    have h3 : VV 3 = .int .i64 0 := hV 3 (by decide)
    have h4 : VV 4 = .bool true := hV 4 (by decide)
    have h6 : VV 6 = .int .i64 ln := hV 6 (by decide)
    have IR : InstAt W0 (w.heap.size + 1) v := hV 5 (by decide)
    have HGF : Hid (w.grownBy W0 none) := ((Ch.of HGD.out).trans g.1).nil (by simp)
    simp [frV, dstOf, Act.put, h0, h1, h2, h3, h4, h6]
    clear h0 h1 h2 h3 h4 h6 hV g y0 y1 y2 y3 y4 y5 y6 y7 y8
    go_wp2_with fail
    obtain ⟨q0, q1, q2, q3, q4, q5, q6, q7, q8, _⟩ := IR
    refine bodyPost_ret (by simp [results, Tryz.results17, go_sem, q0, q1, q2, q3, q4, q5, q6, q7, q8]; try rfl) rfl ?_
    exact ⟨rfl, HGF.out⟩
end Go.Proofs.YtkiockffejlnhaaGreatDoor

/- gantryref4.row, uses, immediate, binary, scaled: contracts. -/
namespace Go.Proofs.YtkiockffejlnhaaGreatDoor
open Go.RowKit
set_option linter.unusedVariables false
namespace Cc
def rowS (op : Int) : ByteArray :=
  if op = 1 then ⟨#[110, 105]⟩ else if op = 3 ∨ op = 26 ∨ op = 27 ∨ op = 28 then ⟨#[97]⟩ else if op = 4 ∨ op = 7 ∨ op = 8 then ⟨#[97, 75, 83]⟩ else if op = 5 then ⟨#[110, 75, 83, 105]⟩
  else if op = 6 then ⟨#[97, 75, 83, 52]⟩ else if op = 10 then ⟨#[97, 99, 52]⟩ else if op = 11 ∨ op = 13 then ⟨#[97, 75, 52]⟩ else if op = 12 ∨ op = 14 then ⟨#[97, 99, 75, 52]⟩
  else if op = 15 ∨ op = 18 then ⟨#[97, 83]⟩ else if op = 16 then ⟨#[97, 75]⟩ else if op = 17 then ⟨#[110, 75, 105]⟩ else if op = 19 then ⟨#[106, 105]⟩ else if op = 22 then ⟨#[74, 105]⟩
  else if op = 23 ∨ op = 25 ∨ op = 29 then ⟨#[52]⟩ else if op = 24 then ⟨#[45]⟩ else ⟨#[]⟩
def lts (s : ByteArray) : List Int := s.data.toList.map fun b => (b.toNat : Int)
theorem rowS_none {o : Int} (h : (o == 1) = false ∧ (o == 3) = false ∧ (o == 4) = false ∧ (o == 5) = false ∧ (o == 6) = false ∧ (o == 7) = false ∧ (o == 8) = false ∧ (o == 10) = false ∧ (o == 11) = false ∧ (o == 12) = false ∧ (o == 13) = false ∧ (o == 14) = false ∧ (o == 15) = false ∧ (o == 16) = false ∧ (o == 17) = false ∧ (o == 18) = false ∧ (o == 19) = false ∧ (o == 22) = false ∧ (o == 23) = false ∧ (o == 24) = false ∧ (o == 25) = false ∧ (o == 26) = false ∧ (o == 27) = false ∧ (o == 28) = false ∧ (o == 29) = false) : rowS o = ⟨#[]⟩ := by
  simp only [beq_eq_false_iff_ne, ne_eq] at h
  unfold rowS
  simp [h]
theorem lts_row (o : Int) : lts (rowS o) = row o := by
  rcases ops o with h | h | h | h | h | h | h | h | h | h | h | h | h | h | h | h | h | h | h | h | h | h | h | h | h | h
  case inr.inr.inr.inr.inr.inr.inr.inr.inr.inr.inr.inr.inr.inr.inr.inr.inr.inr.inr.inr.inr.inr.inr.inr.inr =>
    rw [rowS_none h, (row_none h).1]; rfl
  all_goals (rw [h]; decide)
end Cc
set_option maxHeartbeats 4000000 in
theorem rrow_any (o : Int) (w : World) :
    Calls Tryz.prog 72 #[.int .i64 o] w fun e w' => e = .returned (.string (Cc.rowS o)) ∧ w' = w := by
  go_enter Tryz.func72, Tryz.ntmps72
  go_wp2
  all_goals (go_ret; refine ⟨?_, rfl⟩; simp only [beq_iff_eq, beq_eq_false_iff_ne] at *; unfold Cc.rowS; simp [*])
set_option maxHeartbeats 4000000 in
theorem rimm_any (s k n : Int) (w : World) (h1 : -9223372036854775808 ≤ n) (h2 : n ≤ 9223372036854775807) :
    Calls Tryz.prog 104 #[.int .i64 s, .int .i64 k, .int .i64 n] w fun e w' => e = .returned (.bool (Cc.immB s k n)) ∧ w' = w := by
  have h3 : 0 ≤ n % 18446744073709551616 := by omega
  have h4 : n % 18446744073709551616 < 18446744073709551616 := by omega
  have HW : Hid (∀ x : Int, wrap64 (wrap32 (x % 4294967296)) = Rc.s32 x) := fun x => by unfold wrap64 wrap32 Rc.s32; omega
  cases hk : Wd.intB k
  all_goals
    cases hb : Wd.hasBinB s k
    all_goals
      cases hm : Rc.smallB n
      all_goals
        cases hs : Wd.shB s
        all_goals
          go_enter Tryz.func104, Tryz.ntmps104
          go_wp2_with (first
            | (go_at_call 106; refine (rint_any _ _).mono ?_; rw [hk]; rintro e w' ⟨rfl, rfl⟩)
            | (go_at_call 98; refine (rhasBin_any _ _ _).mono ?_; rw [hb]; rintro e w' ⟨rfl, rfl⟩)
            | (go_at_call 71; refine (rsmall_any _ _).mono ?_; rw [hm]; rintro e w' ⟨rfl, rfl⟩)
            | (go_at_call 105; refine (rshift_any _ _).mono ?_; rw [hs]; rintro e w' ⟨rfl, rfl⟩)
            | (go_at_call 129; refine (rcanon_any _ _ _ h3 h4).mono ?_; rintro e w' ⟨rfl, rfl⟩))
          all_goals
            go_ret
            refine ⟨ret_bool ?_, rfl⟩
            unfold Cc.immB
            simp only [hk, hb, hm, hs]
            first | (simp_all; done) | (rw [← HW.out]; simp_all; done)
end Go.Proofs.YtkiockffejlnhaaGreatDoor

/- gantryref4.uses, binary, scaled: contracts. -/
namespace Go.Proofs.YtkiockffejlnhaaGreatDoor
open Go.RowKit
set_option linter.unusedVariables false
namespace Cc
theorem uses_true {o c : Int} {k : Nat} (hk : k < (rowS o).size) (h : useL o ((rowS o)[k].toNat : Int) c = true) : usesB o c = true := by
  unfold usesB
  rw [← lts_row, List.any_eq_true]
  exact ⟨((rowS o)[k].toNat : Int), List.mem_map.mpr ⟨(rowS o)[k], by simp [ByteArray.getElem_eq_getElem_data], rfl⟩, h⟩
theorem uses_false {o c : Int} (h : ∀ k (hk : k < (rowS o).size), useL o ((rowS o)[k].toNat : Int) c = false) : usesB o c = false := by
  unfold usesB
  rw [← lts_row, List.any_eq_false]
  intro x hx
  obtain ⟨b, hb, rfl⟩ := List.mem_map.mp hx
  obtain ⟨k, hk, rfl⟩ := List.getElem_of_mem hb
  have := h k (by simpa using hk)
  rw [ByteArray.getElem_eq_getElem_data] at this
  simp only [Array.getElem_toList]
  rw [this]; simp
theorem rowS_size (o : Int) : (rowS o).size ≤ 4 := by
  rcases ops o with h | h | h | h | h | h | h | h | h | h | h | h | h | h | h | h | h | h | h | h | h | h | h | h | h | h
  case inr.inr.inr.inr.inr.inr.inr.inr.inr.inr.inr.inr.inr.inr.inr.inr.inr.inr.inr.inr.inr.inr.inr.inr.inr =>
    rw [rowS_none h]; decide
  all_goals (rw [h]; decide)
end Cc
set_option maxRecDepth 40000 in
set_option maxHeartbeats 4000000 in
theorem ruses_any (o c : Int) (w : World) :
    Calls Tryz.prog 102 #[.int .i64 o, .int .u8 c] w fun e w' => e = .returned (.bool (Cc.usesB o c)) ∧ w' = w := by
  have hsz := Cc.rowS_size o
  have HT : Hid (∀ k (hk : k < (Cc.rowS o).size), Cc.useL o ((Cc.rowS o)[k].toNat : Int) c = true → Cc.usesB o c = true) := fun k hk h => Cc.uses_true hk h
  have HF : Hid ((∀ k (hk : k < (Cc.rowS o).size), Cc.useL o ((Cc.rowS o)[k].toNat : Int) c = false) → Cc.usesB o c = false) := Cc.uses_false
  have HR : Hid (∀ W, Calls Tryz.prog 72 #[.int .i64 o] W fun e w' => e = .returned (.string (Cc.rowS o)) ∧ w' = W) := rrow_any o
  generalize Cc.rowS o = s at *
  generalize Cc.usesB o c = U at *
  go_enter Tryz.func102, Tryz.ntmps102
  go_wp2_with (go_at_call 72; refine (HR.out _).mono ?_; rintro e w' ⟨rfl, rfl⟩)
  go_loopw [6] (fun i wr => ∃ k : Nat, k ≤ s.size ∧ i = .int .i64 k ∧ wr = w' ∧ ∀ j (hj : j < s.size), j < k → Cc.useL o (s[j].toNat : Int) c = false) (fun i _ => s.size - (intOf i).toNat)
  case atStart => exact ⟨0, Nat.zero_le _, rfl, rfl, fun _ _ h => absurd h (Nat.not_lt_zero _)⟩
  case round =>
    obtain ⟨k, hk, rfl, rfl, hf⟩ := hrel
    have HP : Hid (∀ j (hj : j < s.size), j < k → Cc.useL o (s[j].toNat : Int) c = false) := hf
    clear hf
    by_cases hlt : k < s.size
    · have HT2 : Hid (Cc.useL o (s[k].toNat : Int) c = true → U = true) := HT.out k hlt
      have HN : Hid (Cc.useL o (s[k].toNat : Int) c = false → ∀ j (hj : j < s.size), j < k + 1 → Cc.useL o (s[j].toNat : Int) c = false) := fun h j hj h2 => by
        by_cases e : j = k
        · subst e; exact h
        · exact HP.out j hj (by omega)
      clear HT HF HP HR
      generalize hl : (s[k].toNat : Int) = l at *
      have hc : l = 97 ∨ l = 110 ∨ l = 99 ∨ l = 75 ∨ l = 83 ∨ l = 74 ∨ l = 105 ∨ l = 52 ∨ ((l == 97) = false ∧ (l == 110) = false ∧ (l == 99) = false ∧ (l == 75) = false ∧ (l == 83) = false ∧ (l == 74) = false ∧ (l == 105) = false ∧ (l == 52) = false) := by
        simp only [beq_eq_false_iff_ne, ne_eq]; omega
      rcases hc with rfl | rfl | rfl | rfl | rfl | rfl | rfl | rfl | hc
      case inr.inr.inr.inr.inr.inr.inr.inr =>
        have HZ0 : Cc.useL o l c = false := by
          simp only [beq_eq_false_iff_ne, ne_eq] at hc
          unfold Cc.useL
          simp [hc]
        have HZ : Hid (Cc.useL o l c = false) := HZ0
        clear HZ0
        obtain ⟨a1, a2, a3, a4, a5, a6, a7, a8⟩ := hc
        go_wp2
        exact ⟨⟨k + 1, by omega, by go_num, trivial, HN.out HZ.out⟩, by simp [intOf]; omega⟩
      · cases e1 : (c == 65)
        case true => (go_wp2; first
          | (go_ret; refine ⟨ret_bool (HT2.out ?_).symm, rfl⟩; unfold Cc.useL; (first | (simp_all; done)))
          | (refine ⟨⟨k + 1, by omega, by go_num, trivial, HN.out ?_⟩, by simp [intOf]; omega⟩; unfold Cc.useL; simp_all))
        cases e2 : (c == 66)
        case false => (go_wp2; first
          | (go_ret; refine ⟨ret_bool (HT2.out ?_).symm, rfl⟩; unfold Cc.useL; (first | (simp_all; done)))
          | (refine ⟨⟨k + 1, by omega, by go_num, trivial, HN.out ?_⟩, by simp [intOf]; omega⟩; unfold Cc.useL; simp_all))
        cases e3 : (o != 7)
        case false => (go_wp2; first
          | (go_ret; refine ⟨ret_bool (HT2.out ?_).symm, rfl⟩; unfold Cc.useL; (first | (simp_all; done)))
          | (refine ⟨⟨k + 1, by omega, by go_num, trivial, HN.out ?_⟩, by simp [intOf]; omega⟩; unfold Cc.useL; simp_all))
        cases e4 : (o != 27)
        case false => (go_wp2; first
          | (go_ret; refine ⟨ret_bool (HT2.out ?_).symm, rfl⟩; unfold Cc.useL; (first | (simp_all; done)))
          | (refine ⟨⟨k + 1, by omega, by go_num, trivial, HN.out ?_⟩, by simp [intOf]; omega⟩; unfold Cc.useL; simp_all))
        cases e5 : (o != 28)
        case false => (go_wp2; first
          | (go_ret; refine ⟨ret_bool (HT2.out ?_).symm, rfl⟩; unfold Cc.useL; (first | (simp_all; done)))
          | (refine ⟨⟨k + 1, by omega, by go_num, trivial, HN.out ?_⟩, by simp [intOf]; omega⟩; unfold Cc.useL; simp_all))
        cases e6 : (o != 18)
        all_goals (go_wp2; first
          | (go_ret; refine ⟨ret_bool (HT2.out ?_).symm, rfl⟩; unfold Cc.useL; (first | (simp_all; done)))
          | (refine ⟨⟨k + 1, by omega, by go_num, trivial, HN.out ?_⟩, by simp [intOf]; omega⟩; unfold Cc.useL; simp_all))
      all_goals
        go_wp2
        all_goals first
          | (go_ret; refine ⟨ret_bool (HT2.out ?_).symm, rfl⟩; unfold Cc.useL; (first | (simp_all; done)))
          | (refine ⟨⟨k + 1, by omega, by go_num, trivial, HN.out ?_⟩, by simp [intOf]; omega⟩; unfold Cc.useL; simp_all)
    · have HU : Hid (U = false) := HF.out fun j hj => HP.out j hj (by omega)
      go_wp2
      go_ret
      exact ⟨ret_bool HU.out.symm, rfl⟩
end Go.Proofs.YtkiockffejlnhaaGreatDoor

/- gantryref4.May: its contract. -/
namespace Go.Proofs.YtkiockffejlnhaaGreatDoor
open Go.RowKit
set_option linter.unusedVariables false
set_option maxHeartbeats 4000000 in
theorem rbinary_any (v : InV) (w : World) :
    Calls Tryz.prog 103 #[inst v] w fun e w' => e = .returned (.bool (Cc.binB v)) ∧ w.grownBy w' none := by
  unfold inst
  cases hb : Wd.hasBinB v.sub v.k
  all_goals
    cases hs : Wd.shB v.sub
    all_goals
      cases hk : Wd.intB v.k
      all_goals
        go_enter Tryz.func103, Tryz.ntmps103
        go_wp2_with (first
          | (go_at_call 106; refine (rint_any _ _).mono ?_; rw [hk]; rintro e w' ⟨rfl, rfl⟩)
          | (go_at_call 98; refine (rhasBin_any _ _ _).mono ?_; rw [hb]; rintro e w' ⟨rfl, rfl⟩)
          | (go_at_call 105; refine (rshift_any _ _).mono ?_; rw [hs]; rintro e w' ⟨rfl, rfl⟩))
        all_goals
          go_ret
          refine ⟨ret_bool ?_, World.grownBy_alloc _ _ _⟩
          unfold Cc.binB
          simp only [hb, hs, hk]
          first | rfl | (simp_all; done)
set_option maxHeartbeats 4000000 in
theorem rscaled_any (v : InV) (w : World) :
    Calls Tryz.prog 107 #[inst v] w fun e w' => e = .returned (.bool (Cc.sclB v)) ∧ w.grownBy w' none := by
  unfold inst
  go_enter Tryz.func107, Tryz.ntmps107
  go_wp2
  all_goals
    go_ret
    refine ⟨ret_bool ?_, World.grownBy_alloc _ _ _⟩
    unfold Cc.sclB
    first | rfl | (simp_all; done)
theorem rbinary_at (op a b c k sub sc imm lb : Int) (w : World) :
    Calls Tryz.prog 103 #[.agg #[.int .i64 op, .int .i64 a, .int .i64 b, .int .i64 c, .int .i64 k, .int .i64 sub, .int .i64 sc, .int .i64 imm, .int .i64 lb]] w fun e w' => e = .returned (.bool (Cc.binB ⟨op, a, b, c, k, sub, sc, imm, lb⟩)) ∧ w.grownBy w' none := rbinary_any ⟨op, a, b, c, k, sub, sc, imm, lb⟩ w
theorem rscaled_at (op a b c k sub sc imm lb : Int) (w : World) :
    Calls Tryz.prog 107 #[.agg #[.int .i64 op, .int .i64 a, .int .i64 b, .int .i64 c, .int .i64 k, .int .i64 sub, .int .i64 sc, .int .i64 imm, .int .i64 lb]] w fun e w' => e = .returned (.bool (Cc.sclB ⟨op, a, b, c, k, sub, sc, imm, lb⟩)) ∧ w.grownBy w' none := rscaled_any ⟨op, a, b, c, k, sub, sc, imm, lb⟩ w
end Go.Proofs.YtkiockffejlnhaaGreatDoor
