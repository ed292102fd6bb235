/- flow: a walk through blocks. -/
import Derived.Test.YtbpdggdpgohilaaG10
import Derived.Test.YtbpdggdpgohilaaG9
namespace Go.Proofs.Ytbpdggdpgohilaa
open Go.RowKit
set_option linter.unusedVariables false
set_option maxRecDepth 100000
set_option maxHeartbeats 8000000

theorem bk_ne {w : World} {A B : Nat} {t1 t2 : TypeId} {L1 L2 : List Value} (h1 : Bk w A t1 L1) (h2 : Bk w B t2 L2) (ht : t1 ≠ t2) : A ≠ B := fun e => by
  subst e
  unfold Bk at h1 h2
  rw [h1] at h2
  simp at h2
  exact ht h2.2
theorem ownZ_ne {w : World} {base B : Nat} {v : Value} {l : List Int} {t : TypeId} {L : List Value} (h : OwnZ w base v l) (hk : Bk w B t L) (ht : t ≠ 3) {q : Nat} (hq : v.ownBlock = some q) : q ≠ B := by
  obtain ⟨a, c, hv, _, _, h3⟩ := h.n.slice
  have h4 := h.n
  rcases a with _ | ⟨T, o, m⟩
  · rw [hv] at hq; cases hq
  · rcases h.2 with ⟨e, _⟩ | ⟨q', c', cur, e, _, e2, _⟩
    · rw [e] at hv; injection hv with e1; cases e1
    · rw [e] at hq
      injection hq with hq
      subst hq
      intro e3
      subst e3
      unfold Bk at hk
      rw [e2] at hk
      simp at hk
      exact ht hk.2.symm
theorem apK0 {N WB PB : Nat} {ty : TypeId} {pv : Value} {l : List Int} {L : List Value} {w : World} (hP : w.cell? ⟨PB, 0, none⟩ = some (.pointer (some ⟨WB, 0, none⟩))) (hB : Bk w WB ty L) (ho : OwnZ w N pv l) (i : Nat) : apK N WB PB ty pv l L i w := by
  unfold apK
  split
  · exact hP
  · exact hP
  · exact hB
  · exact ho
  · exact hB
  · trivial
namespace Sa
theorem fvisits_len {bs : List Bl} {f : Nat} (ih : ∀ b p s d, s.2.length + d ≤ s.1.order.length → (fvisit bs f b p s).2.length + d ≤ (fvisit bs f b p s).1.order.length) {own : Nat} : ∀ {l : List Int} {s : Wk × List Int} {d : Nat}, s.2.length + d ≤ s.1.order.length → (fvisits bs f own l s).2.length + d ≤ (fvisits bs f own l s).1.order.length
  | [], s, d, h => by rw [fvisits]; exact h
  | x :: l, s, d, h => by
    rw [fvisits]
    split
    · exact fvisits_len ih (ih _ _ _ _ h)
    · exact fvisits_len ih h
theorem fvisit_len {bs : List Bl} : ∀ f b p s d, s.2.length + d ≤ s.1.order.length → (fvisit bs f b p s).2.length + d ≤ (fvisit bs f b p s).1.order.length
  | 0, b, p, s, d, h => by rw [fvisit]; exact h
  | f + 1, b, p, s, d, h => by
    rw [fvisit]
    have h1 := fvisits_len (fvisit_len (bs := bs) f) (own := s.1.order.length) (l := (bs.getD b.toNat bl0).succs) (s := (s.1.on b p, s.2)) (d := d + 1) (by show s.2.length + (d + 1) ≤ (s.1.order ++ [b]).length; rw [List.length_append, List.length_singleton]; omega)
    show ((fvisits bs f s.1.order.length (bs.getD b.toNat bl0).succs (s.1.on b p, s.2)).2 ++ [b]).length + d ≤ (fvisits bs f s.1.order.length (bs.getD b.toNat bl0).succs (s.1.on b p, s.2)).1.order.length
    rw [List.length_append, List.length_singleton]
    omega
end Sa
/-- flow's walk as it lies -/
structure FwL (N : Nat) (W : World) (PB BX FB WB SB RB n : Nat) (a : Option Addr) (k : Nat) (s : Sa.Wk) (par post : List Int) (mv pv qv : Value) (r : Nat → Int) : Prop where
  st : FsL N W SB RB n s mv r
  w : Bk W WB 64 [.pointer (some ⟨SB, 0, none⟩), pv, qv]
  lo : N ≤ WB
  p : OwnZ W N pv par
  q : OwnZ W N qv post
  b : Bk W PB 60 [.pointer (some ⟨WB, 0, none⟩)]
  x : Bk W BX 26 [.slice a n k]
  f : Bk W FB 76 [.func (.func 40) #[] #[.pointer (some ⟨PB, 0, none⟩), .pointer (some ⟨BX, 0, none⟩), .pointer (some ⟨FB, 0, none⟩)]]
  d1 : ∀ z, pv.ownBlock = some z → z ≠ RB ∧ mv.ownBlock ≠ some z
  d2 : ∀ z, qv.ownBlock = some z → z ≠ RB ∧ mv.ownBlock ≠ some z ∧ pv.ownBlock ≠ some z
section
variable {N : Nat} {W w' : World} {PB BX FB WB SB RB n : Nat} {a : Option Addr} {k : Nat} {s s1 : Sa.Wk} {par post par' : List Int} {mv mv' pv qv v' : Value} {r r' : Nat → Int}
theorem FwL.grow (h : FwL N W PB BX FB WB SB RB n a k s par post mv pv qv r) (g : W.grownBy w' none) : FwL N w' PB BX FB WB SB RB n a k s par post mv pv qv r := ⟨h.st.grow g, h.w.grow g, h.lo, h.p.grow g, h.q.grow g, h.b.grow g, h.x.grow g, h.f.grow g, h.d1, h.d2⟩
theorem FwL.add (h : FwL N W PB BX FB WB SB RB n a k s par post mv pv qv r) (hT : FsTo N W w' SB RB n s1 mv mv' r') : FwL N w' PB BX FB WB SB RB n a k s1 par post mv' pv qv r' := by
  have hb : ∀ {B : Nat} {t : TypeId} {L : List Value}, Bk W B t L → t ≠ 67 → t ≠ 3 → B ∉ SB :: RB :: mv.ownBlock.toList := fun {B t L} hB h1 h2 hm => by
    simp only [List.mem_cons, Option.mem_toList] at hm
    rcases hm with e | e | e
    · exact bk_ne hB h.st.k h1 e
    · exact ownN_ne h.st.r hB h2 e
    · exact ownZ_ne h.st.o hB h2 e rfl
  refine ⟨hT.a, h.w.ch hT.c (hb h.w (by decide) (by decide)), h.lo, h.p.ch hT.c fun q hq hm => ?_, h.q.ch hT.c fun q hq hm => ?_, h.b.ch hT.c (hb h.b (by decide) (by decide)), h.x.ch hT.c (hb h.x (by decide) (by decide)), h.f.ch hT.c (hb h.f (by decide) (by decide)), fun z hz => ⟨(h.d1 z hz).1, fun e => ?_⟩, fun z hz => ⟨(h.d2 z hz).1, fun e => ?_, (h.d2 z hz).2.2⟩⟩
  · simp only [List.mem_cons, Option.mem_toList] at hm
    rcases hm with e | e | e
    · exact ownZ_ne h.p h.st.k (by decide) hq e
    · exact (h.d1 q hq).1 e
    · exact (h.d1 q hq).2 e
  · simp only [List.mem_cons, Option.mem_toList] at hm
    rcases hm with e | e | e
    · exact ownZ_ne h.q h.st.k (by decide) hq e
    · exact (h.d2 q hq).1 e
    · exact (h.d2 q hq).2.1 e
  · rcases hT.n z e with h1 | h1
    · exact (h.d1 z hz).2 h1
    · have := h.p.lt z hz; omega
  · rcases hT.n z e with h1 | h1
    · exact (h.d2 z hz).2.1 h1
    · have := h.q.lt z hz; omega
theorem FwL.app1 (h : FwL N W PB BX FB WB SB RB n a k s par post mv pv qv r) (hB : Bk w' WB 64 [.pointer (some ⟨SB, 0, none⟩), v', qv]) (hO : OwnZ w' N v' par') (hC : Ch W w' (apL WB pv)) (hn : ∀ q, v'.ownBlock = some q → pv.ownBlock = some q ∨ W.heap.size ≤ q) : FwL N w' PB BX FB WB SB RB n a k s par' post mv v' qv r := by
  have hb : ∀ {B : Nat} {t : TypeId} {L : List Value}, Bk W B t L → t ≠ 64 → t ≠ 3 → B ∉ apL WB pv := fun {B t L} hB h1 h2 hm => by
    simp only [apL, List.mem_cons, Option.mem_toList] at hm
    rcases hm with e | e
    · exact bk_ne hB h.w h1 e
    · exact ownZ_ne h.p hB h2 e rfl
  have hr : RB ∉ apL WB pv := fun hm => by
    simp only [apL, List.mem_cons, Option.mem_toList] at hm
    rcases hm with e | e
    · exact ownN_ne h.st.r h.w (by decide) e.symm
    · exact (h.d1 RB e).1 rfl
  refine ⟨⟨h.st.k.ch hC (hb h.st.k (by decide) (by decide)), h.st.lo, h.st.o.ch hC fun q hq hm => ?_, h.st.r.ch hC fun q hq => by injection hq with hq; subst hq; exact hr, h.st.a, h.st.pl⟩, hB, h.lo, hO, h.q.ch hC fun q hq hm => ?_, h.b.ch hC (hb h.b (by decide) (by decide)), h.x.ch hC (hb h.x (by decide) (by decide)), h.f.ch hC (hb h.f (by decide) (by decide)), fun z hz => ?_, fun z hz => ⟨(h.d2 z hz).1, (h.d2 z hz).2.1, fun e => ?_⟩⟩
  · simp only [apL, List.mem_cons, Option.mem_toList] at hm
    rcases hm with e | e
    · exact ownZ_ne h.st.o h.w (by decide) hq e
    · exact (h.d1 q e).2 hq
  · simp only [apL, List.mem_cons, Option.mem_toList] at hm
    rcases hm with e | e
    · exact ownZ_ne h.q h.w (by decide) hq e
    · exact (h.d2 q hq).2.2 e
  · rcases hn z hz with h1 | h1
    · exact h.d1 z h1
    · refine ⟨fun e => ?_, fun e => ?_⟩
      · have := h.st.r.lt RB rfl; omega
      · have := h.st.o.lt z e; omega
  · rcases hn z e with h1 | h1
    · exact (h.d2 z hz).2.2 h1
    · have := h.q.lt z hz; omega
theorem FwL.app2 (h : FwL N W PB BX FB WB SB RB n a k s par post mv pv qv r) (hB : Bk w' WB 64 [.pointer (some ⟨SB, 0, none⟩), pv, v']) (hO : OwnZ w' N v' par') (hC : Ch W w' (apL WB qv)) (hn : ∀ q, v'.ownBlock = some q → qv.ownBlock = some q ∨ W.heap.size ≤ q) : FwL N w' PB BX FB WB SB RB n a k s par par' mv pv v' r := by
  have hb : ∀ {B : Nat} {t : TypeId} {L : List Value}, Bk W B t L → t ≠ 64 → t ≠ 3 → B ∉ apL WB qv := fun {B t L} hB h1 h2 hm => by
    simp only [apL, List.mem_cons, Option.mem_toList] at hm
    rcases hm with e | e
    · exact bk_ne hB h.w h1 e
    · exact ownZ_ne h.q hB h2 e rfl
  have hr : RB ∉ apL WB qv := fun hm => by
    simp only [apL, List.mem_cons, Option.mem_toList] at hm
    rcases hm with e | e
    · exact ownN_ne h.st.r h.w (by decide) e.symm
    · exact (h.d2 RB e).1 rfl
  refine ⟨⟨h.st.k.ch hC (hb h.st.k (by decide) (by decide)), h.st.lo, h.st.o.ch hC fun q hq hm => ?_, h.st.r.ch hC fun q hq => by injection hq with hq; subst hq; exact hr, h.st.a, h.st.pl⟩, hB, h.lo, h.p.ch hC fun q hq hm => ?_, hO, h.b.ch hC (hb h.b (by decide) (by decide)), h.x.ch hC (hb h.x (by decide) (by decide)), h.f.ch hC (hb h.f (by decide) (by decide)), h.d1, fun z hz => ?_⟩
  · simp only [apL, List.mem_cons, Option.mem_toList] at hm
    rcases hm with e | e
    · exact ownZ_ne h.st.o h.w (by decide) hq e
    · exact (h.d2 q e).2.1 hq
  · simp only [apL, List.mem_cons, Option.mem_toList] at hm
    rcases hm with e | e
    · exact ownZ_ne h.p h.w (by decide) hq e
    · exact (h.d2 q e).2.2 hq
  · rcases hn z hz with h1 | h1
    · exact h.d2 z h1
    · refine ⟨fun e => ?_, fun e => ?_, fun e => ?_⟩
      · have := h.st.r.lt RB rfl; omega
      · have := h.st.o.lt z e; omega
      · have := h.p.lt z e; omega
end
def FwAt (N : Nat) (W : World) (PB BX FB WB SB RB n : Nat) (a : Option Addr) (k : Nat) (s : Sa.Wk) (post : List Int) : Prop := ∃ mv pv qv r, FwL N W PB BX FB WB SB RB n a k s s.parent post mv pv qv r
theorem flVisit_any {N : Nat} {bs : List Sa.Bl} {a : Option Addr} {k : Nat} (hsd : Sa.Leads bs) (hble : bs.length ≤ 4096) {PB BX FB WB SB RB : Nat} : ∀ (f : Nat) {w : World} {s : Sa.Wk} {post : List Int} {b : Nat} {p : Int}, bs.length ≤ f + s.order.length → b < bs.length → s.rank b = -1 → (-1 ≤ p ∧ p < (s.order.length : Int) ∧ (0 < s.order.length → 0 ≤ p)) → Sa.WkI bs.length s → post.length ≤ s.order.length → N ≤ w.heap.size → BlL (· < N) w a k bs → FwAt N w PB BX FB WB SB RB bs.length a k s post → Calls Try.prog 40 #[.int .i64 (b : Int), .int .i64 p, .pointer (some ⟨PB, 0, none⟩), .pointer (some ⟨BX, 0, none⟩), .pointer (some ⟨FB, 0, none⟩)] w fun r w' => r = .returned (.tuple #[]) ∧ FwAt N w' PB BX FB WB SB RB bs.length a k (Sa.fvisit bs f b p (s, post)).1 (Sa.fvisit bs f b p (s, post)).2 ∧ Below N w w'
  | 0, w, s, post, b, p, hf, hb, hr, hp, hI, hle, hN, hBL, hA => by have := hI.lt hb hr; omega
  | f + 1, w, s, post, b, p, hf, hb, hr, hp, hI, hle, hN, hBL, hA => by
    obtain ⟨mv, pv, qv, r, hL⟩ := hA
    obtain ⟨pa, pc, hpv, hp1, hp2, hp3⟩ := hL.p.slice
    have hlt := hI.lt hb hr
    have hplen := hI.len
    have hbI : (b : Int) < (bs.length : Int) := by omega
    obtain ⟨own, hown⟩ : ∃ own, own = s.order.length := ⟨_, rfl⟩
    rw [← hplen, ← hown] at hpv
    obtain ⟨T, hT⟩ : ∃ T, T = Sa.fvisits bs f own (bs.getD b Sa.bl0).succs (s.on b p, post) := ⟨_, rfl⟩
    have hV : Sa.fvisit bs (f + 1) b p (s, post) = (T.1, T.2 ++ [(b : Int)]) := by rw [Sa.fvisit, Int.toNat_natCast, hT, hown]
    rw [hV]
    have HT : Hid (T = Sa.fvisits bs f own (bs.getD b Sa.bl0).succs (s.on b p, post)) := hT
    have c0 := hL.b.cell (i := 0) rfl
    have c1 := hL.w.cell (i := 1) rfl
    have c2 := hL.w.cell (i := 0) rfl
    rw [hpv] at c1
    have HL : Hid (FwL N w PB BX FB WB SB RB bs.length a k s s.parent post mv pv qv r) := hL
    have HAd : Hid (Calls Try.prog 41 #[.pointer (some ⟨SB, 0, none⟩), .int .i64 (b : Int)] w fun e w' => e = .returned (.tuple #[]) ∧ ∃ mv' r', FsTo N w w' SB RB bs.length (s.on b p) mv mv' r') := flAdd_any hN hble hL.st hI hb p
    have HI1 : Hid (Sa.WkI bs.length (s.on b p)) := hI.on hb hr hp
    have HLe : Hid (post.length + 1 ≤ (s.on b p).order.length) := by show post.length + 1 ≤ (s.order ++ [(b : Int)]).length; rw [List.length_append, List.length_singleton]; omega
    have HF : Hid (bs.length ≤ f + (s.on b p).order.length) := by show bs.length ≤ f + (s.order ++ [(b : Int)]).length; rw [List.length_append, List.length_singleton]; omega
    have HOwn : Hid (own < (s.on b p).order.length) := by show own < (s.order ++ [(b : Int)]).length; rw [List.length_append, List.length_singleton]; omega
    have hol : s.parent.length ≤ 2000000 := by omega
    have HBL : Hid (∀ W, Below N w W → BlL (· < N) W a k bs) := fun W g => hBL.below g
    have HNw : Hid (N ≤ w.heap.size) := hN
    have HMb : Hid (∀ q, mv.ownBlock = some q → N ≤ q) := fun q hq => hL.st.o.base q hq
    clear hown hpv hT hV hL hI hBL hf hr hp hp1 hp2 hp3 hplen hN hle
    go_enter Try.func40, Try.ntmps40
    go_wp2_with (go_at_call 41; refine HAd.out.mono ?_; rintro e w2 ⟨rfl, mv2, r2, hT2⟩; have HT2 : Hid (FsTo N w w2 SB RB bs.length (s.on b p) mv mv2 r2) := hT2; have HL2 : Hid (FwL N w2 PB BX FB WB SB RB bs.length a k (s.on b p) s.parent post mv2 pv qv r2) := HL.out.add hT2; clear hT2)
    have HAs : Hid (ApS N w2.heap.size WB PB pv) := ⟨HL2.out.w.lt, HL2.out.lo, fun q hq => ⟨HL2.out.p.lt q hq, ownZ_ne HL2.out.p HL2.out.w (by decide) hq, ownZ_ne HL2.out.p HL2.out.b (by decide) hq⟩, bk_ne HL2.out.b HL2.out.w (by decide)⟩
    clear c0 c1 c2 HL HAd
    refine region_lf (fun i w9 => Ch w2.drew w9 (apL WB pv) ∧ apK N WB PB 64 pv (s.parent) [.pointer (some ⟨SB, 0, none⟩), pv, qv] i w9) (apT WB 1 pv) (apP N w2.heap.size WB 1 64 pv (s.parent) p [.pointer (some ⟨SB, 0, none⟩), pv, qv] w2.drew) 11 rfl
      (fun i V V' w9 hi h1 h2 h3 => apP_cong h1 (fun e => h2 7 (by subst e; kernel_rfl)) h3)
      (fun i j w9 w8 hi hj hne hc hT hK => by
        by_cases e : i = 10
        · subst e
          by_cases e8 : j = 8
          · subst e8; exact ⟨hK.1.trans (apT_ch hT), trivial⟩
          · by_cases e9 : j = 9
            · subst e9; exact (deps_one (by kernel_rfl) hc).elim
            · exact (deps_all (m := 8) (by kernel_rfl) (by omega) hc).elim
        · exact ⟨hK.1.trans (apT_ch hT), apK_keep HAs.out hne e hT hK.2⟩)
      (fun i j V w9 w8 hi hj hne hc hT hP => by
        by_cases e : j = 10
        · subst e
          by_cases e8 : i = 8
          · subst e8
            have g : w9.grownBy w8 none := hT
            exact ⟨Bk.grow hP.1 g, hP.2.trans (Ch.of g)⟩
          · by_cases e9 : i = 9
            · subst e9; exact (deps_one (by kernel_rfl) hc).elim
            · exact (deps_all (m := 8) (by kernel_rfl) (by omega) hc).elim
        · exact apP_keep HAs.out hne e hT hP)
      (by kernel_rfl) (by kernel_rfl) (by kernel_rfl) (by kernel_rfl) (by kernel_rfl) (fun i hi => ⟨Ch.refl _ _, apK0 (HL2.out.b.grow (grown_drew (World.grownBy.refl _ _)) |>.cell (i := 0) rfl) (HL2.out.w.grow (grown_drew (World.grownBy.refl _ _))) (HL2.out.p.grow (grown_drew (World.grownBy.refl _ _))) i⟩) (fun U => ?_)
    refine lfl_cons 1 rfl (fun w9 hK hd => ?_) ?_
    · have c9 : w9.cell? ⟨PB, 0, none⟩ = some (.pointer (some ⟨WB, 0, none⟩)) := hK.2
      exact stepF_val rfl rfl (v := .pointer (some ⟨WB, 0, none⟩)) (w' := w9) (by simp [go_sem, c9]) (World.grownBy.refl _ _) (upV_at U 0 _)
    simp only [Act.put, List.setIfInBounds_toArray, List.set_cons_succ, List.set_cons_zero]
    refine lfl_cons 2 rfl (fun w9 hK hd => ?_) ?_
    · have c9 : w9.cell? ⟨PB, 0, none⟩ = some (.pointer (some ⟨WB, 0, none⟩)) := hK.2
      exact stepF_val rfl rfl (v := .pointer (some ⟨WB, 0, none⟩)) (w' := w9) (by simp [go_sem, c9]) (World.grownBy.refl _ _) (upV_at U 1 _)
    simp only [Act.put, List.setIfInBounds_toArray, List.set_cons_succ, List.set_cons_zero]
    refine lfl_cons 3 rfl (fun w9 hK hd => ?_) ?_
    · have e1 : U 1 = .pointer (some ⟨WB, 0, none⟩) := hd 1 (by kernel_rfl)
      exact stepF_val rfl rfl (v := .pointer (some ⟨WB, 0, none⟩)) (w' := w9) (by simp [go_sem, e1]) (World.grownBy.refl _ _) (upV_at U 2 _)
    simp only [Act.put, List.setIfInBounds_toArray, List.set_cons_succ, List.set_cons_zero]
    refine lfl_cons 4 rfl (fun w9 hK hd => ?_) ?_
    · have e2 : U 2 = .pointer (some ⟨WB, 0, none⟩) := hd 2 (by kernel_rfl)
      exact stepF_val rfl rfl (v := .pointer (some ⟨WB, 1, none⟩)) (w' := w9) (by simp [go_sem, e2]) (World.grownBy.refl _ _) (upV_at U 3 _)
    simp only [Act.put, List.setIfInBounds_toArray, List.set_cons_succ, List.set_cons_zero]
    refine lfl_cons 5 rfl (fun w9 hK hd => ?_) ?_
    · have e3 : U 3 = .pointer (some ⟨WB, 1, none⟩) := hd 3 (by kernel_rfl)
      have c9 := Bk.cell (show Bk w9 WB 64 [.pointer (some ⟨SB, 0, none⟩), pv, qv] from hK.2) (i := 1) rfl
      exact stepF_val rfl rfl (v := pv) (w' := w9) (by simp [go_sem, e3, c9]) (World.grownBy.refl _ _) (upV_at U 4 _)
    simp only [Act.put, List.setIfInBounds_toArray, List.set_cons_succ, List.set_cons_zero]
    refine lfl_cons 6 rfl (fun w9 hK hd => ?_) ?_
    · exact stepF_val rfl rfl (v := .int .i64 p) (w' := w9) (by simp [go_sem]) (World.grownBy.refl _ _) (upV_at U 5 _)
    simp only [Act.put, List.setIfInBounds_toArray, List.set_cons_succ, List.set_cons_zero]
    refine lfl_cons 7 rfl (fun w9 hK hd => ?_) ?_
    · have e5 : U 5 = .int .i64 p := hd 5 (by kernel_rfl)
      refine stepF_val rfl rfl (v := .slice (some ⟨w9.heap.size, 0, none⟩) 1 1) (w' := w9.alloc (.cells #[(.int .i64 p)] 3)) (by simp [go_sem, e5]) (World.grownBy_alloc _ _ _) ⟨w9.heap.size, upV_at U 6 _, by have := hK.1.size; simpa using this, ?_⟩
      exact (Bk.new w9 3 [(.int .i64 p)]).cell (i := 0) rfl
    simp only [Act.put, List.setIfInBounds_toArray, List.set_cons_succ, List.set_cons_zero]
    refine lfl_cons 8 rfl (fun w9 hK hd => ?_) ?_
    · have e4 : U 4 = pv := hd 4 (by kernel_rfl)
      obtain ⟨q9, e6, hq9, c9⟩ := hd 6 (by kernel_rfl)
      have hO : OwnZ w9 N pv (s.parent) := hK.2
      have hsz := hK.1.size
      obtain ⟨v9, w8, hr9, h1, h2, h3⟩ := run_appZ1 hO c9 hol (by have := HAs.out.n; have := HAs.out.w; simp at hsz; omega) 24
      refine stepF_val rfl rfl (v := v9) (w' := w8) (run_app_op (.tmp 25) (.tmp 27) rfl (by simp [Act.eval, e4]) (by simp [Act.eval, e6]) hr9) h2 ⟨by rw [upV_at]; exact h1, fun q hq => ?_⟩
      rw [upV_at] at hq
      rcases h3 with h3 | h3
      · exact .inl (h3 ▸ hq)
      · rw [h3] at hq; simp at hq hsz; exact .inr (by omega)
    simp only [Act.put, List.setIfInBounds_toArray, List.set_cons_succ, List.set_cons_zero]
    refine lfl_cons 9 rfl (fun w9 hK hd => ?_) ?_
    · have e0 : U 0 = .pointer (some ⟨WB, 0, none⟩) := hd 0 (by kernel_rfl)
      exact stepF_val rfl rfl (v := .pointer (some ⟨WB, 0, none⟩)) (w' := w9) (by simp [go_sem, e0]) (World.grownBy.refl _ _) (upV_at U 8 _)
    simp only [Act.put, List.setIfInBounds_toArray, List.set_cons_succ, List.set_cons_zero]
    refine lfl_cons 10 rfl (fun w9 hK hd => ?_) ?_
    · have e8 : U 8 = .pointer (some ⟨WB, 0, none⟩) := hd 8 (by kernel_rfl)
      exact stepF_val rfl rfl (v := .pointer (some ⟨WB, 1, none⟩)) (w' := w9) (by simp [go_sem, e8]) (World.grownBy.refl _ _) (upV_at U 9 _)
    simp only [Act.put, List.setIfInBounds_toArray, List.set_cons_succ, List.set_cons_zero]
    refine lfl_cons 11 rfl (fun w9 hK hd => ?_) ?_
    · have e9 : U 9 = .pointer (some ⟨WB, 1, none⟩) := hd 9 (by kernel_rfl)
      have hB9 : Bk w9 WB 64 [.pointer (some ⟨SB, 0, none⟩), pv, qv] := hK.2
      have c9 := hB9.cell (i := 1) rfl
      have f9 := hB9.frozen 1
      obtain ⟨o7, _⟩ := hd 7 (by kernel_rfl)
      obtain ⟨a7, k7, e7, _⟩ := o7.slice
      exact stepF_skip rfl (w' := w9.setCell ⟨WB, 1, none⟩ (U 7)) (by simp [go_sem, e9, e7, c9, f9]) ⟨_, rfl⟩ ⟨by rw [upV_ne (by decide)]; exact hB9.set 1 _, hK.1.trans (Ch.one (grown_set _ _ _ _) (by simp [apL]))⟩
    simp only [Act.put]
    refine lfl_nil fun W8 hall => ?_
    obtain ⟨o7, b7⟩ := hall 7 (by decide)
    obtain ⟨hB8, hC8⟩ := hall 10 (by decide)
    clear hall

    have hL3 : FwL N W8 PB BX FB WB SB RB bs.length a k (s.on b p) (s.parent ++ [p]) post mv2 (U 7) qv r2 := HL2.out.app1 hB8 o7 ((Ch.of (grown_drew (World.grownBy.refl _ _))).trans hC8) b7
    have HL3 : Hid (FwAt N W8 PB BX FB WB SB RB bs.length a k (s.on b p) post) := ⟨mv2, U 7, qv, r2, hL3⟩
    have hBe : Below N w W8 := by
      refine (HT2.out.c.below HNw.out fun q hq => ?_).trans (((Ch.of (l := apL WB pv) (grown_drew (World.grownBy.refl _ none))).trans hC8).below (by have := HL2.out.lo; have := HL2.out.w.lt; omega) fun q hq => ?_)
      · simp only [List.mem_cons, Option.mem_toList] at hq
        rcases hq with rfl | rfl | hq
        · exact HL2.out.st.lo
        · exact HL2.out.st.r.base _ rfl
        · exact HMb.out q hq
      · simp only [apL, List.mem_cons, Option.mem_toList] at hq
        rcases hq with rfl | hq
        · exact HL2.out.lo
        · exact HL2.out.p.base q hq
    have HBe : Hid (Below N w W8) := hBe
    obtain ⟨s1, hs1⟩ : ∃ s1, s1 = s.on b p := ⟨_, rfl⟩
    rw [← hs1] at HL3 HI1 HLe HF HOwn HT
    have x0 := hL3.x.cell (i := 0) rfl
    clear hs1 hL3 hBe o7 b7 hB8 hC8 HAs HL2 HT2 HMb
    obtain ⟨bb, bo, b1, b2, b3, b4, m1, m2, m3, m4, hba, hbb, hbl⟩ := (HBL.out W8 HBe.out).num hb
    obtain ⟨cs, hcs⟩ : ∃ cs, cs = (bs.getD b Sa.bl0).succs := ⟨_, rfl⟩
    have hSu : ∀ x, x ∈ cs → 0 ≤ x ∧ x < (bs.length : Int) := by rw [hcs]; exact hsd b hb
    have HSu : Hid (∀ x, x ∈ cs → 0 ≤ x ∧ x < (bs.length : Int)) := hSu
    have cS := hbl.c4
    have hSl := hbl.succs
    rw [← hcs] at cS hSl HT
    have hsle := hSl.le
    have hsmx := hSl.max
    unfold maxLen at hsmx
    have HSn : Hid (∀ W, Below N W8 W → NumL (· < N) W b3 m3 cs) := fun W g => NumL.ch hSl (Ch.ofBelow g) (fun q hq hm => by have := (List.mem_range'_1.1 hm).1; omega) (fun _ h => h)
    rw [hba] at x0
    clear hbl hcs hSl hSu
    go_wp2_with fail
    clear x0 cS hba
    go_loopw [37] (fun ix wr => ∃ (i : Nat) (s9 : Sa.Wk) (post9 : List Int), ix = .int .i64 i ∧ i ≤ cs.length ∧ FwAt N wr PB BX FB WB SB RB bs.length a k s9 post9 ∧ Sa.WkI bs.length s9 ∧ bs.length ≤ f + s9.order.length ∧ own < s9.order.length ∧ post9.length + 1 ≤ s9.order.length ∧ T = Sa.fvisits bs f own (cs.drop i) (s9, post9) ∧ Below N W8 wr) (fun ix _ => cs.length - (intOf ix).toNat)
    case atStart => exact ⟨0, s1, post, rfl, Nat.zero_le _, HL3.out, HI1.out, HF.out, HOwn.out, HLe.out, by rw [List.drop_zero]; exact HT.out, Below.refl _ _⟩
    case round =>
      obtain ⟨i, s9, post9, rfl, hi, hA, hI, hf9, ho9, hle9, hv9, hg⟩ := hrel
      have HB9 : Hid (Below N W8 wr) := hg
      have HI9 : Hid (Sa.WkI bs.length s9) := hI
      have HF9 : Hid (bs.length ≤ f + s9.order.length) := hf9
      have HO9 : Hid (own < s9.order.length) := ho9
      have HLe9 : Hid (post9.length + 1 ≤ s9.order.length) := hle9
      have HV9 : Hid (T = Sa.fvisits bs f own (cs.drop i) (s9, post9)) := hv9
      have HA9 : Hid (FwAt N wr PB BX FB WB SB RB bs.length a k s9 post9) := hA
      clear hf9 ho9 hle9 hv9 hg hI HL3 HI1 HF HOwn HLe HT
      by_cases hil : i < cs.length
      case neg =>
        obtain rfl : i = cs.length := by omega
        have HR : Hid (T = (s9, post9)) := by show T = _; rw [HV9.out, List.drop_length, Sa.fvisits]
        obtain ⟨mv9, pv9, qv9, r9, hL9⟩ := hA
        have HL9 : Hid (FwL N wr PB BX FB WB SB RB bs.length a k s9 s9.parent post9 mv9 pv9 qv9 r9) := hL9
        have hol : post9.length ≤ 2000000 := by have := HI9.out.le; have := HLe9.out; omega
        have HAs : Hid (ApS N wr.heap.size WB PB qv9) := ⟨hL9.w.lt, hL9.lo, fun q hq => ⟨hL9.q.lt q hq, ownZ_ne hL9.q hL9.w (by decide) hq, ownZ_ne hL9.q hL9.b (by decide) hq⟩, bk_ne hL9.b hL9.w (by decide)⟩
        have hNr : N ≤ wr.heap.size := by have := hL9.lo; have := hL9.w.lt; omega
        clear HV9 hL9
        go_wp2_with fail
        refine region_lf (fun i w9 => Ch wr.drew w9 (apL WB qv9) ∧ apK N WB PB 64 qv9 (post9) [.pointer (some ⟨SB, 0, none⟩), pv9, qv9] i w9) (apT WB 2 qv9) (apP N wr.heap.size WB 2 64 qv9 (post9) (b : Int) [.pointer (some ⟨SB, 0, none⟩), pv9, qv9] wr.drew) 11 rfl
          (fun i V V' w9 hi h1 h2 h3 => apP_cong h1 (fun e => h2 7 (by subst e; kernel_rfl)) h3)
          (fun i j w9 w8 hi hj hne hc hT hK => by
            by_cases e : i = 10
            · subst e
              by_cases e8 : j = 8
              · subst e8; exact ⟨hK.1.trans (apT_ch hT), trivial⟩
              · by_cases e9 : j = 9
                · subst e9; exact (deps_one (by kernel_rfl) hc).elim
                · exact (deps_all (m := 8) (by kernel_rfl) (by omega) hc).elim
            · exact ⟨hK.1.trans (apT_ch hT), apK_keep HAs.out hne e hT hK.2⟩)
          (fun i j V w9 w8 hi hj hne hc hT hP => by
            by_cases e : j = 10
            · subst e
              by_cases e8 : i = 8
              · subst e8
                have g : w9.grownBy w8 none := hT
                exact ⟨Bk.grow hP.1 g, hP.2.trans (Ch.of g)⟩
              · by_cases e9 : i = 9
                · subst e9; exact (deps_one (by kernel_rfl) hc).elim
                · exact (deps_all (m := 8) (by kernel_rfl) (by omega) hc).elim
            · exact apP_keep HAs.out hne e hT hP)
          (by kernel_rfl) (by kernel_rfl) (by kernel_rfl) (by kernel_rfl) (by kernel_rfl) (fun i hi => ⟨Ch.refl _ _, apK0 (HL9.out.b.grow (grown_drew (World.grownBy.refl _ _)) |>.cell (i := 0) rfl) (HL9.out.w.grow (grown_drew (World.grownBy.refl _ _))) (HL9.out.q.grow (grown_drew (World.grownBy.refl _ _))) i⟩) (fun U => ?_)
        refine lfl_cons 1 rfl (fun w9 hK hd => ?_) ?_
        · have c9 : w9.cell? ⟨PB, 0, none⟩ = some (.pointer (some ⟨WB, 0, none⟩)) := hK.2
          exact stepF_val rfl rfl (v := .pointer (some ⟨WB, 0, none⟩)) (w' := w9) (by simp [go_sem, c9]) (World.grownBy.refl _ _) (upV_at U 0 _)
        simp only [Act.put, List.setIfInBounds_toArray, List.set_cons_succ, List.set_cons_zero]
        refine lfl_cons 2 rfl (fun w9 hK hd => ?_) ?_
        · have c9 : w9.cell? ⟨PB, 0, none⟩ = some (.pointer (some ⟨WB, 0, none⟩)) := hK.2
          exact stepF_val rfl rfl (v := .pointer (some ⟨WB, 0, none⟩)) (w' := w9) (by simp [go_sem, c9]) (World.grownBy.refl _ _) (upV_at U 1 _)
        simp only [Act.put, List.setIfInBounds_toArray, List.set_cons_succ, List.set_cons_zero]
        refine lfl_cons 3 rfl (fun w9 hK hd => ?_) ?_
        · have e1 : U 1 = .pointer (some ⟨WB, 0, none⟩) := hd 1 (by kernel_rfl)
          exact stepF_val rfl rfl (v := .pointer (some ⟨WB, 0, none⟩)) (w' := w9) (by simp [go_sem, e1]) (World.grownBy.refl _ _) (upV_at U 2 _)
        simp only [Act.put, List.setIfInBounds_toArray, List.set_cons_succ, List.set_cons_zero]
        refine lfl_cons 4 rfl (fun w9 hK hd => ?_) ?_
        · have e2 : U 2 = .pointer (some ⟨WB, 0, none⟩) := hd 2 (by kernel_rfl)
          exact stepF_val rfl rfl (v := .pointer (some ⟨WB, 2, none⟩)) (w' := w9) (by simp [go_sem, e2]) (World.grownBy.refl _ _) (upV_at U 3 _)
        simp only [Act.put, List.setIfInBounds_toArray, List.set_cons_succ, List.set_cons_zero]
        refine lfl_cons 5 rfl (fun w9 hK hd => ?_) ?_
        · have e3 : U 3 = .pointer (some ⟨WB, 2, none⟩) := hd 3 (by kernel_rfl)
          have c9 := Bk.cell (show Bk w9 WB 64 [.pointer (some ⟨SB, 0, none⟩), pv9, qv9] from hK.2) (i := 2) rfl
          exact stepF_val rfl rfl (v := qv9) (w' := w9) (by simp [go_sem, e3, c9]) (World.grownBy.refl _ _) (upV_at U 4 _)
        simp only [Act.put, List.setIfInBounds_toArray, List.set_cons_succ, List.set_cons_zero]
        refine lfl_cons 6 rfl (fun w9 hK hd => ?_) ?_
        · exact stepF_val rfl rfl (v := .int .i64 (b : Int)) (w' := w9) (by simp [go_sem]) (World.grownBy.refl _ _) (upV_at U 5 _)
        simp only [Act.put, List.setIfInBounds_toArray, List.set_cons_succ, List.set_cons_zero]
        refine lfl_cons 7 rfl (fun w9 hK hd => ?_) ?_
        · have e5 : U 5 = .int .i64 (b : Int) := hd 5 (by kernel_rfl)
          refine stepF_val rfl rfl (v := .slice (some ⟨w9.heap.size, 0, none⟩) 1 1) (w' := w9.alloc (.cells #[(.int .i64 (b : Int))] 3)) (by simp [go_sem, e5]) (World.grownBy_alloc _ _ _) ⟨w9.heap.size, upV_at U 6 _, by have := hK.1.size; simpa using this, ?_⟩
          exact (Bk.new w9 3 [(.int .i64 (b : Int))]).cell (i := 0) rfl
        simp only [Act.put, List.setIfInBounds_toArray, List.set_cons_succ, List.set_cons_zero]
        refine lfl_cons 8 rfl (fun w9 hK hd => ?_) ?_
        · have e4 : U 4 = qv9 := hd 4 (by kernel_rfl)
          obtain ⟨q9, e6, hq9, c9⟩ := hd 6 (by kernel_rfl)
          have hO : OwnZ w9 N qv9 (post9) := hK.2
          have hsz := hK.1.size
          obtain ⟨v9, w8, hr9, h1, h2, h3⟩ := run_appZ1 hO c9 hol (by have := HAs.out.n; have := HAs.out.w; simp at hsz; omega) 24
          refine stepF_val rfl rfl (v := v9) (w' := w8) (run_app_op (.tmp 57) (.tmp 59) rfl (by simp [Act.eval, e4]) (by simp [Act.eval, e6]) hr9) h2 ⟨by rw [upV_at]; exact h1, fun q hq => ?_⟩
          rw [upV_at] at hq
          rcases h3 with h3 | h3
          · exact .inl (h3 ▸ hq)
          · rw [h3] at hq; simp at hq hsz; exact .inr (by omega)
        simp only [Act.put, List.setIfInBounds_toArray, List.set_cons_succ, List.set_cons_zero]
        refine lfl_cons 9 rfl (fun w9 hK hd => ?_) ?_
        · have e0 : U 0 = .pointer (some ⟨WB, 0, none⟩) := hd 0 (by kernel_rfl)
          exact stepF_val rfl rfl (v := .pointer (some ⟨WB, 0, none⟩)) (w' := w9) (by simp [go_sem, e0]) (World.grownBy.refl _ _) (upV_at U 8 _)
        simp only [Act.put, List.setIfInBounds_toArray, List.set_cons_succ, List.set_cons_zero]
        refine lfl_cons 10 rfl (fun w9 hK hd => ?_) ?_
        · have e8 : U 8 = .pointer (some ⟨WB, 0, none⟩) := hd 8 (by kernel_rfl)
          exact stepF_val rfl rfl (v := .pointer (some ⟨WB, 2, none⟩)) (w' := w9) (by simp [go_sem, e8]) (World.grownBy.refl _ _) (upV_at U 9 _)
        simp only [Act.put, List.setIfInBounds_toArray, List.set_cons_succ, List.set_cons_zero]
        refine lfl_cons 11 rfl (fun w9 hK hd => ?_) ?_
        · have e9 : U 9 = .pointer (some ⟨WB, 2, none⟩) := hd 9 (by kernel_rfl)
          have hB9 : Bk w9 WB 64 [.pointer (some ⟨SB, 0, none⟩), pv9, qv9] := hK.2
          have c9 := hB9.cell (i := 2) rfl
          have f9 := hB9.frozen 2
          obtain ⟨o7, _⟩ := hd 7 (by kernel_rfl)
          obtain ⟨a7, k7, e7, _⟩ := o7.slice
          exact stepF_skip rfl (w' := w9.setCell ⟨WB, 2, none⟩ (U 7)) (by simp [go_sem, e9, e7, c9, f9]) ⟨_, rfl⟩ ⟨by rw [upV_ne (by decide)]; exact hB9.set 2 _, hK.1.trans (Ch.one (grown_set _ _ _ _) (by simp [apL]))⟩
        simp only [Act.put]
        refine lfl_nil fun W7 hall => ?_
        obtain ⟨o7, b7⟩ := hall 7 (by decide)
        obtain ⟨hB8, hC8⟩ := hall 10 (by decide)
        clear hall

        have hL8 := HL9.out.app2 (w' := W7) hB8 o7 ((Ch.of (grown_drew (World.grownBy.refl _ _))).trans hC8) b7
        have HA8 : Hid (FwAt N W7 PB BX FB WB SB RB bs.length a k s9 (post9 ++ [(b : Int)])) := ⟨mv9, pv9, U 7, r9, hL8⟩
        have HB8 : Hid (Below N wr W7) := ((Ch.of (l := apL WB qv9) (grown_drew (World.grownBy.refl _ none))).trans hC8).below hNr fun q hq => by
          simp only [apL, List.mem_cons, Option.mem_toList] at hq
          rcases hq with rfl | hq
          · exact HL9.out.lo
          · exact HL9.out.q.base q hq
        clear hL8 hB8 hC8 o7 b7 HAs HL9
        go_wp2_with fail
        go_end0
        exact ⟨rfl, by rw [HR.out]; exact HA8.out, (HBe.out.trans HB9.out).trans HB8.out⟩
      have hilI : (i : Int) < (cs.length : Int) := by omega
      obtain ⟨za, zo, rfl, _, hz⟩ := (HSn.out wr HB9.out).at hil
      unfold NumQ at hz
      rw [Nat.mul_one] at hz
      obtain ⟨q0, q1⟩ := HSu.out _ (List.getElem_mem hil)
      obtain ⟨q, hq⟩ : ∃ q : Nat, cs[i] = (q : Int) := ⟨(cs[i]).toNat, by omega⟩
      have hql : q < bs.length := by omega
      have hqI : (q : Int) < (bs.length : Int) := by omega
      have HDr : Hid (cs.drop i = (q : Int) :: cs.drop (i + 1)) := by show cs.drop i = _; rw [List.drop_eq_getElem_cons hil, hq]
      rw [hq] at hz
      obtain ⟨mv9, pv9, qv9, r9, hL9⟩ := hA
      have z0 := hL9.b.cell (i := 0) rfl
      have z1 := hL9.w.cell (i := 0) rfl
      have hNr : N ≤ wr.heap.size := by have := hL9.lo; have := hL9.w.lt; omega
      have HL9 : Hid (FwL N wr PB BX FB WB SB RB bs.length a k s9 s9.parent post9 mv9 pv9 qv9 r9) := hL9
      have HHs : Hid (Calls Try.prog 42 #[.pointer (some ⟨SB, 0, none⟩), .int .i64 (q : Int)] wr fun e w' => e = .returned (.bool (decide (s9.rank q ≠ -1))) ∧ wr.grownBy w' none) := flHas_any hL9.st HI9.out hql
      have HFc : Hid (∀ W, wr.grownBy W none → W.cell? ⟨FB, 0, none⟩ = some (.func (.func 40) #[] #[.pointer (some ⟨PB, 0, none⟩), .pointer (some ⟨BX, 0, none⟩), .pointer (some ⟨FB, 0, none⟩)])) := fun W g => (hL9.f.grow g).cell (i := 0) rfl
      have HBg : Hid (∀ W, wr.grownBy W none → Below N wr W) := fun W g => (Ch.of (l := []) g).below hNr (by simp)
      clear hL9 q0 q1 hq
      cases e1 : decide (s9.rank q ≠ -1) with
      | false =>
        have hr9 : s9.rank q = -1 := by have := of_decide_eq_false e1; omega
        have HIh : Hid (∀ W, wr.grownBy W none → Calls Try.prog 40 #[.int .i64 (q : Int), .int .i64 (own : Int), .pointer (some ⟨PB, 0, none⟩), .pointer (some ⟨BX, 0, none⟩), .pointer (some ⟨FB, 0, none⟩)] W fun r w' => r = .returned (.tuple #[]) ∧ FwAt N w' PB BX FB WB SB RB bs.length a k (Sa.fvisit bs f q own (s9, post9)).1 (Sa.fvisit bs f q own (s9, post9)).2 ∧ Below N W w') := fun W g => flVisit_any hsd hble f HF9.out hql hr9 ⟨by omega, by have := HO9.out; omega, by omega⟩ HI9.out (by have := HLe9.out; omega) (Nat.le_trans hNr g.size) (HBL.out W ((HBe.out.trans HB9.out).trans (HBg.out W g))) ⟨mv9, pv9, qv9, r9, HL9.out.grow g⟩
        have hk := Sa.visit_keeps hsd f q own s9 hql hr9 ⟨by omega, by have := HO9.out; omega, by omega⟩ HI9.out
        have hfs := Sa.fvisit_fst (bs := bs) f q own (s9, post9)
        obtain ⟨t8, ht8⟩ : ∃ t8, t8 = Sa.fvisit bs f q own (s9, post9) := ⟨_, rfl⟩
        have hln := Sa.fvisit_len (bs := bs) f q own (s9, post9) 1 HLe9.out
        have HN : Hid (T = Sa.fvisits bs f own (cs.drop (i + 1)) t8) := by show T = _; rw [HV9.out, HDr.out, Sa.fvisits]; show Sa.fvisits bs f own _ (if s9.rank (q : Int).toNat = -1 then _ else _) = _; rw [Int.toNat_natCast, if_pos hr9, ht8]
        rw [← ht8] at hfs hln HIh
        rw [← hfs] at hk
        have HK1 : Hid (Sa.WkI bs.length t8.1) := hk.1
        have HK2 : Hid (s9.order.length ≤ t8.1.order.length) := hk.2.len
        have HK3 : Hid (t8.2.length + 1 ≤ t8.1.order.length) := hln
        rw [e1] at HHs
        clear hk hr9 e1 HV9 HDr hfs hln ht8 HL9 HA9
        go_wp2_with (first
          | (go_at_call 42; refine HHs.out.mono ?_; rintro e w5 ⟨rfl, g5⟩; have y0 := HFc.out w5 g5; have HG5 : Hid (wr.grownBy w5 none) := g5; clear g5)
          | (go_at_call 40; refine (HIh.out w5 HG5.out).mono ?_; rintro e w6 ⟨rfl, hA6, hB6⟩; have HA6 : Hid (FwAt N w6 PB BX FB WB SB RB bs.length a k t8.1 t8.2) := hA6; have HB6 : Hid (Below N w5 w6) := hB6; clear hA6 hB6))
        go_roundw
        case rel => exact ⟨i + 1, t8.1, t8.2, by go_num, by omega, HA6.out, HK1.out, by have := HF9.out; have := HK2.out; omega, by have := HO9.out; have := HK2.out; omega, HK3.out, HN.out, (HB9.out.trans (HBg.out _ HG5.out)).trans HB6.out⟩
        case measure => simp [intOf]; omega
      | true =>
        have hr9 : ¬ s9.rank q = -1 := of_decide_eq_true e1
        have HN : Hid (T = Sa.fvisits bs f own (cs.drop (i + 1)) (s9, post9)) := by show T = _; rw [HV9.out, HDr.out, Sa.fvisits]; show Sa.fvisits bs f own _ (if s9.rank (q : Int).toNat = -1 then _ else _) = _; rw [Int.toNat_natCast, if_neg hr9]
        rw [e1] at HHs
        clear hr9 e1 HV9 HDr HA9
        go_wp2_with (go_at_call 42; refine HHs.out.mono ?_; rintro e w5 ⟨rfl, g5⟩; have HG5 : Hid (wr.grownBy w5 none) := g5; clear g5)
        go_roundw
        case rel => exact ⟨i + 1, s9, post9, by go_num, by omega, ⟨mv9, pv9, qv9, r9, HL9.out.grow HG5.out⟩, HI9.out, HF9.out, HO9.out, HLe9.out, HN.out, HB9.out.trans (HBg.out _ HG5.out)⟩
        case measure => simp [intOf]; omega
end Go.Proofs.Ytbpdggdpgohilaa
