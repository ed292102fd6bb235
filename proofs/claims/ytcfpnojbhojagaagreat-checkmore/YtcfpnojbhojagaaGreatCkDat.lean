/- check.texts, check.Data. -/
import Derived.Test.YtcfpnojbhojagaaGreatG24
import Derived.Test.YtcfpnojbhojagaaGreatCkChk
namespace Go.Proofs.YtcfpnojbhojagaaGreat
open Go.RowKit
set_option linter.unusedVariables false
set_option maxRecDepth 100000
set_option maxHeartbeats 4000000
theorem OwnL.up {w : World} {base b2 : Nat} {v : Value} {l : List Int} (h : OwnL w base v l) (hb : b2 ≤ base) : OwnL w b2 v l := by
 rcases h.2 with ⟨e1, e2⟩ | ⟨g, cap, cur, e1, e2, e3⟩
 ·exact ⟨h.1, .inl ⟨e1, e2⟩⟩
 ·exact ⟨h.1, .inr ⟨g, cap, cur, e1, by omega, e3⟩⟩
theorem ckTexts {w : World} {p : Pg.Pr} {a1 a2 : Option Addr} {k1 k2 : Nat} (h : PrC (fun k => k < w.heap.size) w p a1 a2 k1 k2) (hl : (Ck.fxs p.funcs).length ≤ 1000000000) :
  Calls Tryz.prog 39 #[.agg #[.slice a1 p.types.length k1, .slice a2 p.funcs.length k2]] w fun e w' => ∃ v, e = .returned v ∧ OwnL w' w.heap.size v (Ck.fxs p.funcs) ∧ w.grownBy w' none := by
 have hle := h.f.le
 have hmx := h.f.max
 unfold maxLen at hmx
 have g1 : w.grownBy (w.alloc (Obj.cells #[.slice a1 p.types.length k1, .slice a2 p.funcs.length k2] 27)) none := World.grownBy_alloc _ _ _
 have HF : Hid (FnL (fun k => k < w.heap.size) w a2 k2 p.funcs) := h.f
 have HL : Hid ((Ck.fxs p.funcs).length ≤ 1000000000) := hl
 have HG1 : Hid (w.grownBy (w.alloc (Obj.cells #[.slice a1 p.types.length k1, .slice a2 p.funcs.length k2] 27)) none) := g1
 clear h hl g1
 generalize p.types.length = n at *
 generalize p.funcs = z at *
 go_enter Tryz.func39, Tryz.ntmps39
 go_wp2_with fail
 obtain ⟨base, hbase⟩ : ∃ b, b = w.heap.size := ⟨_, rfl⟩
 go_loopw [2, 8] (fun bv ix wr => ∃ (k : Nat) (a' : Option Addr) (c' : Nat), bv = .slice a' (Ck.fxs (z.take k)).length c' ∧ ix = .int .i64 k ∧ k ≤ z.length ∧ OwnL wr base (.slice a' (Ck.fxs (z.take k)).length c') (Ck.fxs (z.take k)) ∧ (∀ T, Ck.fxs (z.take k) <+: T → Rb base T w wr)) (fun _ ix _ => z.length - (intOf ix).toNat)
 case atStart => exact ⟨0, none, 0, rfl, rfl, Nat.zero_le _, OwnL.nil _ _, fun T _ => Rb.of HG1.out⟩
 case round =>
  obtain ⟨k, a', c', rfl, rfl, hk, ho, hr⟩ := hrel
  have HR : Hid (∀ T, Ck.fxs (z.take k) <+: T → Rb base T w wr) := hr
  by_cases hkn : k < z.length
  case neg =>
   obtain rfl : k = z.length := by omega
   have HO : Hid (OwnL wr base (.slice a' (Ck.fxs (z.take z.length)).length c') (Ck.fxs (z.take z.length))) := ho
   have HB : Hid (base = w.heap.size) := hbase
   clear ho hr hbase
   generalize hLL : (Ck.fxs (z.take z.length)).length = LL at *
   go_wp2
   go_ret
   have h1 := HO.out
   have h2 := HR.out _ (List.prefix_refl _)
   rw [List.take_length] at h1 h2
   exact ⟨_, rfl, by rw [← HB.out]; exact h1, h2.below HB.out⟩
  have hkn' : (k : Int) < z.length := by omega
  have hrb := hr _ (List.prefix_refl _)
  have hrow : FnL (fun k => k < base) wr a2 k2 z := FnL.ch HF.out hrb.ch (fun k hk => not_rangeB (by rw [hbase]; exact hk)) (fun k hk => by rw [hbase]; exact hk)
  obtain ⟨b, o, rfl, hbb, hx⟩ := hrow.at hkn
  have hsz : base ≤ wr.heap.size := Nat.le_trans (by omega) hrb.size
  have hsc := Ck.fxs_succ hkn
  have hle2 := Ck.fxs_le z (k + 1)
  rw [hsc, List.length_append] at hle2
  have HS : Hid (Ck.fxs (z.take (k + 1)) = Ck.fxs (z.take k) ++ Ck.sxs z[k].body) := hsc
  have hlen : (Ck.fxs (z.take k)).length + (Ck.sxs z[k].body).length ≤ 1000000000 := by have := HL.out; omega
  generalize hLL : Ck.fxs (z.take k) = L at *
  obtain ⟨la, ra, ba, lc, rc, bc, he⟩ := hx
  have c0 := he.c0
  have c1 := he.c1
  have c2 := he.c2
  have c3 := he.c3
  obtain ⟨y, hy⟩ : ∃ y, y = z[k] := ⟨_, rfl⟩
  rw [← hy] at he HS hlen c0 c1 c2 c3
  have HO7 : Hid (OwnL (wr.alloc (Obj.cells #[.int .i64 y.params, .slice la y.locals.length lc, .slice ra y.results.length rc, .slice ba y.body.length bc] 53)) base (.slice a' L.length c') L) := (Rb.of (T := L) (World.grownBy_alloc _ _ _)).own _ _ (List.prefix_refl _) ho
  obtain ⟨L1, hL1⟩ : ∃ z, z = L ++ Ck.sxs y.body := ⟨_, rfl⟩
  have HS2 : Hid (Ck.fxs (z.take (k + 1)) = L1 ∧ L <+: L1) := ⟨by rw [HS.out, hL1], by rw [hL1]; exact List.prefix_append _ _⟩
  have HC : Hid (∀ W v, OwnL W base v L → Rb base L wr W → Calls Tryz.prog 73 #[v, .slice ba y.body.length bc] W (BtQ base W L1)) := fun W v h9 hR => BtP.q (sxX_any y.body base W v _ ba bc h9 (StL.ch he.b hR.ch (fun k hk => not_rangeB hk) (fun _ h => h)) hlen (Nat.le_trans hsz hR.size)) hL1
  clear ho hr hrow hsc hle2 hlen he hy HS hL1 hrb
  go_wp2_with (go_at_call 73; refine (HC.out _ _ HO7.out (Rb.of (World.grownBy_alloc _ _ _))).mono ?_; rintro e w9 ⟨u, rfl, ho9, hr9⟩; obtain ⟨a9, c9, rfl, _⟩ := ho9.toB.shape; have O9 : Hid (OwnL w9 base (.slice a9 L1.length c9) L1) := ho9; have R9 : Hid (Ra base L1 wr w9) := Ra.trans (Ra.of (World.grownBy_alloc _ _ _)) hr9; clear ho9 hr9)
  go_roundw
  case rel =>
   refine ⟨k + 1, a9, c9, ?_, by go_num, by omega, ?_, ?_⟩
   ·rw [HS2.out.1]
   ·rw [HS2.out.1]; exact O9.out
   ·intro T hT
    rw [HS2.out.1] at hT
    exact (HR.out T (HS2.out.2.trans hT)).trans (R9.out T hT)
  case measure => simp [intOf]; omega
theorem ckData_no {w : World} {p : Pg.Pr} {a1 a2 : Option Addr} {k1 k2 : Nat} (h : PrC (fun k => k < w.heap.size) w p a1 a2 k1 k2) (hr : Rm ⟨false, 0, 0, 0⟩ [] p.dl) (hn : p.types.length ≤ 1000000) {x : Int} (hx : Ck.takeP p = .error x) (h0 : x ≠ 0) :
  Calls Tryz.prog 15 #[.agg #[.slice a1 p.types.length k1, .slice a2 p.funcs.length k2]] w fun e w' => e = .returned (.tuple #[.slice none 0 0, .int .i64 x]) ∧ w.grownBy w' none := by
 have HC : Hid (Calls Tryz.prog 11 #[.agg #[.slice a1 p.types.length k1, .slice a2 p.funcs.length k2]] (w.alloc (Obj.cells #[.slice a1 p.types.length k1, .slice a2 p.funcs.length k2] 27)) fun e w' => e = .returned (.int .i64 x) ∧ w.grownBy w' none) := by
  have g1 := World.grownBy_alloc w (Obj.cells #[.slice a1 p.types.length k1, .slice a2 p.funcs.length k2] 27) none
  have h9 := ckCheck (PrC.ch (l := []) (Ch.of g1) (by simp) (fun k hk => by have := g1.size; omega) h) hr hn
  rw [hx] at h9
  exact h9.mono fun e w' h8 => ⟨h8.1, grown_trans g1 h8.2⟩
 have q0 : (x == 0) = false := by simpa using h0
 clear h hr hn hx h0
 go_enter Tryz.func15, Tryz.ntmps15
 go_wp2_with (go_at_call 11; refine HC.out.mono ?_; rintro e w3 ⟨rfl, hg3⟩; have HG3 : Hid (w.grownBy w3 none) := hg3; clear hg3)
 go_returns
 exact ⟨rfl, HG3.out⟩
theorem ckData_ok {w : World} {p : Pg.Pr} {a1 a2 : Option Addr} {k1 k2 : Nat} (h : PrC (fun k => k < w.heap.size) w p a1 a2 k1 k2) (hr : Rm ⟨false, 0, 0, 0⟩ [] p.dl) (hn : p.types.length ≤ 1000000) (hx : Ck.takeP p = .ok ()) (hl : (Ck.fxs p.funcs).length ≤ 1000000000) :
  Calls Tryz.prog 15 #[.agg #[.slice a1 p.types.length k1, .slice a2 p.funcs.length k2]] w fun e w' => ∃ v, e = .returned (.tuple #[v, .int .i64 0]) ∧ OwnL w' w.heap.size v (Ck.fxs p.funcs) ∧ w.grownBy w' none := by
 have g1 := World.grownBy_alloc w (Obj.cells #[.slice a1 p.types.length k1, .slice a2 p.funcs.length k2] 27) none
 have HC : Hid (Calls Tryz.prog 11 #[.agg #[.slice a1 p.types.length k1, .slice a2 p.funcs.length k2]] (w.alloc (Obj.cells #[.slice a1 p.types.length k1, .slice a2 p.funcs.length k2] 27)) fun e w' => e = .returned (.int .i64 0) ∧ (w.alloc (Obj.cells #[.slice a1 p.types.length k1, .slice a2 p.funcs.length k2] 27)).grownBy w' none) := by
  have h9 := ckCheck (PrC.ch (l := []) (Ch.of g1) (by simp) (fun k hk => by have := g1.size; omega) h) hr hn
  rw [hx] at h9
  exact h9
 have HK : Hid (Bk (w.alloc (Obj.cells #[.slice a1 p.types.length k1, .slice a2 p.funcs.length k2] 27)) w.heap.size 27 [.slice a1 p.types.length k1, .slice a2 p.funcs.length k2]) := Bk.new _ _ _
 have HT : Hid (∀ W, w.grownBy W none → Calls Tryz.prog 39 #[.agg #[.slice a1 p.types.length k1, .slice a2 p.funcs.length k2]] W fun e w' => ∃ v, e = .returned v ∧ OwnL w' w.heap.size v (Ck.fxs p.funcs) ∧ w.grownBy w' none) := fun W g => by
  refine (ckTexts (PrC.ch (l := []) (Ch.of g) (by simp) (fun k hk => by have := g.size; omega) h) hl).mono fun e w' h9 => ?_
  obtain ⟨v, h1, h2, h3⟩ := h9
  exact ⟨v, h1, h2.up g.size, grown_trans g h3⟩
 have HG1 : Hid (w.grownBy (w.alloc (Obj.cells #[.slice a1 p.types.length k1, .slice a2 p.funcs.length k2] 27)) none) := g1
 clear h hr hn hx hl g1
 generalize Ck.fxs p.funcs = F at *
 go_enter Tryz.func15, Tryz.ntmps15
 go_wp2_with (first | (go_at_call 11; refine HC.out.mono ?_; rintro e w3 ⟨rfl, hg3⟩; have HG3 : Hid (w.grownBy w3 none) := grown_trans HG1.out hg3; have y0 := (HK.out.grow hg3).cell (i := 0) rfl; have y1 := (HK.out.grow hg3).cell (i := 1) rfl; clear hg3) | (go_at_call 39; refine (HT.out _ HG3.out).mono ?_; rintro e w4 ⟨v, rfl, ho4, hg4⟩; obtain ⟨a4, c4, rfl, _⟩ := ho4.toB.shape; have O4 : Hid (OwnL w4 w.heap.size (.slice a4 F.length c4) F) := ho4; have HG4 : Hid (w.grownBy w4 none) := hg4; clear ho4 hg4))
 go_returns
 exact ⟨_, rfl, O4.out, HG4.out⟩
end Go.Proofs.YtcfpnojbhojagaaGreat
