/- check's texts. -/
import Derived.Test.YtcfpnojbhojagaaGreatG23
import Derived.Test.YtcfpnojbhojagaaGreatG8
namespace Go.Proofs.YtcfpnojbhojagaaGreat
open Go.RowKit
set_option linter.unusedVariables false
set_option maxRecDepth 100000
set_option maxHeartbeats 4000000
theorem Rb.bk {base : Nat} {T : List Int} {w w' : World} (hk : Rb base T w w') {B : Nat} {t : TypeId} {l : List Value} (h : Bk w B t l) (ht : t ≠ 5) : Bk w' B t l := hk.block B _ h (.inr ht)
def TxX (z : List Pg.Ex) : Prop := ∀ (base : Nat) (w : World) (v : Value) (l : List Int) (a : Option Addr) (c : Nat), OwnL w base v l → ExL (fun k => k < base) w a c z → l.length + (Ck.txs z).length ≤ 1000000000 → base ≤ w.heap.size →
 Calls Tryz.prog 112 #[v, .slice a z.length c] w (BtP base w l (Ck.txs z))
theorem TxX_list (z : List Pg.Ex) (ih : ∀ x, x ∈ z → TxX x.args) : TxX z := by
 intro base w v l a c h hz hl hb
 have hle := hz.le
 have hmx := hz.max
 unfold maxLen at hmx
 have HZ : Hid (ExL (fun k => k < base) w a c z) := hz
 have HL : Hid (l.length + (Ck.txs z).length ≤ 1000000000) := hl
 have HI : Hid (∀ x, x ∈ z → TxX x.args) := ih
 obtain ⟨a0, c0, rfl, _⟩ := h.toB.shape
 have HO0 : Hid (OwnL w base (.slice a0 l.length c0) l) := h
 clear h hz hl ih
 go_enter Tryz.func112, Tryz.ntmps112
 go_wp2_with fail
 go_loopw [0, 9] (fun bv ix wr => ∃ (k : Nat) (a' : Option Addr) (c' : Nat), bv = .slice a' (l ++ Ck.txs (z.take k)).length c' ∧ ix = .int .i64 k ∧ k ≤ z.length ∧ OwnL wr base (.slice a' (l ++ Ck.txs (z.take k)).length c') (l ++ Ck.txs (z.take k)) ∧ (∀ T, l ++ Ck.txs (z.take k) <+: T → Rb base T w wr)) (fun _ ix _ => z.length - (intOf ix).toNat)
 case atStart => exact ⟨0, a0, c0, by simp [Ck.txs], rfl, Nat.zero_le _, by simpa [Ck.txs] using HO0.out, fun T _ => Rb.refl _ _ _⟩
 case round =>
  obtain ⟨k, a', c', rfl, rfl, hk, ho, hr⟩ := hrel
  have HR : Hid (∀ T, l ++ Ck.txs (z.take k) <+: T → Rb base T w wr) := hr
  by_cases hkn : k < z.length
  case neg =>
   obtain rfl : k = z.length := by omega
   have HO : Hid (OwnL wr base (.slice a' (l ++ Ck.txs (z.take z.length)).length c') (l ++ Ck.txs (z.take z.length))) := ho
   clear ho hr
   generalize hLL : (l ++ Ck.txs (z.take z.length)).length = LL at *
   go_wp2
   go_ret
   have e : l ++ Ck.txs z = l ++ Ck.txs (z.take z.length) := by rw [List.take_length]
   refine ⟨_, rfl, by rw [e]; exact HO.out, fun T hT => HR.out T (by rw [← e]; exact hT)⟩
  have hkn' : (k : Int) < z.length := by omega
  have hrow : ExL (fun k => k < base) wr a c z := ExL.ch HZ.out (hr _ (List.prefix_refl _)).ch (fun k hk => not_rangeB hk) (fun _ h => h)
  obtain ⟨b, o, rfl, hbb, hx⟩ := hrow.at hkn
  have hsz : base ≤ wr.heap.size := Nat.le_trans hb (hr _ (List.prefix_refl _)).size
  have hsc := Ck.txs_succ hkn
  have hle2 := Ck.txs_le z (k + 1)
  rw [hsc, List.length_append] at hle2
  have HS : Hid (l ++ Ck.txs (z.take (k + 1)) = l ++ Ck.txs (z.take k) ++ Ck.tx z[k]) := by show _ = _; rw [hsc, List.append_assoc]
  have hlen : (l ++ Ck.txs (z.take k)).length + (Ck.tx z[k]).length ≤ 1000000000 := by have := HL.out; rw [List.length_append]; omega
  generalize hLL : l ++ Ck.txs (z.take k) = L at *
  obtain ⟨a1, k1, he⟩ := hx.row
  have c0 := he.c0
  have c1 := he.c1
  have c2 := he.c2
  have c3 := he.c3
  have c4 := he.c4
  obtain ⟨y, hy⟩ : ∃ y, y = z[k] := ⟨_, rfl⟩
  have hI := HI.out z[k] (List.getElem_mem hkn)
  rw [← hy] at he HS hlen hI c0 c1 c2 c3 c4
  have HB7 : Hid (Bk (wr.alloc (Obj.cells #[.int .i64 y.op, .int .i64 y.t, .int .i64 y.n, .string y.s, .slice a1 y.args.length k1] 45)) wr.heap.size 45 [.int .i64 y.op, .int .i64 y.t, .int .i64 y.n, .string y.s, .slice a1 y.args.length k1]) := Bk.new _ _ _
  have HO7 : Hid (OwnL (wr.alloc (Obj.cells #[.int .i64 y.op, .int .i64 y.t, .int .i64 y.n, .string y.s, .slice a1 y.args.length k1] 45)) base (.slice a' L.length c') L) := (Rb.of (T := L) (World.grownBy_alloc _ _ _)).own _ _ (List.prefix_refl _) ho
  rw [Ck.tx_eq] at HS hlen
  rw [List.length_append] at hlen
  obtain ⟨L1, hL1⟩ : ∃ z, z = L ++ Pg.txt y.s := ⟨_, rfl⟩
  obtain ⟨L2, hL2⟩ : ∃ z, z = L1 ++ Ck.txs y.args := ⟨_, rfl⟩
  have HS2 : Hid (l ++ Ck.txs (z.take (k + 1)) = L2 ∧ L <+: L1 ∧ L1 <+: L2 ∧ L ++ Pg.txt y.s = L1) := ⟨by rw [HS.out, hL2, hL1]; simp only [List.append_assoc], by rw [hL1]; exact List.prefix_append _ _, by rw [hL2]; exact List.prefix_append _ _, hL1.symm⟩
  have HC : Hid (∀ W v, OwnL W base v L1 → Rb base L1 wr W → Calls Tryz.prog 112 #[v, .slice a1 y.args.length k1] W (BtQ base W L2)) := fun W v h9 hR => BtP.q (hI base W v _ a1 k1 h9 (ExL.ch he.args hR.ch (fun k hk => not_rangeB hk) (fun _ h => h)) (by rw [hL1, List.length_append]; omega) (Nat.le_trans hsz hR.size)) hL2
  have hln : L.length + y.s.size ≤ 1000000000 := by have := Pg.txt_len y.s; omega
  clear ho hr hx hrow hsc hle2 hlen he hI hy HS hL1 hL2
  go_wp2_with (first | (at_builtin; refine wp_rbStr rfl _ _ rfl base _ L rfl HO7.out y.s rfl hln (by simp; omega) ?_; rw [HS2.out.2.2.2]; intro v8 w8 ho8 hr8; obtain ⟨a8, c8, rfl, _⟩ := ho8.toB.shape; have O8 : Hid (OwnL w8 base (.slice a8 L1.length c8) L1) := ho8; have R8 : Hid (Ra base L1 wr w8) := Ra.trans (Ra.of (World.grownBy_alloc _ _ _)) hr8; have x4 := (hr8.rb.bk HB7.out (by decide)).cell (i := 4) rfl; clear ho8 hr8) | (go_at_call 112; refine (HC.out _ _ O8.out R8.out.rb).mono ?_; rintro e w9 ⟨u, rfl, ho9, hr9⟩; obtain ⟨a9, c9, rfl, _⟩ := ho9.toB.shape; have O9 : Hid (OwnL w9 base (.slice a9 L2.length c9) L2) := ho9; have R9 : Hid (Ra base L2 wr w9) := Ra.trans (R8.out.mono HS2.out.2.2.1) hr9; clear ho9 hr9))
  go_roundw
  case rel =>
   refine ⟨k + 1, a9, c9, ?_, by go_num, by omega, ?_, ?_⟩
   ·rw [HS2.out.1]
   ·rw [HS2.out.1]; exact O9.out
   ·intro T hT
    rw [HS2.out.1] at hT
    exact (HR.out T (HS2.out.2.1.trans (HS2.out.2.2.1.trans hT))).trans (R9.out T hT)
  case measure => simp [intOf]; omega
theorem txX_any (z : List Pg.Ex) : TxX z := TxX_list z fun x _ => Pg.Ex.ind (P := fun x => TxX x.args) (fun _ _ _ _ args ih => TxX_list args ih) x
def SxX (z : List Pg.St) : Prop := ∀ (base : Nat) (w : World) (v : Value) (l : List Int) (a : Option Addr) (c : Nat), OwnL w base v l → StL (fun k => k < base) w a c z → l.length + (Ck.sxs z).length ≤ 1000000000 → base ≤ w.heap.size →
 Calls Tryz.prog 73 #[v, .slice a z.length c] w (BtP base w l (Ck.sxs z))
theorem SxX_list (z : List Pg.St) (ih : ∀ x, x ∈ z → SxX x.a ∧ SxX x.b) : SxX z := by
 intro base w v l a c h hz hl hb
 have hle := hz.le
 have hmx := hz.max
 unfold maxLen at hmx
 have HZ : Hid (StL (fun k => k < base) w a c z) := hz
 have HL : Hid (l.length + (Ck.sxs z).length ≤ 1000000000) := hl
 have HI : Hid (∀ x, x ∈ z → SxX x.a ∧ SxX x.b) := ih
 obtain ⟨a0, c0, rfl, _⟩ := h.toB.shape
 have HO0 : Hid (OwnL w base (.slice a0 l.length c0) l) := h
 clear h hz hl ih
 go_enter Tryz.func73, Tryz.ntmps73
 go_wp2_with fail
 go_loopw [0, 9] (fun bv ix wr => ∃ (k : Nat) (a' : Option Addr) (c' : Nat), bv = .slice a' (l ++ Ck.sxs (z.take k)).length c' ∧ ix = .int .i64 k ∧ k ≤ z.length ∧ OwnL wr base (.slice a' (l ++ Ck.sxs (z.take k)).length c') (l ++ Ck.sxs (z.take k)) ∧ (∀ T, l ++ Ck.sxs (z.take k) <+: T → Rb base T w wr)) (fun _ ix _ => z.length - (intOf ix).toNat)
 case atStart => exact ⟨0, a0, c0, by simp [Ck.sxs], rfl, Nat.zero_le _, by simpa [Ck.sxs] using HO0.out, fun T _ => Rb.refl _ _ _⟩
 case round =>
  obtain ⟨k, a', c', rfl, rfl, hk, ho, hr⟩ := hrel
  have HR : Hid (∀ T, l ++ Ck.sxs (z.take k) <+: T → Rb base T w wr) := hr
  by_cases hkn : k < z.length
  case neg =>
   obtain rfl : k = z.length := by omega
   have HO : Hid (OwnL wr base (.slice a' (l ++ Ck.sxs (z.take z.length)).length c') (l ++ Ck.sxs (z.take z.length))) := ho
   clear ho hr
   generalize hLL : (l ++ Ck.sxs (z.take z.length)).length = LL at *
   go_wp2
   go_ret
   have e : l ++ Ck.sxs z = l ++ Ck.sxs (z.take z.length) := by rw [List.take_length]
   refine ⟨_, rfl, by rw [e]; exact HO.out, fun T hT => HR.out T (by rw [← e]; exact hT)⟩
  have hkn' : (k : Int) < z.length := by omega
  have hrow : StL (fun k => k < base) wr a c z := StL.ch HZ.out (hr _ (List.prefix_refl _)).ch (fun k hk => not_rangeB hk) (fun _ h => h)
  obtain ⟨b, o, rfl, hbb, hx⟩ := hrow.at hkn
  have hsz : base ≤ wr.heap.size := Nat.le_trans hb (hr _ (List.prefix_refl _)).size
  have hsc := Ck.sxs_succ hkn
  have hle2 := Ck.sxs_le z (k + 1)
  rw [hsc, List.length_append] at hle2
  have HS : Hid (l ++ Ck.sxs (z.take (k + 1)) = l ++ Ck.sxs (z.take k) ++ Ck.sx z[k]) := by show _ = _; rw [hsc, List.append_assoc]
  have hlen : (l ++ Ck.sxs (z.take k)).length + (Ck.sx z[k]).length ≤ 1000000000 := by have := HL.out; rw [List.length_append]; omega
  generalize hLL : l ++ Ck.sxs (z.take k) = L at *
  obtain ⟨a1, a2, a3, a4, k1, k2, k3, k4, he⟩ := hx.row
  have c0 := he.c0
  have c1 := he.c1
  have c2 := he.c2
  have c3 := he.c3
  have c4 := he.c4
  have c5 := he.c5
  obtain ⟨y, hy⟩ : ∃ y, y = z[k] := ⟨_, rfl⟩
  have hI := HI.out z[k] (List.getElem_mem hkn)
  rw [← hy] at he HS hlen hI c0 c1 c2 c3 c4 c5
  have HB7 : Hid (Bk (wr.alloc (Obj.cells #[.int .i64 y.op, .int .i64 y.n, .slice a1 y.args.length k1, .slice a2 y.dst.length k2, .slice a3 y.a.length k3, .slice a4 y.b.length k4] 51)) wr.heap.size 51 [.int .i64 y.op, .int .i64 y.n, .slice a1 y.args.length k1, .slice a2 y.dst.length k2, .slice a3 y.a.length k3, .slice a4 y.b.length k4]) := Bk.new _ _ _
  have HO7 : Hid (OwnL (wr.alloc (Obj.cells #[.int .i64 y.op, .int .i64 y.n, .slice a1 y.args.length k1, .slice a2 y.dst.length k2, .slice a3 y.a.length k3, .slice a4 y.b.length k4] 51)) base (.slice a' L.length c') L) := (Rb.of (T := L) (World.grownBy_alloc _ _ _)).own _ _ (List.prefix_refl _) ho
  rw [Ck.sx_eq] at HS hlen
  rw [List.length_append, List.length_append] at hlen
  have HC1 : Hid (∀ W v, OwnL W base v L → Rb base L wr W → Calls Tryz.prog 112 #[v, .slice a1 y.args.length k1] W (BtP base W L (Ck.txs y.args))) := fun W v h9 hR => txX_any y.args base W v _ a1 k1 h9 (ExL.ch he.args hR.ch (fun k hk => not_rangeB hk) (fun _ h => h)) (by omega) (Nat.le_trans hsz hR.size)
  have HC2 : Hid (∀ W v, OwnL W base v (L ++ Ck.txs y.args) → Rb base (L ++ Ck.txs y.args) wr W → Calls Tryz.prog 73 #[v, .slice a3 y.a.length k3] W (BtP base W (L ++ Ck.txs y.args) (Ck.sxs y.a))) := fun W v h9 hR => hI.1 base W v _ a3 k3 h9 (StL.ch he.a hR.ch (fun k hk => not_rangeB hk) (fun _ h => h)) (by rw [List.length_append]; omega) (Nat.le_trans hsz hR.size)
  have HC3 : Hid (∀ W v, OwnL W base v (L ++ Ck.txs y.args ++ Ck.sxs y.a) → Rb base (L ++ Ck.txs y.args ++ Ck.sxs y.a) wr W → Calls Tryz.prog 73 #[v, .slice a4 y.b.length k4] W (BtP base W (L ++ Ck.txs y.args ++ Ck.sxs y.a) (Ck.sxs y.b))) := fun W v h9 hR => hI.2 base W v _ a4 k4 h9 (StL.ch he.b hR.ch (fun k hk => not_rangeB hk) (fun _ h => h)) (by rw [List.length_append, List.length_append]; omega) (Nat.le_trans hsz hR.size)
  clear ho hr hx hrow hsc hle2 hlen he hI hy
  obtain ⟨L1, hL1⟩ : ∃ z, z = L ++ Ck.txs y.args := ⟨_, rfl⟩
  obtain ⟨L2, hL2⟩ : ∃ z, z = L1 ++ Ck.sxs y.a := ⟨_, rfl⟩
  obtain ⟨L3, hL3⟩ : ∃ z, z = L2 ++ Ck.sxs y.b := ⟨_, rfl⟩
  have HS2 : Hid (l ++ Ck.sxs (z.take (k + 1)) = L3 ∧ L <+: L1 ∧ L1 <+: L2 ∧ L2 <+: L3) := ⟨by rw [HS.out, hL3, hL2, hL1]; simp only [List.append_assoc], by rw [hL1]; exact List.prefix_append _ _, by rw [hL2]; exact List.prefix_append _ _, by rw [hL3]; exact List.prefix_append _ _⟩
  rw [← hL1] at HC2 HC3
  rw [← hL2] at HC3
  have HD1 : Hid (∀ W v, OwnL W base v L → Rb base L wr W → Calls Tryz.prog 112 #[v, .slice a1 y.args.length k1] W (BtQ base W L1)) := fun W v h9 hR => BtP.q (HC1.out W v h9 hR) hL1
  have HD2 : Hid (∀ W v, OwnL W base v L1 → Rb base L1 wr W → Calls Tryz.prog 73 #[v, .slice a3 y.a.length k3] W (BtQ base W L2)) := fun W v h9 hR => BtP.q (HC2.out W v h9 hR) hL2
  have HD3 : Hid (∀ W v, OwnL W base v L2 → Rb base L2 wr W → Calls Tryz.prog 73 #[v, .slice a4 y.b.length k4] W (BtQ base W L3)) := fun W v h9 hR => BtP.q (HC3.out W v h9 hR) hL3
  clear HC1 HC2 HC3 hL1 hL2 hL3 HS
  go_wp2_with (first | (go_at_call 112; refine (HD1.out _ _ HO7.out (Rb.of (World.grownBy_alloc _ _ _))).mono ?_; rintro e w7 ⟨u, rfl, ho7, hr7⟩; obtain ⟨a7, c7, rfl, _⟩ := ho7.toB.shape; have O7 : Hid (OwnL w7 base (.slice a7 L1.length c7) L1) := ho7; have R7 : Hid (Ra base L1 wr w7) := Ra.trans (Ra.of (World.grownBy_alloc _ _ _)) hr7; have K7 : Hid (Bk w7 wr.heap.size 51 [.int .i64 y.op, .int .i64 y.n, .slice a1 y.args.length k1, .slice a2 y.dst.length k2, .slice a3 y.a.length k3, .slice a4 y.b.length k4]) := hr7.rb.bk HB7.out (by decide); have x4 := K7.out.cell (i := 4) rfl; clear ho7 hr7 HD1) | (go_at_call 73; refine (HD2.out _ _ O7.out R7.out.rb).mono ?_; rintro e w8 ⟨u, rfl, ho8, hr8⟩; obtain ⟨a8, c8, rfl, _⟩ := ho8.toB.shape; have O8 : Hid (OwnL w8 base (.slice a8 L2.length c8) L2) := ho8; have R8 : Hid (Ra base L2 wr w8) := Ra.trans (R7.out.mono HS2.out.2.2.1) hr8; have x5 := (hr8.rb.bk K7.out (by decide)).cell (i := 5) rfl; clear ho8 hr8 HD2) | (go_at_call 73; refine (HD3.out _ _ O8.out R8.out.rb).mono ?_; rintro e w9 ⟨u, rfl, ho9, hr9⟩; obtain ⟨a9, c9, rfl, _⟩ := ho9.toB.shape; have O9 : Hid (OwnL w9 base (.slice a9 L3.length c9) L3) := ho9; have R9 : Hid (Ra base L3 wr w9) := Ra.trans (R8.out.mono HS2.out.2.2.2) hr9; clear ho9 hr9 HD3))
  go_roundw
  case rel =>
   refine ⟨k + 1, a9, c9, ?_, by go_num, by omega, ?_, ?_⟩
   ·rw [HS2.out.1]
   ·rw [HS2.out.1]; exact O9.out
   ·intro T hT
    rw [HS2.out.1] at hT
    exact (HR.out T (HS2.out.2.1.trans (HS2.out.2.2.1.trans (HS2.out.2.2.2.trans hT)))).trans (R9.out T hT)
  case measure => simp [intOf]; omega
theorem sxX_any (z : List Pg.St) : SxX z := SxX_list z fun x _ => Pg.St.ind (P := fun x => SxX x.a ∧ SxX x.b) (fun _ _ _ _ a b ia ib => ⟨SxX_list a ia, SxX_list b ib⟩) x
end Go.Proofs.YtcfpnojbhojagaaGreat
