/- The asker: what it keeps; places. -/
import Derived.Test.YtdfjaedafampaaaTyLay
namespace Go.Proofs.Ytdfjaedafampaaa
open Go.RowKit
set_option linter.unusedVariables false

/-- how an entry lies, in four cells -/
structure LiAt (w : World) (b o : Nat) (l : Ty.Li) : Prop where
  c0 : w.cell? ⟨b, o, none⟩ = some (.int .i64 l.size)
  c1 : w.cell? ⟨b, o + 1, none⟩ = some (.int .i64 l.align)
  c2 : w.cell? ⟨b, o + 2, none⟩ = some (.int .i64 l.words)
  c3 : w.cell? ⟨b, o + 3, none⟩ = some (.bool l.arr)
theorem LiAt.ch {w w' : World} {b o : Nat} {x : Ty.Li} {l : List Nat} (h : LiAt w b o x) (hg : Ch w w' l) (hb : b ∉ l) : LiAt w' b o x :=
  ⟨hg.cell h.c0 hb, hg.cell h.c1 hb, hg.cell h.c2 hb, hg.cell h.c3 hb⟩
theorem frozen_ch {w w' : World} {l : List Nat} (h : Ch w w' l) {b k : Nat} (hlt : b < w.heap.size) (hb : b ∉ l) (hf : w.frozen? ⟨b, k, none⟩ = false) : w'.frozen? ⟨b, k, none⟩ = false := by
  rw [← hf]
  simp only [World.frozen?, h.block b hlt hb]
/-- the asker: what was found (its variable bf, the row F), the table (bt), itself (ba) -/
structure Ak (N : Nat) (w : World) (T : Nat → Ty.TyV) (n : Nat) (a : Option Addr) (c bf bt ba F : Nat) : Prop where
  cf : w.cell? ⟨bf, 0, none⟩ = some (.slice (some ⟨F, 0, none⟩) n n)
  ct : w.cell? ⟨bt, 0, none⟩ = some (.slice a n c)
  ca : w.cell? ⟨ba, 0, none⟩ = some (.func (.func 49) #[] #[.pointer (some ⟨bf, 0, none⟩), .pointer (some ⟨bt, 0, none⟩), .pointer (some ⟨ba, 0, none⟩)])
  fz : ∀ k, w.frozen? ⟨F, k, none⟩ = false
  lt : F < w.heap.size
  lie : ∀ i, i < n → ∃ l, LiAt w F (i * 4) l ∧ (l.align = 0 ∨ l = Ty.lie T i)
  ty : TysIn N w a n c T
  nF : N ≤ F
  n1 : F ≠ bf
  n2 : F ≠ bt
  n3 : F ≠ ba
theorem Ak.ch {N : Nat} {w w' : World} {T : Nat → Ty.TyV} {n : Nat} {a : Option Addr} {c bf bt ba F : Nat} {l : List Nat} (h : Ak N w T n a c bf bt ba F) (hg : Ch w w' l) (hl : ∀ k, k ∈ l → N ≤ k) (h1 : bf ∉ l) (h2 : bt ∉ l) (h3 : ba ∉ l) (h4 : F ∉ l) : Ak N w' T n a c bf bt ba F :=
  ⟨hg.cell h.cf h1, hg.cell h.ct h2, hg.cell h.ca h3, fun k => frozen_ch hg h.lt h4 (h.fz k), Nat.lt_of_lt_of_le h.lt hg.size, fun i hi => by obtain ⟨x, hx, e⟩ := h.lie i hi; exact ⟨x, hx.ch hg h4, e⟩, h.ty.ch hg hl, h.nF, h.n1, h.n2, h.n3⟩
theorem Ak.grow {N : Nat} {w w' : World} {T : Nat → Ty.TyV} {n : Nat} {a : Option Addr} {c bf bt ba F : Nat} (h : Ak N w T n a c bf bt ba F) (hg : w.grownBy w' none) : Ak N w' T n a c bf bt ba F :=
  h.ch (l := []) (Ch.of hg) (by simp) (by simp) (by simp) (by simp) (by simp)
theorem Ak.bl {N : Nat} {w : World} {T : Nat → Ty.TyV} {n : Nat} {a : Option Addr} {c bf bt ba F : Nat} (h : Ak N w T n a c bf bt ba F) : bf < w.heap.size ∧ bt < w.heap.size ∧ ba < w.heap.size :=
  ⟨World.block_lt_of_cell? _ _ h.cf, World.block_lt_of_cell? _ _ h.ct, World.block_lt_of_cell? _ _ h.ca⟩
/-- whose block is not one that stood already -/
theorem Ak.new {N : Nat} {w w0 w' : World} {T : Nat → Ty.TyV} {n : Nat} {a : Option Addr} {c bf bt ba F B : Nat} (h : Ak N w0 T n a c bf bt ba F) (h0 : Ak N w T n a c bf bt ba F) (hN : N ≤ w.heap.size) (hB : w.heap.size ≤ B) (hg : w0.grownBy w' (some B)) : Ak N w' T n a c bf bt ba F := by
  have hb := h0.bl
  have := h0.lt
  exact h.ch (l := [B]) (Ch.one hg (by simp)) (by simp; omega) (by simp; omega) (by simp; omega) (by simp; omega) (by simp; omega)
/-- it tells the first K -/
def AskOk (N : Nat) (T : Nat → Ty.TyV) (n : Nat) (a : Option Addr) (c bf bt ba F K : Nat) : Prop :=
  ∀ j, j < K → ∀ w, Ak N w T n a c bf bt ba F → Calls Try.prog 49 #[.int .i64 j, .pointer (some ⟨bf, 0, none⟩), .pointer (some ⟨bt, 0, none⟩), .pointer (some ⟨ba, 0, none⟩)] w fun e w' =>
    e = .returned (.agg #[.int .i64 (Ty.lie T j).size, .int .i64 (Ty.lie T j).align, .int .i64 (Ty.lie T j).words, .bool (Ty.lie T j).arr]) ∧ Ak N w' T n a c bf bt ba F ∧ Ch w w' [F]
theorem AskOk.low {N : Nat} {T : Nat → Ty.TyV} {n : Nat} {a : Option Addr} {c bf bt ba F K K' : Nat} (h : AskOk N T n a c bf bt ba F K) (hk : K' ≤ K) : AskOk N T n a c bf bt ba F K' := fun j hj => h j (by omega)
/-- one number appended -/
theorem wp_appZ1 {ops : Array Oper} {rest : List Oper} {o : Oper} {a : Act} {Q : Exit → Act → World → Prop} {W : World} (hgd : o.guard = none) (s x : Operand)
    (ho : o.op = .call { callee := .builtin .append, args := #[s, x], argTypes := #[24, 24] }) (base : Nat) (v : Value) (l : List Int) (X : Int) (hs : a.eval s = v) (hown : OwnZ W base v l)
    {nb : Nat} (hx : a.eval x = .slice (some ⟨nb, 0, none⟩) 1 1) (hnb : nb = W.heap.size) (hl : l.length ≤ 2000000) (hb : base ≤ W.heap.size)
    (h : ∀ v' w', OwnZ w' base v' (l ++ [X]) → W.grownBy w' v.ownBlock → wpList Try.prog ops Q rest (a.put o.dst v') w') : wpList Try.prog ops Q (o :: rest) a (W.alloc (Obj.cells #[.int .i64 X] 3)) := by
  subst hnb
  have hl1 : OwnZ (W.alloc (Obj.cells #[.int .i64 X] 3)) W.heap.size (.slice (some ⟨W.heap.size, 0, none⟩) 1 1) [X] := World.ownsRow_lit (base := W.heap.size) (e := 3) (size := 1) W #[.int .i64 X] 1 (Nat.le_refl _) (by decide) rfl
  refine wp_appZs hgd s x ho base v _ l [X] _ hs (hown.grow (World.grownBy_alloc _ _ _)) hx hl1 hl (by simp) (by simp; omega) ?_
  intro v' w' ho' hg'
  exact h v' w' ho' (grown_trans (grown_noneR _ (World.grownBy_alloc _ _ _)) hg')
theorem grown_cell {w w' : World} {r : Option Nat} (hg : w.grownBy w' r) {b o : Nat} {v : Value} (hc : w.cell? ⟨b, o, none⟩ = some v) (hb : ∀ q, r = some q → q ≠ b) : w'.cell? ⟨b, o, none⟩ = some v := by
  rw [← hc]
  exact World.cell?_of_block (hg.block b (World.block_lt_of_cell? _ _ hc) (fun e => hb b e.symm rfl))
theorem ownZ_nil (w : World) (base : Nat) : OwnZ w base (.slice none 0 0) [] := ⟨rfl, .inl ⟨rfl, rfl⟩⟩
set_option maxRecDepth 100000 in
set_option maxHeartbeats 4000000 in
/-- where a struct's fields begin, and where the last one ends -/
theorem places7_any {N : Nat} {w : World} {T : Nat → Ty.TyV} {n : Nat} {a : Option Addr} {c bf bt ba F K : Nat} (hA : Ak N w T n a c bf bt ba F) (hO : AskOk N T n a c bf bt ba F K) (hN : N ≤ w.heap.size) (hK : Ty.Fine T n K)
    {x : Ty.TyV} {fa : Option Addr} {fc : Nat} (hx : NumIn N w fa x.nf fc x.F) (h16 : x.nf ≤ 16) (hf : ∀ k, k < x.nf → 0 ≤ x.F k ∧ x.F k < K) :
    Calls Try.prog 53 #[.slice fa x.nf fc, .func (.func 49) #[] #[.pointer (some ⟨bf, 0, none⟩), .pointer (some ⟨bt, 0, none⟩), .pointer (some ⟨ba, 0, none⟩)]] w fun e w' =>
      ∃ v, e = .returned (.tuple #[v, .int .i64 (Ty.en x (Ty.lie T) x.nf)]) ∧ OwnZ w' w.heap.size v ((List.range x.nf).map (Ty.bg x (Ty.lie T))) ∧ Ak N w' T n a c bf bt ba F ∧ Ch w w' [F] := by
  have hle := hx.le
  have hmx := hx.max
  unfold maxLen at hmx
  have HA : Hid (Ak N w T n a c bf bt ba F) := hA
  have HO : Hid (AskOk N T n a c bf bt ba F K) := hO
  have HX : Hid (NumIn N w fa x.nf fc x.F) := hx
  have HF : Hid (∀ k, k < x.nf → 0 ≤ x.F k ∧ x.F k < K) := hf
  have HK : Hid (∀ k, k < x.nf → Ty.Good (Ty.fl x (Ty.lie T) k) ∧ (Ty.fl x (Ty.lie T) k).size ≤ 65536) := fun k hk => hK.good _ (by have := hf k hk; omega)
  have HNF : Hid (N ≤ F) := hA.nF
  have HN : Hid (N ≤ w.heap.size) := hN
  obtain ⟨m, hm⟩ : ∃ m, m = x.nf := ⟨_, rfl⟩
  rw [← hm] at h16 hle HX HF HK ⊢
  clear hA hO hx hf hK hm
  go_enter Try.func53, Try.ntmps53
  go_wp2_with fail
  go_loopw [4, 5, 11] (fun v e ix wr => ∃ k : Nat, ix = .int .i64 k ∧ e = .int .i64 (Ty.en x (Ty.lie T) k) ∧ k ≤ m ∧ OwnZ wr w.heap.size v ((List.range k).map (Ty.bg x (Ty.lie T))) ∧ Ak N wr T n a c bf bt ba F ∧ Ch w wr [F]) (fun _ _ ix _ => m - (intOf ix).toNat)
  case atStart => exact ⟨0, rfl, rfl, Nat.zero_le _, ownZ_nil _ _, HA.out, Ch.refl _ _⟩
  case round =>
    obtain ⟨k, rfl, rfl, hk, ho, hA, hg⟩ := hrel
    have HG : Hid (Ch w wr [F]) := hg
    obtain ⟨av, cv, hv, hcv, _⟩ := ho.slice
    rw [List.length_map, List.length_range] at hv hcv
    subst hv
    have HW : Hid (OwnZ wr w.heap.size (.slice av k cv) ((List.range k).map (Ty.bg x (Ty.lie T)))) := ho
    have HA2 : Hid (Ak N wr T n a c bf bt ba F) := hA
    clear ho hA hg
    have hsz := HG.out.size
    have HV : Hid (∀ q, (Value.slice av k cv).ownBlock = some q → q ∉ [F]) := fun q hq => by have := HW.out.base q hq; have := HA.out.lt; simp; omega
    by_cases hkn : k < m
    · have hkn' : (k : Int) < m := by omega
      have hXr := HX.out.ch HG.out (by simp; exact HNF.out)
      obtain ⟨b, off, rfl, hb, hc⟩ := hXr.at hkn
      have hfk := HF.out k hkn
      obtain ⟨j, hj⟩ : ∃ j : Nat, x.F k = j := ⟨(x.F k).toNat, by omega⟩
      have hfl : Ty.fl x (Ty.lie T) k = Ty.lie T j := by unfold Ty.fl; rw [hj]; rfl
      obtain ⟨hgd, hs6⟩ := HK.out k hkn
      have hen := Ty.en_spec (k := k) fun i hi => HK.out i (by omega)
      obtain ⟨L, hL⟩ : ∃ L, L = Ty.lie T j := ⟨_, rfl⟩
      obtain ⟨E, hE⟩ : ∃ E, E = Ty.en x (Ty.lie T) k := ⟨_, rfl⟩
      obtain ⟨U, hU⟩ : ∃ U, U = Ty.up E L.align := ⟨_, rfl⟩
      have HE : Hid (Ty.en x (Ty.lie T) (k + 1) = U + L.size) := by show _ = _; rw [Ty.en, hfl, hU, hE, hL]
      have HB : Hid (Ty.bg x (Ty.lie T) k = U) := by show _ = _; rw [Ty.bg, hfl, hU, hE, hL]
      rw [hfl, ← hL] at hgd hs6
      rw [← hE] at hen
      have hal := hgd.al
      have hs0 : 0 ≤ L.size := by have := hgd.w0; have := hgd.ws; omega
      have hup := Ty.up_spec (n := E) hal
      rw [← hU] at hup
      have hu8 := hal.le
      have HC : Hid (∀ W, Ak N W T n a c bf bt ba F → Calls Try.prog 49 #[.int .i64 j, .pointer (some ⟨bf, 0, none⟩), .pointer (some ⟨bt, 0, none⟩), .pointer (some ⟨ba, 0, none⟩)] W fun e w' =>
        e = .returned (.agg #[.int .i64 L.size, .int .i64 L.align, .int .i64 L.words, .bool L.arr]) ∧ Ak N w' T n a c bf bt ba F ∧ Ch W w' [F]) := by rw [hL]; exact HO.out j (by omega)
      have HU : Hid (∀ W, Calls Try.prog 61 #[.int .i64 E, .int .i64 L.align] W fun e w' => e = .returned (.int .i64 U) ∧ w' = W) := fun W => by rw [hU]; exact up_any hal (by omega) (by omega) W
      rw [hj] at hc
      have h1 : 0 ≤ U := by omega
      have h2 : U ≤ 1099511627776 := by omega
      rw [← hE]
      clear hfk hj hfl hgd hal hup hu8 hen hE hU hL
      go_wp2_with (first
        | (go_at_call 49; refine (HC.out _ HA2.out).mono ?_; rintro e w3 ⟨rfl, hA3, hg3⟩; have HA3 : Hid (Ak N w3 T n a c bf bt ba F) := hA3; have HG3 : Hid (Ch wr w3 [F]) := hg3; clear hA3 hg3)
        | (go_at_call 61; refine (HU.out _).mono ?_; rintro e w4 ⟨rfl, rfl⟩)
        | (at_builtin; refine wp_appZ1 rfl _ _ rfl w.heap.size (.slice av k cv) ((List.range k).map (Ty.bg x (Ty.lie T))) U rfl ((HW.out.ch HG3.out HV.out).grow (World.grownBy_alloc _ _ _)) rfl (by simp) (by simp; omega) (by have := HG3.out.size; simp; omega) ?_; intro v5 w5 ho5 hg5; have cL := grown_cell (b := w3.heap.size) (o := 0) (v := .int .i64 L.size) hg5 (by simp) (fun q hq => by have := HW.out.lt q hq; have := HG3.out.size; omega)))
      have ho5' : OwnZ w5 w.heap.size v5 ((List.range (k + 1)).map (Ty.bg x (Ty.lie T))) := by rw [List.range_succ, List.map_append, List.map_singleton, HB.out]; exact ho5
      have hbk := HA.out.bl
      have hlt := HA.out.lt
      have hgw : Ch w w5 [F] := by
        have g4 : Ch w (w3.alloc (.cells #[.int .i64 L.size, .int .i64 L.align, .int .i64 L.words, .bool L.arr] 86)) [F] := (HG.out.trans HG3.out).trans (Ch.of (World.grownBy_alloc _ _ _))
        cases hav : (Value.slice av k cv).ownBlock with
        | none => rw [hav] at hg5; exact g4.trans (Ch.of hg5)
        | some T5 => rw [hav] at hg5; exact g4.new (HW.out.base T5 hav) hg5
      have hA5 : Ak N w5 T n a c bf bt ba F := by
        have hA4 := HA3.out.grow (World.grownBy_alloc w3 (.cells #[.int .i64 L.size, .int .i64 L.align, .int .i64 L.words, .bool L.arr] 86) none)
        cases hav : (Value.slice av k cv).ownBlock with
        | none => rw [hav] at hg5; exact hA4.grow hg5
        | some T5 => rw [hav] at hg5; exact hA4.new HA.out HN.out (HW.out.base T5 hav) hg5
      go_roundw
      case rel => exact ⟨k + 1, by go_num, by rw [HE.out], by omega, ho5', hA5, hgw⟩
      case measure => simp [intOf]; omega
    · obtain rfl : k = m := by omega
      go_wp2
      go_ret2
      exact ⟨_, rfl, HW.out, HA2.out, HG.out⟩
end Go.Proofs.Ytdfjaedafampaaa
