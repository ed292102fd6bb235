/- abi.place. -/
import Derived.Test.YtdfjaedafampaaaG9
import Derived.WalkMore
namespace Go.Proofs.Ytdfjaedafampaaa
open Go.RowKit
set_option linter.unusedVariables false

/-- places of somebody's own -/
def rowP (l : List Ab.Pc) : Value → World → Prop := fun v w => ∃ b2, OwnP w b2 v l
theorem stab_rowP (l : List Ab.Pc) : StabV (rowP l) := fun _ _ _ ⟨b, h⟩ g => ⟨b, h.grow g⟩
/-- what place keeps: the places so far, the registers that are taken -/
structure Pw (w : World) (b : Nat) (wr : World) (v : Value) (r : Nat) (l : List Ab.Pc) : Prop where
  own : OwnP wr (b + 1) v l
  cell : wr.cell? ⟨b, 0, none⟩ = some (.int .i64 (r : Int))
  fz : wr.frozen? ⟨b, 0, none⟩ = false
  lt : b < wr.heap.size
  gr : w.grownBy wr none
theorem Pw.grow {w wr w2 : World} {b : Nat} {v : Value} {r : Nat} {l : List Ab.Pc} (h : Pw w b wr v r l) (g : wr.grownBy w2 none) : Pw w b w2 v r l :=
  ⟨h.own.grow g, (Ch.of (l := []) g).cell h.cell (by simp), frozen_ch (l := []) (Ch.of g) h.lt (by simp) h.fz, Nat.lt_of_lt_of_le h.lt g.size, grown_trans h.gr g⟩
theorem Pw.app {w wr w2 : World} {b : Nat} {v0 v v2 : Value} {r : Nat} {l0 l l2 : List Ab.Pc} (h : Pw w b wr v0 r l0) (hb : w.heap.size = b) (ho : OwnP wr (b + 1) v l) (h2 : OwnP w2 (b + 1) v2 l2) (g : wr.grownBy w2 v.ownBlock) : Pw w b w2 v2 r l2 := by
  have hb1 := ho.base
  have c := grown_ch g
  have hn : b ∉ v.ownBlock.toList := fun hm => by have := hb1 b (by simpa using hm); omega
  exact ⟨h2, c.cell h.cell hn, frozen_ch c h.lt hn h.fz, Nat.lt_of_lt_of_le h.lt g.size, ((Ch.of (l := v.ownBlock.toList) h.gr).trans c).nil (fun q hq => by have := hb1 q (by simpa using hq); omega)⟩
theorem Pw.take {w wr w2 : World} {b : Nat} {v : Value} {r r2 : Nat} {l : List Ab.Pc} (h : Pw w b wr v r l) (hb : w.heap.size = b) (hc : w2.cell? ⟨b, 0, none⟩ = some (.int .i64 (r2 : Int))) (hz : w2.frozen? ⟨b, 0, none⟩ = false) (g : wr.grownBy w2 (some b)) : Pw w b w2 v r2 l := by
  have hb1 := h.own.base
  have c : Ch wr w2 [b] := Ch.one g (by simp)
  exact ⟨h.own.ch c (fun q hq hm => by have := hb1 q hq; simp at hm; omega), hc, hz, Nat.lt_of_lt_of_le h.lt g.size, ((Ch.of (l := [b]) h.gr).trans c).nil (fun q hq => by simp at hq; omega)⟩
set_option maxRecDepth 100000 in
set_option maxHeartbeats 8000000 in
theorem place_any {N : Nat} {w : World} {va : Option Addr} {m vc : Nat} {K : Nat → Nat} (h : NumIn N w va m vc (fun k => ((K k : Nat) : Int))) (hm : m ≤ 8) (hK : ∀ k, k < m → K k ≤ 16) {s0 : Nat} (hs : s0 ≤ 200) :
    Calls Try.prog 21 #[.slice va m vc, .int .i64 (s0 : Int)] w fun e w' => ∃ v, e = .returned (.tuple #[v, .int .i64 ((Ab.go K s0 m).s : Int)]) ∧ OwnP w' w.heap.size v (Ab.go K s0 m).l ∧ w.grownBy w' none := by
  have hle := h.le
  have hmx := h.max
  unfold maxLen at hmx
  have hm' : (m : Int) ≤ 8 := by omega
  have HV : Hid (∀ W, w.grownBy W none → NumIn N W va m vc (fun k => ((K k : Nat) : Int))) := fun W hW => h.grow hW
  have HKb : Hid (∀ k, k < m → K k ≤ 16) := hK
  have HGo : Hid (∀ i, i ≤ m → (Ab.go K s0 i).r ≤ 6 ∧ (Ab.go K s0 i).s ≤ 400 ∧ (Ab.go K s0 i).l.length ≤ 128) := fun i hi => by
    have := Ab.go_b (K := K) (s0 := s0) (i := i) (fun j hj => hK j (by omega))
    omega
  have HR : Hid (∀ W, Calls Try.prog 30 #[] W fun e w' => e = .returned (.tuple #[.func (.func 43) #[] #[.pointer (some ⟨W.heap.size, 0, none⟩)], .func (.func 44) #[] #[.pointer (some ⟨W.heap.size, 0, none⟩)]]) ∧
    w'.cell? ⟨W.heap.size, 0, none⟩ = some (.int .i64 0) ∧ w'.frozen? ⟨W.heap.size, 0, none⟩ = false ∧ w'.heap.size = W.heap.size + 1 ∧ W.grownBy w' none) := registers_any
  clear h hK hs
  obtain ⟨b, hb⟩ : ∃ b, w.heap.size = b := ⟨_, rfl⟩
  have HB : Hid (w.heap.size = b) := hb
  rw [hb]
  obtain ⟨XM, hXM⟩ : ∃ XM, XM = Ab.go K s0 m := ⟨_, rfl⟩
  rw [← hXM]
  have HXM : Hid (XM = Ab.go K s0 m) := hXM
  clear hXM
  go_enter Try.func21, Try.ntmps21
  go_wp2_with fail
  go_step3
  go_wp2_with (go_at_call 30; refine (HR.out _).mono ?_; rintro e w1 ⟨rfl, hc1, hz1, hs1, hg1⟩; rw [hb] at hc1 hz1 hs1; have HP1 : Hid (Pw w b w1 (.slice none 0 0) 0 []) := ⟨ownP_nil _ _, hc1, hz1, (by omega), hg1⟩; clear hc1 hz1 hs1 hg1)
  clear hb
  go_step3
  go_wp2_with fail
  go_loopw [1, 4, 20] (fun sv v ix wr => ∃ i : Nat, ix = .int .i64 i ∧ i ≤ m ∧ sv = .int .i64 ((Ab.go K s0 i).s : Int) ∧ Pw w b wr v (Ab.go K s0 i).r (Ab.go K s0 i).l) (fun _ _ ix _ => m - (intOf ix).toNat)
  case atStart => exact ⟨0, rfl, Nat.zero_le _, rfl, HP1.out⟩
  case round =>
    obtain ⟨i, rfl, hi, rfl, hp⟩ := hrel
    clear HP1
    obtain ⟨wo, hwo⟩ : ∃ wo, wo = wr := ⟨_, rfl⟩
    obtain ⟨V4, hV4⟩ : ∃ V, V = u4 := ⟨_, rfl⟩
    rw [← hwo, ← hV4] at hp
    rw [← hwo, ← hV4]
    clear hwo hV4
    obtain ⟨hr6, hxs, hxl⟩ := HGo.out i hi
    have HX1 : Hid (∀ k, k = K i → ¬ (Ab.go K s0 i).r + k ≤ 6 → Ab.go K s0 (i + 1) = ⟨(Ab.go K s0 i).r, (Ab.go K s0 i).s + k, (Ab.go K s0 i).l ++ Ab.sl (Ab.go K s0 i).s k⟩) := fun k hk h => by subst hk; exact Ab.one_out h
    have HX2 : Hid (∀ k, k = K i → (Ab.go K s0 i).r + k ≤ 6 → Ab.go K s0 (i + 1) = ⟨(Ab.go K s0 i).r + k, (Ab.go K s0 i).s, (Ab.go K s0 i).l ++ Ab.rg (Ab.go K s0 i).r k⟩) := fun k hk h => by subst hk; exact Ab.one_in h
    have hend : i = m → XM = Ab.go K s0 i := fun e => by rw [HXM.out, e]
    have HE : Hid (i = m → XM = Ab.go K s0 i) := hend
    clear hend
    generalize Ab.go K s0 i = x at *
    have HP : Hid (Pw w b wo V4 x.r x.l) := hp
    obtain ⟨pa, pc, hV4, hp1, hp2, hp3, hp4⟩ := hp.own.slice
    subst hV4
    by_cases him : i < m
    · have him' : (i : Int) < m := by omega
      obtain ⟨lb, lo, hla, _, hci⟩ := (HV.out wo hp.gr).at him
      subst hla
      have hk16 := HKb.out i him
      obtain ⟨k, hk⟩ : ∃ k, k = K i := ⟨_, rfl⟩
      have HX1 := HX1.out k hk
      have HX2 := HX2.out k hk
      have HX1 : Hid _ := HX1
      have HX2 : Hid _ := HX2
      rw [← hk] at hci hk16
      clear hp hk
      have hxl' : (x.l.length : Int) ≤ 128 := by omega
      have hk16' : (k : Int) ≤ 16 := by omega
      have hxs' : (x.s : Int) ≤ 400 := by omega
      have HPi : Hid (Pw w b wo (.slice pa x.l.length pc) x.r (x.l ++ Ab.rg x.r 0)) := by rw [show Ab.rg x.r 0 = [] from rfl, List.append_nil]; exact HP.out
      go_wp2_with fail
      clear hci hp1 hp2 hp3 hp4 HP
      go_loopw [1, 4, 27] (fun sv v ix wr => ∃ j : Nat, ix = .int .i64 j ∧ j ≤ k ∧ x.r + j ≤ 6 ∧ sv = .int .i64 (x.s : Int) ∧ Pw w b wr v x.r (x.l ++ Ab.rg x.r j)) (fun _ _ ix _ => k - (intOf ix).toNat)
      case atStart => exact ⟨0, rfl, Nat.zero_le _, hr6, rfl, HPi.out⟩
      case round =>
        clear HPi
        obtain ⟨j, rfl, hj, hrj, rfl, hp⟩ := hrel
        obtain ⟨V5, hV5⟩ : ∃ V, V = u4 := ⟨_, rfl⟩
        rw [← hV5] at hp
        rw [← hV5]
        clear hV5
        have HP : Hid (Pw w b wr V5 x.r (x.l ++ Ab.rg x.r j)) := hp
        have hln : (x.l ++ Ab.rg x.r j).length = x.l.length + j := by rw [List.length_append, Ab.rg_len]
        obtain ⟨pa2, pc2, hV5, hp1, hp2, hp3, hp4⟩ := hp.own.slice
        obtain ⟨ll, hll⟩ : ∃ ll, ll = (x.l ++ Ab.rg x.r j).length := ⟨_, rfl⟩
        rw [← hll] at hV5 hp1
        subst hV5
        have hlb : (ll : Int) ≤ 140 := by omega
        have hpl := hp.lt
        have hsw := hp.gr.size
        by_cases hjk : j < k
        · have hjk' : (j : Int) < k := by omega
          have HLf : Hid (Calls Try.prog 43 #[.int .i64 (j : Int), .pointer (some ⟨b, 0, none⟩)] wr fun e w' => e = .returned (.tuple #[.int .i64 ((x.r + j : Nat) : Int), .bool (decide (x.r + j < 6))]) ∧ wr.grownBy w' none) := left_any hp.cell hr6 (by omega)
          by_cases hlt : x.r + j < 6
          · rw [decide_eq_true hlt] at HLf
            obtain ⟨z, hz⟩ : ∃ z : Int, z = ((x.r + j : Nat) : Int) := ⟨_, rfl⟩
            rw [← hz] at HLf
            have HZ : Hid (z = ((x.r + j : Nat) : Int)) := hz
            have HLn : Hid (ll = x.l.length + j) := hll.trans hln
            clear hp hz hll hln hp1 hp2 hp3 hp4
            have hlb2 : (x.l ++ Ab.rg x.r j).length ≤ 1000 := by rw [List.length_append, Ab.rg_len]; omega
            go_wp2_with (first
              | (go_at_call 43; refine HLf.out.mono ?_; rintro e w3 ⟨rfl, hg3⟩; have HP3 : Hid (Pw w b w3 (.slice pa2 ll pc2) x.r (x.l ++ Ab.rg x.r j)) := HP.out.grow hg3; have hl3 := HP3.out.lt; clear hg3)
              | (at_builtin; refine wp_appP rfl _ _ rfl (b + 1) (.slice pa2 ll pc2) (x.l ++ Ab.rg x.r j) ⟨false, z⟩ rfl HP3.out.own rfl rfl hlb2 (by omega) ?_; intro v5 w5 ho5 hg5 hq5))
            refine ⟨⟨j + 1, by go_num, by omega, by omega, rfl, ?_⟩, by simp [intOf]; omega⟩
            rw [Ab.rg_succ, ← HZ.out, ← List.append_assoc]
            exact HP3.out.app HB.out HP3.out.own ho5 hg5
          · rw [decide_eq_false hlt] at HLf
            have HLn : Hid (ll = x.l.length + j) := hll.trans hln
            have HL0 : Hid (pa2 = none ∧ pc2 = 0 ∨ ∃ T, pa2 = some ⟨T, 0, none⟩) := hp3
            have HL1 : Hid (ll ≤ pc2 ∧ pc2 ≤ maxLen) := ⟨hp1, hp2⟩
            clear hp hll hln hp1 hp2 hp3 hp4
            go_wp2_with (go_at_call 43; refine HLf.out.mono ?_; rintro e w3 ⟨rfl, hg3⟩; have HP3 : Hid (Pw w b w3 (.slice pa2 ll pc2) x.r (x.l ++ Ab.rg x.r j)) := HP.out.grow hg3; have hl3 := HP3.out.lt; clear hg3)
            clear HP HLf
            have hxs2 : x.s ≤ 1000 := by omega
            rcases HL0.out with ⟨rfl, rfl⟩ | ⟨T, rfl⟩
            · obtain rfl : ll = 0 := by have := HL1.out; omega
              have hx0 : x.l.length = 0 := by have := HLn.out; omega
              have hx1 : x.l = [] := List.length_eq_zero_iff.1 hx0
              have HCut : Hid (OwnP w3 (b + 1) (.slice none 0 0) x.l) := by rw [hx1]; exact ownP_nil _ _
              have HXl : Hid (x.l = []) := hx1
              have HXm : Hid (x.l.length = 0) := hx0
              rw [hx0]
              clear hx1 hx0
              refine region_src 6 (psiL [eqV (.slice none 0 0), eqV (.int .i64 (0 : Int)), eqV (.slice none 0 0), eqV (.int .i64 (x.s : Int)), eqV (.int .i64 (k : Int)), rowP (Ab.sl x.s k)]) (by kernel_rfl) (by kernel_rfl) (by kernel_rfl) (by kernel_rfl) (psiL_hst (by repeat (first | exact stab_nil | refine stab_cons ?_ ?_ | exact stab_eq _ | exact stab_rowP _))) ?_ ?_
              · simp only [List.take_succ_cons, List.take_zero]
                refine ⟨?_, ?_, ?_, ?_, ?_, ?_, trivial⟩
                · intro VV W0 AA g hV hs hz
                  have e04 := hz 4 (.slice none 0 0) (by kernel_rfl) rfl
                  clear hV hs hz
                  refine outO_val (v := .slice none 0 0) (w' := W0) ?_ (World.grownBy.refl _ _) rfl
                  simp [go_sem, e04]
                · intro VV W0 AA g hV hs hz
                  have e010 := hz 10 (.int .i64 (0 : Int)) (by kernel_rfl) rfl
                  clear hV hs hz
                  refine outO_val (v := .int .i64 (0 : Int)) (w' := W0) ?_ (World.grownBy.refl _ _) rfl
                  simp [go_sem, e010]
                · intro VV W0 AA g hV hs hz
                  have q0 : VV 0 = .slice none 0 0 := hV 0 (by kernel_rfl)
                  have e0 := hs 38 0 (by kernel_rfl) (by kernel_rfl)
                  have q1 : VV 1 = .int .i64 (0 : Int) := hV 1 (by kernel_rfl)
                  have e1 := hs 39 1 (by kernel_rfl) (by kernel_rfl)
                  clear hV hs hz
                  refine outO_val (v := .slice none 0 0) (w' := W0) ?_ (World.grownBy.refl _ _) rfl
                  simp [go_sem, q0, e0, q1, e1]
                · intro VV W0 AA g hV hs hz
                  have e01 := hz 1 (.int .i64 (x.s : Int)) (by kernel_rfl) rfl
                  clear hV hs hz
                  refine outO_val (v := .int .i64 (x.s : Int)) (w' := W0) ?_ (World.grownBy.refl _ _) rfl
                  simp [go_sem, e01]
                · intro VV W0 AA g hV hs hz
                  have e09 := hz 9 (.int .i64 (k : Int)) (by kernel_rfl) rfl
                  clear hV hs hz
                  refine outO_val (v := .int .i64 (k : Int)) (w' := W0) ?_ (World.grownBy.refl _ _) rfl
                  simp [go_sem, e09]
                · intro VV W0 AA g hV hs hz
                  have gD : w3.grownBy W0 none := grown_trans (grown_drew (World.grownBy.refl _ none)) g
                  have q3 : VV 3 = .int .i64 (x.s : Int) := hV 3 (by kernel_rfl)
                  have e3 := hs 41 3 (by kernel_rfl) (by kernel_rfl)
                  have q4 : VV 4 = .int .i64 (k : Int) := hV 4 (by kernel_rfl)
                  have e4 := hs 42 4 (by kernel_rfl) (by kernel_rfl)
                  clear hV hs hz
                  refine outO_call (f := 31) ?_ ((slots_any W0 x.s k hxs2 hk16).mono fun e w2 ⟨v, he, ho, hg⟩ => ⟨v, he, hg, _, ho⟩)
                  simp [go_sem, q3, e3, q4, e4]
              · intro VV W0 g hV
                have gD : w3.grownBy W0 none := grown_trans (grown_drew (World.grownBy.refl _ none)) g
                have h0 : VV 0 = .slice none 0 0 := hV 0 (by decide)
                have h1 : VV 1 = .int .i64 (0 : Int) := hV 1 (by decide)
                have h2 : VV 2 = .slice none 0 0 := hV 2 (by decide)
                have h3 : VV 3 = .int .i64 (x.s : Int) := hV 3 (by decide)
                have h4 : VV 4 = .int .i64 (k : Int) := hV 4 (by decide)
                obtain ⟨bb, pp⟩ : rowP (Ab.sl x.s k) (VV 5) W0 := hV 5 (by decide)
                obtain ⟨sa, sc, h5, _⟩ := pp.slice
                rw [h5, Ab.sl_len] at pp
                rw [Ab.sl_len] at h5
                simp [frV, dstOf, Act.put, h0, h1, h2, h3, h4, h5]
                clear h0 h1 h2 h3 h4 h5 hV g
                have GR : Hid (w3.grownBy W0 none) := gD
                clear gD
                have PP : Hid (OwnP W0 bb (.slice sa k sc) (Ab.sl x.s k)) := pp
                have hs0 := GR.out.size
                have HCu : Hid (OwnP W0 (b + 1) (.slice none 0 0) x.l) := HCut.out.grow GR.out
                clear pp
                go_wp2_with (at_builtin; refine wp_appPs rfl _ _ rfl (b + 1) (.slice none 0 0) (.slice sa k sc) x.l (Ab.sl x.s k) bb rfl HCu.out rfl PP.out (by omega) (by rw [Ab.sl_len]; omega) (by omega) ?_; intro v6 w6 ho6 hg6)
                have e6 : ((x.s : Int) + k) = ((x.s + k : Nat) : Int) := by omega
                rw [e6]
                refine ⟨⟨i + 1, by go_num, by omega, ?_, ?_⟩, by simp [intOf]; omega⟩
                · rw [HX1.out (by omega)]
                · rw [HX1.out (by omega)]
                  have hq := (HP3.out.grow GR.out).app (v := (.slice none 0 0)) (l := x.l) HB.out HCu.out ho6 hg6
                  exact hq
            · have hsl : x.l.length ≤ ll := by have := HLn.out; omega
              have hsl2 : (x.l.length : Int) ≤ pc2 := by have := HL1.out; omega
              have HCut : Hid (OwnP w3 (b + 1) (.slice (some ⟨T, 0, none⟩) x.l.length pc2) x.l) := by
                have := HP3.out.own.cut x.l.length (by simp)
                rwa [List.take_left' rfl] at this
              refine region_src 6 (psiL [eqV (.slice (some ⟨T, 0, none⟩) ll pc2), eqV (.int .i64 (x.l.length : Int)), eqV (.slice (some ⟨T, 0, none⟩) x.l.length pc2), eqV (.int .i64 (x.s : Int)), eqV (.int .i64 (k : Int)), rowP (Ab.sl x.s k)]) (by kernel_rfl) (by kernel_rfl) (by kernel_rfl) (by kernel_rfl) (psiL_hst (by repeat (first | exact stab_nil | refine stab_cons ?_ ?_ | exact stab_eq _ | exact stab_rowP _))) ?_ ?_
              · simp only [List.take_succ_cons, List.take_zero]
                refine ⟨?_, ?_, ?_, ?_, ?_, ?_, trivial⟩
                · intro VV W0 AA g hV hs hz
                  have e04 := hz 4 (.slice (some ⟨T, 0, none⟩) ll pc2) (by kernel_rfl) rfl
                  clear hV hs hz
                  refine outO_val (v := .slice (some ⟨T, 0, none⟩) ll pc2) (w' := W0) ?_ (World.grownBy.refl _ _) rfl
                  simp [go_sem, e04]
                · intro VV W0 AA g hV hs hz
                  have e010 := hz 10 (.int .i64 (x.l.length : Int)) (by kernel_rfl) rfl
                  clear hV hs hz
                  refine outO_val (v := .int .i64 (x.l.length : Int)) (w' := W0) ?_ (World.grownBy.refl _ _) rfl
                  simp [go_sem, e010]
                · intro VV W0 AA g hV hs hz
                  have q0 : VV 0 = .slice (some ⟨T, 0, none⟩) ll pc2 := hV 0 (by kernel_rfl)
                  have e0 := hs 38 0 (by kernel_rfl) (by kernel_rfl)
                  have q1 : VV 1 = .int .i64 (x.l.length : Int) := hV 1 (by kernel_rfl)
                  have e1 := hs 39 1 (by kernel_rfl) (by kernel_rfl)
                  clear hV hs hz
                  refine outO_val (v := .slice (some ⟨T, 0, none⟩) x.l.length pc2) (w' := W0) ?_ (World.grownBy.refl _ _) rfl
                  simp [go_sem, q0, e0, q1, e1, hsl2]
                · intro VV W0 AA g hV hs hz
                  have e01 := hz 1 (.int .i64 (x.s : Int)) (by kernel_rfl) rfl
                  clear hV hs hz
                  refine outO_val (v := .int .i64 (x.s : Int)) (w' := W0) ?_ (World.grownBy.refl _ _) rfl
                  simp [go_sem, e01]
                · intro VV W0 AA g hV hs hz
                  have e09 := hz 9 (.int .i64 (k : Int)) (by kernel_rfl) rfl
                  clear hV hs hz
                  refine outO_val (v := .int .i64 (k : Int)) (w' := W0) ?_ (World.grownBy.refl _ _) rfl
                  simp [go_sem, e09]
                · intro VV W0 AA g hV hs hz
                  have gD : w3.grownBy W0 none := grown_trans (grown_drew (World.grownBy.refl _ none)) g
                  have q3 : VV 3 = .int .i64 (x.s : Int) := hV 3 (by kernel_rfl)
                  have e3 := hs 41 3 (by kernel_rfl) (by kernel_rfl)
                  have q4 : VV 4 = .int .i64 (k : Int) := hV 4 (by kernel_rfl)
                  have e4 := hs 42 4 (by kernel_rfl) (by kernel_rfl)
                  clear hV hs hz
                  refine outO_call (f := 31) ?_ ((slots_any W0 x.s k hxs2 hk16).mono fun e w2 ⟨v, he, ho, hg⟩ => ⟨v, he, hg, _, ho⟩)
                  simp [go_sem, q3, e3, q4, e4]
              · intro VV W0 g hV
                have gD : w3.grownBy W0 none := grown_trans (grown_drew (World.grownBy.refl _ none)) g
                have h0 : VV 0 = .slice (some ⟨T, 0, none⟩) ll pc2 := hV 0 (by decide)
                have h1 : VV 1 = .int .i64 (x.l.length : Int) := hV 1 (by decide)
                have h2 : VV 2 = .slice (some ⟨T, 0, none⟩) x.l.length pc2 := hV 2 (by decide)
                have h3 : VV 3 = .int .i64 (x.s : Int) := hV 3 (by decide)
                have h4 : VV 4 = .int .i64 (k : Int) := hV 4 (by decide)
                obtain ⟨bb, pp⟩ : rowP (Ab.sl x.s k) (VV 5) W0 := hV 5 (by decide)
                obtain ⟨sa, sc, h5, _⟩ := pp.slice
                rw [h5, Ab.sl_len] at pp
                rw [Ab.sl_len] at h5
                simp [frV, dstOf, Act.put, h0, h1, h2, h3, h4, h5]
                clear h0 h1 h2 h3 h4 h5 hV g
                have GR : Hid (w3.grownBy W0 none) := gD
                clear gD
                have PP : Hid (OwnP W0 bb (.slice sa k sc) (Ab.sl x.s k)) := pp
                have hs0 := GR.out.size
                have HCu : Hid (OwnP W0 (b + 1) (.slice (some ⟨T, 0, none⟩) x.l.length pc2) x.l) := HCut.out.grow GR.out
                clear pp
                go_wp2_with (at_builtin; refine wp_appPs rfl _ _ rfl (b + 1) (.slice (some ⟨T, 0, none⟩) x.l.length pc2) (.slice sa k sc) x.l (Ab.sl x.s k) bb rfl HCu.out rfl PP.out (by omega) (by rw [Ab.sl_len]; omega) (by omega) ?_; intro v6 w6 ho6 hg6)
                have e6 : ((x.s : Int) + k) = ((x.s + k : Nat) : Int) := by omega
                rw [e6]
                refine ⟨⟨i + 1, by go_num, by omega, ?_, ?_⟩, by simp [intOf]; omega⟩
                · rw [HX1.out (by omega)]
                · rw [HX1.out (by omega)]
                  have hq := (HP3.out.grow GR.out).app (v := (.slice (some ⟨T, 0, none⟩) x.l.length pc2)) (l := x.l) HB.out HCu.out ho6 hg6
                  exact hq
        · obtain rfl : j = k := by omega
          have HTk : Hid (Calls Try.prog 44 #[.int .i64 (j : Int), .pointer (some ⟨b, 0, none⟩)] wr fun e w' => e = .returned (.tuple #[]) ∧ w'.cell? ⟨b, 0, none⟩ = some (.int .i64 ((x.r + j : Nat) : Int)) ∧ w'.frozen? ⟨b, 0, none⟩ = false ∧ w'.heap.size = wr.heap.size ∧ wr.grownBy w' (some b)) := take_any hp.cell hp.fz hrj
          clear hp hll hln hp1 hp2 hp3 hp4
          go_wp2_with (go_at_call 44; refine HTk.out.mono ?_; rintro e w3 ⟨rfl, hc3, hz3, hs3, hg3⟩; have HP3 : Hid (Pw w b w3 (.slice pa2 ll pc2) (x.r + j) (x.l ++ Ab.rg x.r j)) := HP.out.take HB.out hc3 hz3 hg3; clear hc3 hz3 hs3 hg3)
          refine ⟨⟨i + 1, by go_num, by omega, ?_, ?_⟩, by simp [intOf]; omega⟩
          · rw [HX2.out hrj]
          · rw [HX2.out hrj]; exact HP3.out
    · obtain rfl : i = m := by omega
      have hx := HE.out rfl
      subst hx
      clear hp hp1 hp2 hp3 hp4
      go_wp2_with fail
      try rw [Exit.noGoto_ret]
      refine bodyPost_ret (by simp [results, Try.results21, go_sem]; try rfl) rfl ?_
      exact ⟨_, rfl, HP.out.own.low (by omega), HP.out.gr⟩
end Go.Proofs.Ytdfjaedafampaaa
