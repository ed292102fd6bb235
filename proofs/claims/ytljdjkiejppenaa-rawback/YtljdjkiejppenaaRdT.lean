/- The reader's terms. -/
import Derived.Test.YtljdjkiejppenaaRdL
namespace Go.Proofs.Ytljdjkiejppenaa
open Go.RowKit
set_option linter.unusedVariables false

def TermRd (x : Pg.Ex) : Prop := ∀ (lim : Nat) (w : World) (B : Nat) (R : List Int) (n d : Nat), Rd lim w B (x.dl.en ++ R) n d → lim ≤ w.heap.size → n + x.dl.nd ≤ 2048 → d + x.dl.dp ≤ 32 →
  Calls Try.prog 104 #[.pointer (some ⟨B, 0, none⟩)] w fun e w' => ∃ a1 k1, e = .returned (.agg #[.int .i64 x.op, .int .i64 x.t, .int .i64 x.n, .string x.s, .slice a1 x.args.length k1]) ∧ ExL (Fresh w w') w' a1 k1 x.args ∧ Rd lim w' B R (n + x.dl.nd) d ∧ w.grownBy w' (some B)
def TermCut (x : Pg.Ex) : Prop := ∀ (lim : Nat) (w : World) (B : Nat) (M : List Int) (n d : Nat), Rd lim w B M n d → Cut M x.dl.en → lim ≤ w.heap.size → n + x.dl.nd ≤ 2048 → d + x.dl.dp ≤ 32 →
  Calls Try.prog 104 #[.pointer (some ⟨B, 0, none⟩)] w fun e w' => e = faults 80 ∧ w.grownBy w' (some B)
/-- a term that may be read -/
def ExOk (x : Pg.Ex) : Prop := x.dl.may = true ∧ ExR x ∧ x.s.size ≤ reachBytes
theorem Pg.Ex.parts2 (x : Pg.Ex) (h : x.dl.may = true) : Pg.okB x.op = true ∧ Pg.okB x.t = true ∧ x.s.size ≤ 256 ∧ Pg.okB (x.args.length : Int) = true ∧ (Pg.dCat Pg.Ex.dl x.args).may = true ∧ x.dl.en = (Pg.dCnt x.op).en ++ ((Pg.dCnt x.t).en ++ ((Pg.dNum x.n).en ++ (((Pg.dCnt (x.s.size : Int)).en ++ Pg.txt x.s) ++ ((Pg.dCnt (x.args.length : Int)).en ++ (Pg.dCat Pg.Ex.dl x.args).en)))) := by
  obtain ⟨h1, h2, h3, h4, h5, h6⟩ := Pg.Ex.parts x h
  simp only [Pg.dExL, Pg.dEs_cat, Pg.Dl.app, Bool.and_eq_true] at h5 h6
  refine ⟨h1, h2, h3, by rw [← dCnt_may]; exact h5.1, h5.2, ?_⟩
  rw [h6]
  simp only [List.append_assoc]
set_option maxRecDepth 100000 in
set_option maxHeartbeats 8000000 in
theorem rEs_ok {lim : Nat} {w : World} {B : Nat} {z : List Pg.Ex} {R : List Int} {n d : Nat} (h : Rd lim w B (((Pg.dCnt (z.length : Int)).en ++ (Pg.dCat Pg.Ex.dl z).en) ++ R) n d) (hlim : lim ≤ w.heap.size) (hn : n + (Pg.dCat Pg.Ex.dl z).nd ≤ 2048) (hd : d + (Pg.dCat Pg.Ex.dl z).dp ≤ 32) (hok : Pg.okB (z.length : Int) = true) (hpos : ∀ x, x ∈ z → 1 ≤ (Pg.Ex.dl x).en.length) (hrx : ∀ x, x ∈ z → R64 x.n ∧ x.s.size ≤ reachBytes) (ih : ∀ x, x ∈ z → TermRd x) :
    Calls Try.prog 103 #[.pointer (some ⟨B, 0, none⟩), .func (.func 104) #[.pointer (some ⟨B, 0, none⟩)] #[]] w fun e w' => ∃ a c, e = .returned (.slice a z.length c) ∧ ExL (Fresh w w') w' a c z ∧ Rd lim w' B R (n + (Pg.dCat Pg.Ex.dl z).nd) d ∧ w.grownBy w' (some B) := by
  have hB := h.lt
  have hlz : z.length < 2147483648 := by have := (cnt_en hok).2.2; omega
  have HLn : Hid (Calls Try.prog 91 #[.pointer (some ⟨B, 0, none⟩)] w fun e w' => e = .returned (.int .i64 (z.length : Int)) ∧ Rd lim w' B ((Pg.dCat Pg.Ex.dl z).en ++ R) n d ∧ w.grownBy w' (some B)) := rlength_ok hok (by have := Pg.dCat_len Pg.Ex.dl z hpos; rw [List.length_append]; omega) (by rw [List.append_assoc] at h; exact h)
  have HRX : Hid (∀ x, x ∈ z → R64 x.n ∧ x.s.size ≤ reachBytes) := hrx
  have HI : Hid (∀ x, x ∈ z → TermRd x) := ih
  clear h ih hok hpos
  go_enter Try.func103, Try.ntmps103
  go_wp2_with (go_at_call 91; refine HLn.out.mono ?_; rintro e w4 ⟨rfl, h4, g4⟩; have R4 : Hid (Rd lim w4 B ((Pg.dCat Pg.Ex.dl z).en ++ R) n d) := h4; have G4 : Hid (w.grownBy w4 (some B)) := g4; clear h4 g4 HLn)
  go_loopw [4, 7] (fun v ix wr => ∃ (k : Nat) (L : List EE) (a' : Option Addr) (c' : Nat), v = .slice a' k c' ∧ ix = .int .i64 k ∧ k ≤ z.length ∧ L.map EE.x = z.take k ∧ CopR 94 5 cellsE InE w wr B k (.slice a' k c') L ∧ Rd lim wr B ((Pg.dCat Pg.Ex.dl (z.drop k)).en ++ R) (n + (Pg.dCat Pg.Ex.dl (z.take k)).nd) d) (fun _ ix _ => z.length - (intOf ix).toNat)
  case atStart => exact ⟨0, [], none, 0, rfl, rfl, Nat.zero_le _, rfl, CopR.start _ _ _ _ G4.out, R4.out⟩
  case round =>
    obtain ⟨k, L, a', c', rfl, rfl, hk, hm, hc, hr⟩ := hrel
    have HC : Hid (CopR 94 5 cellsE InE w wr B k (.slice a' k c') L) := hc
    have HM : Hid (L.map EE.x = z.take k) := hm
    have HRd : Hid (Rd lim wr B ((Pg.dCat Pg.Ex.dl (z.drop k)).en ++ R) (n + (Pg.dCat Pg.Ex.dl (z.take k)).nd) d) := hr
    clear hm
    by_cases hkn : k < z.length
    case neg =>
      obtain rfl : k = z.length := by omega
      obtain ⟨a1, c1, e1, hT1⟩ := CopR.row (cells := cellsE) (In := InE) (by' := 64) (fun e => rfl) hc (by show z.length * 64 ≤ 140737488351232; omega) EE.x (ExAt (Fresh w wr) wr) (fun b o e hcc hin => ExC.at ⟨hcc 0 _ rfl, hcc 1 _ rfl, hcc 2 _ rfl, hcc 3 _ rfl, hcc 4 _ rfl, hin.2.1, hin.2.2, hin.1⟩) (fun e he => @inE_ch _ _ _ _ [] _ he (Ch.refl _ _) (by simp) (fun q hq => ⟨hq.1, hq.2.1⟩))
      rw [HM.out, List.take_length] at hT1
      injection e1 with e1 _ e3
      subst e1
      subst e3
      have HT1 : Hid (ExL (Fresh w wr) wr a' c' z) := hT1
      have HG : Hid (w.grownBy wr (some B)) := hc.gr
      clear hc hT1 hr
      go_wp2
      go_ret
      refine ⟨a', c', rfl, HT1.out, ?_, HG.out⟩
      have := HRd.out
      rw [List.take_length, List.drop_length] at this
      simpa [Pg.dCat, Pg.Dl.nil] using this
    have hkn' : (k : Int) < z.length := by omega
    have hlen := hc.len
    have hsz := hc.gr.size
    obtain ⟨y1, y2, _, _⟩ := Pg.dCat_le Pg.Ex.dl z (k + 1)
    have hsc := Pg.dCat_succ Pg.Ex.dl hkn
    rw [hsc] at y1 y2
    simp only [Pg.Dl.app] at y1 y2
    have HS : Hid (n + (Pg.dCat Pg.Ex.dl (z.take (k + 1))).nd = n + (Pg.dCat Pg.Ex.dl (z.take k)).nd + (Pg.Ex.dl z[k]).nd) := by show _ = _; rw [hsc]; simp only [Pg.Dl.app]; omega
    have HT : Hid (z.take (k + 1) = z.take k ++ [z[k]]) := List.take_succ_eq_append_getElem hkn
    have hdr := Pg.dCat_drop Pg.Ex.dl hkn
    rw [hdr] at hr
    simp only [Pg.Dl.app, List.append_assoc] at hr
    have HE := HI.out z[k] (List.getElem_mem hkn) lim wr B ((Pg.dCat Pg.Ex.dl (z.drop (k + 1))).en ++ R) (n + (Pg.dCat Pg.Ex.dl (z.take k)).nd) d hr (by omega) (by omega) (by omega)
    clear hc hr hsc hdr y1 y2
    have HRx : Hid (R64 z[k].n ∧ z[k].s.size ≤ reachBytes) := HRX.out _ (List.getElem_mem hkn)
    generalize z[k] = x at *
    have HE : Hid (Calls Try.prog 104 #[.pointer (some ⟨B, 0, none⟩)] wr fun e w' => ∃ a1 k1, e = .returned (.agg #[.int .i64 x.op, .int .i64 x.t, .int .i64 x.n, .string x.s, .slice a1 x.args.length k1]) ∧ ExL (Fresh wr w') w' a1 k1 x.args ∧ Rd lim w' B ((Pg.dCat Pg.Ex.dl (z.drop (k + 1))).en ++ R) (n + (Pg.dCat Pg.Ex.dl (z.take k)).nd + (Pg.Ex.dl x).nd) d ∧ wr.grownBy w' (some B)) := HE
    go_wp2_with (first
      | (go_at_call 104; refine HE.out.mono ?_; rintro e w5 ⟨a5, c5, rfl, n5, h5, g5⟩; have N5 : Hid (InE (fun q => wr.heap.size ≤ q ∧ q < w5.heap.size) w5 ⟨x, a5, c5⟩) := ⟨n5, HRx.out⟩; have R5 : Hid (Rd lim w5 B ((Pg.dCat Pg.Ex.dl (z.drop (k + 1))).en ++ R) (n + (Pg.dCat Pg.Ex.dl (z.take k)).nd + (Pg.Ex.dl x).nd) d) := h5; have G5 : Hid (wr.grownBy w5 (some B)) := g5; have hs5 := g5.size; clear h5 g5 HE n5)
      | (at_builtin; refine wp_appEx rfl _ _ rfl w.heap.size (.slice a' k c') L ⟨x, a5, c5⟩ (by rw [← hlen]; rfl) (World.ownsRow.kept HC.out.own G5.out (by rw [← hlen]; rcases HC.out.own.2 with ⟨e, _⟩ | ⟨g, cap, cur, e, hb, _⟩; exact .inl (by rw [hlen, e]; rfl); exact .inr (by rw [hlen, e]; simp [Value.ownBlock]; omega))) rfl rfl (by omega) (by omega) ?_; intro v6 w6 o6 g6 b6; have K6' := CopR.step (In := InE) @inE_ch HC.out hB G5.out N5.out o6 g6 b6; obtain ⟨a6, c6, rfl⟩ := K6'.slice; have K6 : Hid (CopR 94 5 cellsE InE w w6 B (k + 1) (.slice a6 (k + 1) c6) (L ++ [⟨x, a5, c5⟩])) := K6'; have R6 : Hid (Rd lim w6 B ((Pg.dCat Pg.Ex.dl (z.drop (k + 1))).en ++ R) (n + (Pg.dCat Pg.Ex.dl (z.take k)).nd + (Pg.Ex.dl x).nd) d) := (R5.out.app g6 (fun q hq => (by have := World.ownsRow.lt HC.out.own q hq; exact ⟨by omega, by omega⟩))); clear o6 g6 b6 K6'))
    go_roundw
    case rel => exact ⟨k + 1, L ++ [⟨x, a5, c5⟩], a6, c6, rfl, by go_num, by omega, by rw [List.map_append, HM.out, HT.out]; rfl, K6.out, by rw [HS.out]; exact R6.out⟩
    case measure => simp [intOf]; omega
set_option maxRecDepth 100000 in
set_option maxHeartbeats 8000000 in
theorem rEs_cut {lim : Nat} {w : World} {B : Nat} {z : List Pg.Ex} {M0 : List Int} {n d : Nat} (h : Rd lim w B M0 n d) (hcut : Cut M0 ((Pg.dCnt (z.length : Int)).en ++ (Pg.dCat Pg.Ex.dl z).en)) (hlim : lim ≤ w.heap.size) (hn : n + (Pg.dCat Pg.Ex.dl z).nd ≤ 2048) (hd : d + (Pg.dCat Pg.Ex.dl z).dp ≤ 32) (hok : Pg.okB (z.length : Int) = true) (hrx : ∀ x, x ∈ z → R64 x.n ∧ x.s.size ≤ reachBytes) (ih : ∀ x, x ∈ z → TermRd x ∧ TermCut x) :
    Calls Try.prog 103 #[.pointer (some ⟨B, 0, none⟩), .func (.func 104) #[.pointer (some ⟨B, 0, none⟩)] #[]] w fun e w' => e = faults 80 ∧ w.grownBy w' (some B) := by
  have hB := h.lt
  have hlz : z.length < 2147483648 := by have := (cnt_en hok).2.2; omega
  have hcases : (Calls Try.prog 91 #[.pointer (some ⟨B, 0, none⟩)] w fun e w' => e = faults 80 ∧ w.grownBy w' (some B)) ∨ ∃ M, Cut M (Pg.dCat Pg.Ex.dl z).en ∧ (Calls Try.prog 91 #[.pointer (some ⟨B, 0, none⟩)] w fun e w' => e = .returned (.int .i64 (z.length : Int)) ∧ Rd lim w' B M n d ∧ w.grownBy w' (some B)) := by
    rcases cut_cases hcut with h1 | ⟨M, hM, h2⟩
    · exact .inl (rlength_cut (k := z.length) hok h1 h)
    · rw [hM] at h
      by_cases hlt : M.length < z.length
      · exact .inl (rlength_more (k := z.length) hok hlt h)
      · exact .inr ⟨M, h2, rlength_ok (k := z.length) hok (by omega) h⟩
  rcases hcases with HL1 | ⟨M, hM, HL2⟩
  · have HLn : Hid (Calls Try.prog 91 #[.pointer (some ⟨B, 0, none⟩)] w fun e w' => e = faults 80 ∧ w.grownBy w' (some B)) := HL1
    clear h ih hok hcut HL1
    go_enter Try.func103, Try.ntmps103
    go_wp2_with (go_at_call 91; refine HLn.out.mono ?_; rintro e w4 ⟨rfl, g4⟩; have G4 : Hid (w.grownBy w4 (some B)) := g4; clear g4 HLn)
    exact ⟨rfl, rfl, G4.out⟩
  have HLn : Hid (Calls Try.prog 91 #[.pointer (some ⟨B, 0, none⟩)] w fun e w' => e = .returned (.int .i64 (z.length : Int)) ∧ Rd lim w' B M n d ∧ w.grownBy w' (some B)) := HL2
  have HM0 : Hid (Cut M (Pg.dCat Pg.Ex.dl z).en) := hM
  have HRX : Hid (∀ x, x ∈ z → R64 x.n ∧ x.s.size ≤ reachBytes) := hrx
  have HI : Hid (∀ x, x ∈ z → TermRd x ∧ TermCut x) := ih
  clear h ih hok hcut HL2 hM
  go_enter Try.func103, Try.ntmps103
  go_wp2_with (go_at_call 91; refine HLn.out.mono ?_; rintro e w4 ⟨rfl, h4, g4⟩; have R4 : Hid (Rd lim w4 B M n d) := h4; have G4 : Hid (w.grownBy w4 (some B)) := g4; clear h4 g4 HLn)
  go_loopw [4, 7] (fun v ix wr => ∃ (k : Nat) (L : List EE) (a' : Option Addr) (c' : Nat) (M : List Int), v = .slice a' k c' ∧ ix = .int .i64 k ∧ k ≤ z.length ∧ L.map EE.x = z.take k ∧ CopR 94 5 cellsE InE w wr B k (.slice a' k c') L ∧ Cut M (Pg.dCat Pg.Ex.dl (z.drop k)).en ∧ Rd lim wr B M (n + (Pg.dCat Pg.Ex.dl (z.take k)).nd) d) (fun _ ix _ => z.length - (intOf ix).toNat)
  case atStart => exact ⟨0, [], none, 0, M, rfl, rfl, Nat.zero_le _, rfl, CopR.start _ _ _ _ G4.out, HM0.out, R4.out⟩
  case round =>
    obtain ⟨k, L, a', c', M1, rfl, rfl, hk, hm, hc, hcM, hr⟩ := hrel
    have HC : Hid (CopR 94 5 cellsE InE w wr B k (.slice a' k c') L) := hc
    have HM : Hid (L.map EE.x = z.take k) := hm
    clear hm
    have hkn : k < z.length := by
      by_cases hkn : k < z.length
      · exact hkn
      · obtain rfl : k = z.length := by omega
        rw [List.drop_length] at hcM
        exact (cut_nil hcM).elim
    have hkn' : (k : Int) < z.length := by omega
    have hlen := hc.len
    have hsz := hc.gr.size
    obtain ⟨y1, y2, _, _⟩ := Pg.dCat_le Pg.Ex.dl z (k + 1)
    have hsc := Pg.dCat_succ Pg.Ex.dl hkn
    rw [hsc] at y1 y2
    simp only [Pg.Dl.app] at y1 y2
    have HS : Hid (n + (Pg.dCat Pg.Ex.dl (z.take (k + 1))).nd = n + (Pg.dCat Pg.Ex.dl (z.take k)).nd + (Pg.Ex.dl z[k]).nd) := by show _ = _; rw [hsc]; simp only [Pg.Dl.app]; omega
    have HT : Hid (z.take (k + 1) = z.take k ++ [z[k]]) := List.take_succ_eq_append_getElem hkn
    have hdr := Pg.dCat_drop Pg.Ex.dl hkn
    rw [hdr] at hcM
    simp only [Pg.Dl.app] at hcM
    rcases cut_cases hcM with h1 | ⟨M2, hM2, h2⟩
    · have HE : Hid (Calls Try.prog 104 #[.pointer (some ⟨B, 0, none⟩)] wr fun e w' => e = faults 80 ∧ wr.grownBy w' (some B)) := (HI.out z[k] (List.getElem_mem hkn)).2 lim wr B M1 (n + (Pg.dCat Pg.Ex.dl (z.take k)).nd) d hr h1 (by omega) (by omega) (by omega)
      have HG : Hid (w.grownBy wr (some B)) := hc.gr
      clear hc hr hsc hdr y1 y2 hcM h1 HS HT
      go_wp2_with (go_at_call 104; refine HE.out.mono ?_; rintro e w5 ⟨rfl, g5⟩; have G5 : Hid (wr.grownBy w5 (some B)) := g5; clear g5 HE)
      exact ⟨rfl, rfl, grown_trans HG.out G5.out⟩
    · rw [hM2] at hr
      have HE := (HI.out z[k] (List.getElem_mem hkn)).1 lim wr B M2 (n + (Pg.dCat Pg.Ex.dl (z.take k)).nd) d hr (by omega) (by omega) (by omega)
      have HCM : Hid (Cut M2 (Pg.dCat Pg.Ex.dl (z.drop (k + 1))).en) := h2
      clear hc hr hsc hdr y1 y2 hcM h2 hM2
      have HRx : Hid (R64 z[k].n ∧ z[k].s.size ≤ reachBytes) := HRX.out _ (List.getElem_mem hkn)
      generalize z[k] = x at *
      have HE : Hid (Calls Try.prog 104 #[.pointer (some ⟨B, 0, none⟩)] wr fun e w' => ∃ a1 k1, e = .returned (.agg #[.int .i64 x.op, .int .i64 x.t, .int .i64 x.n, .string x.s, .slice a1 x.args.length k1]) ∧ ExL (Fresh wr w') w' a1 k1 x.args ∧ Rd lim w' B (M2) (n + (Pg.dCat Pg.Ex.dl (z.take k)).nd + (Pg.Ex.dl x).nd) d ∧ wr.grownBy w' (some B)) := HE
      go_wp2_with (first
        | (go_at_call 104; refine HE.out.mono ?_; rintro e w5 ⟨a5, c5, rfl, n5, h5, g5⟩; have N5 : Hid (InE (fun q => wr.heap.size ≤ q ∧ q < w5.heap.size) w5 ⟨x, a5, c5⟩) := ⟨n5, HRx.out⟩; have R5 : Hid (Rd lim w5 B (M2) (n + (Pg.dCat Pg.Ex.dl (z.take k)).nd + (Pg.Ex.dl x).nd) d) := h5; have G5 : Hid (wr.grownBy w5 (some B)) := g5; have hs5 := g5.size; clear h5 g5 HE n5)
        | (at_builtin; refine wp_appEx rfl _ _ rfl w.heap.size (.slice a' k c') L ⟨x, a5, c5⟩ (by rw [← hlen]; rfl) (World.ownsRow.kept HC.out.own G5.out (by rw [← hlen]; rcases HC.out.own.2 with ⟨e, _⟩ | ⟨g, cap, cur, e, hb, _⟩; exact .inl (by rw [hlen, e]; rfl); exact .inr (by rw [hlen, e]; simp [Value.ownBlock]; omega))) rfl rfl (by omega) (by omega) ?_; intro v6 w6 o6 g6 b6; have K6' := CopR.step (In := InE) @inE_ch HC.out hB G5.out N5.out o6 g6 b6; obtain ⟨a6, c6, rfl⟩ := K6'.slice; have K6 : Hid (CopR 94 5 cellsE InE w w6 B (k + 1) (.slice a6 (k + 1) c6) (L ++ [⟨x, a5, c5⟩])) := K6'; have R6 : Hid (Rd lim w6 B (M2) (n + (Pg.dCat Pg.Ex.dl (z.take k)).nd + (Pg.Ex.dl x).nd) d) := (R5.out.app g6 (fun q hq => (by have := World.ownsRow.lt HC.out.own q hq; exact ⟨by omega, by omega⟩))); clear o6 g6 b6 K6'))
      go_roundw
      case rel => exact ⟨k + 1, L ++ [⟨x, a5, c5⟩], a6, c6, M2, rfl, by go_num, by omega, by rw [List.map_append, HM.out, HT.out]; rfl, K6.out, HCM.out, by rw [HS.out]; exact R6.out⟩
      case measure => simp [intOf]; omega
set_option maxRecDepth 100000 in
set_option maxHeartbeats 16000000 in
theorem term_rd (x : Pg.Ex) (hx : ExOk x) (hrx : ∀ y, y ∈ x.args → R64 y.n ∧ y.s.size ≤ reachBytes) (hpos : ∀ y, y ∈ x.args → 1 ≤ y.dl.en.length) (ih : ∀ y, y ∈ x.args → TermRd y ∧ TermCut y) : TermRd x := by
  intro lim w B R n d h hlim hn hd
  obtain ⟨q1, q2, q3, q4, q5, q6⟩ := Pg.Ex.parts2 x hx.1
  have qn : R64 x.n := by have := hx.2.1; cases this with | mk rg _ => exact rg
  obtain ⟨en, ed⟩ := Pg.Ex.nd_eq x
  rw [en] at hn
  rw [ed] at hd
  have EN : Hid (x.dl.nd = (Pg.dCat Pg.Ex.dl x.args).nd + 1) := en
  have HI : Hid (∀ y, y ∈ x.args → TermRd y ∧ TermCut y) := ih
  have HPos : Hid (∀ y, y ∈ x.args → 1 ≤ y.dl.en.length) := hpos
  have HRX : Hid (∀ y, y ∈ x.args → R64 y.n ∧ y.s.size ≤ reachBytes) := hrx
  clear ih hpos hrx hx en ed
  have hB := h.lt
  have hPB : w.heap.size ≠ B := by omega
  have g1 : w.grownBy (w.alloc (.cells #[.int .i64 0, .int .i64 0, .int .i64 0, .string ⟨#[]⟩, .slice none 0 0] 94)) none := World.grownBy_alloc _ _ _
  have HG1 : Hid (w.grownBy (w.alloc (.cells #[.int .i64 0, .int .i64 0, .int .i64 0, .string ⟨#[]⟩, .slice none 0 0] 94)) none) := g1
  have Q : Hid ((w.alloc (.cells #[.int .i64 0, .int .i64 0, .int .i64 0, .string ⟨#[]⟩, .slice none 0 0] 94)).heap[w.heap.size]? = some (.cells #[.int .i64 0, .int .i64 0, .int .i64 0, .string ⟨#[]⟩, .slice none 0 0] 94)) := heap_alloc_new w _
  rw [show x.dl.en ++ R = ((Pg.dCnt x.op).en) ++ (((Pg.dCnt x.t).en) ++ (((Pg.dNum x.n).en) ++ (((Pg.dCnt (x.s.size : Int)).en ++ Pg.txt x.s) ++ (((Pg.dCnt (x.args.length : Int)).en ++ (Pg.dCat Pg.Ex.dl x.args).en) ++ (R))))) from by rw [q6]; simp only [List.append_assoc]] at h
  have HB : Hid (Calls Try.prog 101 #[.pointer (some ⟨B, 0, none⟩)] (w.alloc (.cells #[.int .i64 0, .int .i64 0, .int .i64 0, .string ⟨#[]⟩, .slice none 0 0] 94)) fun e w' => e = .returned (.tuple #[]) ∧ Rd lim w' B (((Pg.dCnt x.op).en) ++ (((Pg.dCnt x.t).en) ++ (((Pg.dNum x.n).en) ++ (((Pg.dCnt (x.s.size : Int)).en ++ Pg.txt x.s) ++ (((Pg.dCnt (x.args.length : Int)).en ++ (Pg.dCat Pg.Ex.dl x.args).en) ++ (R)))))) (n + 1) (d + 1) ∧ (w.alloc (.cells #[.int .i64 0, .int .i64 0, .int .i64 0, .string ⟨#[]⟩, .slice none 0 0] 94)).grownBy w' (some B)) := rbegin_ok (h.grow g1) (by omega) (by omega)
  clear h g1
  go_enter Try.func104, Try.ntmps104
  go_wp2_with (first
    | (go_at_call 101; refine HB.out.mono ?_; rintro e w0 ⟨rfl, h0, g0⟩; have Q0 : Hid (w0.heap[w.heap.size]? = some (.cells #[.int .i64 0, .int .i64 0, .int .i64 0, .string ⟨#[]⟩, .slice none 0 0] 94)) := ((g0.block _ (Array.getElem?_eq_some_iff.1 Q.out).1 (by simp; omega)).trans Q.out); have G0 : Hid (Ch w w0 [B]) := ((Ch.of HG1.out).trans (Ch.one g0 (by simp))); have HC0 : Hid (Calls Try.prog 92 #[.pointer (some ⟨B, 0, none⟩)] w0 fun e w' => e = .returned (.int .i64 x.op) ∧ Rd lim w' B (((Pg.dCnt x.t).en) ++ (((Pg.dNum x.n).en) ++ (((Pg.dCnt (x.s.size : Int)).en ++ Pg.txt x.s) ++ (((Pg.dCnt (x.args.length : Int)).en ++ (Pg.dCat Pg.Ex.dl x.args).en) ++ (R))))) (n + 1) (d + 1) ∧ w0.grownBy w' (some B)) := (by have hh := h0; have hs9 := (G0.out : Ch w w0 [B]).size; exact rcount_ok q1 hh); clear h0 g0 HB)
    | (go_at_call 92; refine HC0.out.mono ?_; rintro e w1 ⟨rfl, hh, gg⟩; have T1 : Hid (w1.heap[w.heap.size]? = some (.cells #[.int .i64 0, .int .i64 0, .int .i64 0, .string ⟨#[]⟩, .slice none 0 0] 94)) := ((gg.block _ (Array.getElem?_eq_some_iff.1 Q0.out).1 (by simp; omega)).trans Q0.out); have S1 : Hid ((w1.setCell ⟨w.heap.size, 0, none⟩ (.int .i64 x.op)).heap[w.heap.size]? = some (.cells #[.int .i64 x.op, .int .i64 0, .int .i64 0, .string ⟨#[]⟩, .slice none 0 0] 94)) := rset T1.out 0 (.int .i64 x.op); have m0 : w1.cell? ⟨w.heap.size, 0, none⟩ = some (.int .i64 0) := rcell T1.out 0; have f0 : w1.frozen? ⟨w.heap.size, 0, none⟩ = false := rfrozen T1.out 0; have G1 : Hid (Ch w (w1.setCell ⟨w.heap.size, 0, none⟩ (.int .i64 x.op)) [B]) := ((G0.out.trans (Ch.one gg (by simp))).new (Nat.le_refl _) (grown_setCell w1 w.heap.size 0 (.int .i64 x.op))); have hk1 := hh.kept (grown_setCell w1 w.heap.size 0 (.int .i64 x.op)) hlim hPB; have HC1 : Hid (Calls Try.prog 92 #[.pointer (some ⟨B, 0, none⟩)] (w1.setCell ⟨w.heap.size, 0, none⟩ (.int .i64 x.op)) fun e w' => e = .returned (.int .i64 x.t) ∧ Rd lim w' B (((Pg.dNum x.n).en) ++ (((Pg.dCnt (x.s.size : Int)).en ++ Pg.txt x.s) ++ (((Pg.dCnt (x.args.length : Int)).en ++ (Pg.dCat Pg.Ex.dl x.args).en) ++ (R)))) (n + 1) (d + 1) ∧ (w1.setCell ⟨w.heap.size, 0, none⟩ (.int .i64 x.op)).grownBy w' (some B)) := (by have hh := hk1; have hs9 := (G1.out : Ch w (w1.setCell ⟨w.heap.size, 0, none⟩ (.int .i64 x.op)) [B]).size; exact rcount_ok q2 hh); clear hh gg hk1 HC0)
    | (go_at_call 92; refine HC1.out.mono ?_; rintro e w2 ⟨rfl, hh, gg⟩; have T2 : Hid (w2.heap[w.heap.size]? = some (.cells #[.int .i64 x.op, .int .i64 0, .int .i64 0, .string ⟨#[]⟩, .slice none 0 0] 94)) := ((gg.block _ (Array.getElem?_eq_some_iff.1 S1.out).1 (by simp; omega)).trans S1.out); have S2 : Hid ((w2.setCell ⟨w.heap.size, 1, none⟩ (.int .i64 x.t)).heap[w.heap.size]? = some (.cells #[.int .i64 x.op, .int .i64 x.t, .int .i64 0, .string ⟨#[]⟩, .slice none 0 0] 94)) := rset T2.out 1 (.int .i64 x.t); have m1 : w2.cell? ⟨w.heap.size, 1, none⟩ = some (.int .i64 0) := rcell T2.out 1; have f1 : w2.frozen? ⟨w.heap.size, 1, none⟩ = false := rfrozen T2.out 1; have G2 : Hid (Ch w (w2.setCell ⟨w.heap.size, 1, none⟩ (.int .i64 x.t)) [B]) := ((G1.out.trans (Ch.one gg (by simp))).new (Nat.le_refl _) (grown_setCell w2 w.heap.size 1 (.int .i64 x.t))); have hk2 := hh.kept (grown_setCell w2 w.heap.size 1 (.int .i64 x.t)) hlim hPB; have HC2 : Hid (Calls Try.prog 102 #[.pointer (some ⟨B, 0, none⟩)] (w2.setCell ⟨w.heap.size, 1, none⟩ (.int .i64 x.t)) fun e w' => e = .returned (.int .i64 x.n) ∧ Rd lim w' B (((Pg.dCnt (x.s.size : Int)).en ++ Pg.txt x.s) ++ (((Pg.dCnt (x.args.length : Int)).en ++ (Pg.dCat Pg.Ex.dl x.args).en) ++ (R))) (n + 1) (d + 1) ∧ (w2.setCell ⟨w.heap.size, 1, none⟩ (.int .i64 x.t)).grownBy w' (some B)) := (by have hh := hk2; have hs9 := (G2.out : Ch w (w2.setCell ⟨w.heap.size, 1, none⟩ (.int .i64 x.t)) [B]).size; exact rnumber_ok qn hh); clear hh gg hk2 HC1)
    | (go_at_call 102; refine HC2.out.mono ?_; rintro e w3 ⟨rfl, hh, gg⟩; have T3 : Hid (w3.heap[w.heap.size]? = some (.cells #[.int .i64 x.op, .int .i64 x.t, .int .i64 0, .string ⟨#[]⟩, .slice none 0 0] 94)) := ((gg.block _ (Array.getElem?_eq_some_iff.1 S2.out).1 (by simp; omega)).trans S2.out); have S3 : Hid ((w3.setCell ⟨w.heap.size, 2, none⟩ (.int .i64 x.n)).heap[w.heap.size]? = some (.cells #[.int .i64 x.op, .int .i64 x.t, .int .i64 x.n, .string ⟨#[]⟩, .slice none 0 0] 94)) := rset T3.out 2 (.int .i64 x.n); have m2 : w3.cell? ⟨w.heap.size, 2, none⟩ = some (.int .i64 0) := rcell T3.out 2; have f2 : w3.frozen? ⟨w.heap.size, 2, none⟩ = false := rfrozen T3.out 2; have G3 : Hid (Ch w (w3.setCell ⟨w.heap.size, 2, none⟩ (.int .i64 x.n)) [B]) := ((G2.out.trans (Ch.one gg (by simp))).new (Nat.le_refl _) (grown_setCell w3 w.heap.size 2 (.int .i64 x.n))); have hk3 := hh.kept (grown_setCell w3 w.heap.size 2 (.int .i64 x.n)) hlim hPB; have HC3 : Hid (Calls Try.prog 110 #[.pointer (some ⟨B, 0, none⟩)] (w3.setCell ⟨w.heap.size, 2, none⟩ (.int .i64 x.n)) fun e w' => e = .returned (.string x.s) ∧ Rd lim w' B (((Pg.dCnt (x.args.length : Int)).en ++ (Pg.dCat Pg.Ex.dl x.args).en) ++ (R)) (n + 1) (d + 1) ∧ (w3.setCell ⟨w.heap.size, 2, none⟩ (.int .i64 x.n)).grownBy w' (some B)) := (by have hh := hk3; have hs9 := (G3.out : Ch w (w3.setCell ⟨w.heap.size, 2, none⟩ (.int .i64 x.n)) [B]).size; exact rtext_ok q3 (by rw [List.append_assoc] at hh; exact hh)); clear hh gg hk3 HC2)
    | (go_at_call 110; refine HC3.out.mono ?_; rintro e w4 ⟨rfl, hh, gg⟩; have T4 : Hid (w4.heap[w.heap.size]? = some (.cells #[.int .i64 x.op, .int .i64 x.t, .int .i64 x.n, .string ⟨#[]⟩, .slice none 0 0] 94)) := ((gg.block _ (Array.getElem?_eq_some_iff.1 S3.out).1 (by simp; omega)).trans S3.out); have S4 : Hid ((w4.setCell ⟨w.heap.size, 3, none⟩ (.string x.s)).heap[w.heap.size]? = some (.cells #[.int .i64 x.op, .int .i64 x.t, .int .i64 x.n, .string x.s, .slice none 0 0] 94)) := rset T4.out 3 (.string x.s); have m3 : w4.cell? ⟨w.heap.size, 3, none⟩ = some (.string ⟨#[]⟩) := rcell T4.out 3; have f3 : w4.frozen? ⟨w.heap.size, 3, none⟩ = false := rfrozen T4.out 3; have G4 : Hid (Ch w (w4.setCell ⟨w.heap.size, 3, none⟩ (.string x.s)) [B]) := ((G3.out.trans (Ch.one gg (by simp))).new (Nat.le_refl _) (grown_setCell w4 w.heap.size 3 (.string x.s))); have hk4 := hh.kept (grown_setCell w4 w.heap.size 3 (.string x.s)) hlim hPB; have HC4 : Hid (Calls Try.prog 103 #[.pointer (some ⟨B, 0, none⟩), .func (.func 104) #[.pointer (some ⟨B, 0, none⟩)] #[]] (w4.setCell ⟨w.heap.size, 3, none⟩ (.string x.s)) fun e w' => ∃ a1 k1, e = .returned (.slice a1 x.args.length k1) ∧ ExL (Fresh (w4.setCell ⟨w.heap.size, 3, none⟩ (.string x.s)) w') w' a1 k1 x.args ∧ Rd lim w' B (R) (n + 1 + (Pg.dCat Pg.Ex.dl x.args).nd) (d + 1) ∧ (w4.setCell ⟨w.heap.size, 3, none⟩ (.string x.s)).grownBy w' (some B)) := (by have hh := hk4; have hs9 := (G4.out : Ch w (w4.setCell ⟨w.heap.size, 3, none⟩ (.string x.s)) [B]).size; exact rEs_ok hh (by omega) (by omega) (by omega) q4 HPos.out HRX.out (fun y hy => (HI.out y hy).1)); clear hh gg hk4 HC3)
    | (go_at_call 103; refine HC4.out.mono ?_; rintro e w5 ⟨a1, k1, rfl, hrow, hh, gg⟩; have T5 : Hid (w5.heap[w.heap.size]? = some (.cells #[.int .i64 x.op, .int .i64 x.t, .int .i64 x.n, .string x.s, .slice none 0 0] 94)) := ((gg.block _ (Array.getElem?_eq_some_iff.1 S4.out).1 (by simp; omega)).trans S4.out); have S5 : Hid ((w5.setCell ⟨w.heap.size, 4, none⟩ (.slice a1 x.args.length k1)).heap[w.heap.size]? = some (.cells #[.int .i64 x.op, .int .i64 x.t, .int .i64 x.n, .string x.s, .slice a1 x.args.length k1] 94)) := rset T5.out 4 (.slice a1 x.args.length k1); have m4 : w5.cell? ⟨w.heap.size, 4, none⟩ = some (.slice none 0 0) := rcell T5.out 4; have f4 : w5.frozen? ⟨w.heap.size, 4, none⟩ = false := rfrozen T5.out 4; have G5 : Hid (Ch w (w5.setCell ⟨w.heap.size, 4, none⟩ (.slice a1 x.args.length k1)) [B]) := ((G4.out.trans (Ch.one gg (by simp))).new (Nat.le_refl _) (grown_setCell w5 w.heap.size 4 (.slice a1 x.args.length k1))); have hk5 := hh.kept (grown_setCell w5 w.heap.size 4 (.slice a1 x.args.length k1)) hlim hPB; have RW4 : Hid (ExL (Fresh (w4.setCell ⟨w.heap.size, 3, none⟩ (.string x.s)) w5) w5 a1 k1 x.args) := hrow; have sz4 : w.heap.size + 1 ≤ (w4.setCell ⟨w.heap.size, 3, none⟩ (.string x.s)).heap.size := (by have := (Array.getElem?_eq_some_iff.1 S4.out).1; omega); have CB4 : Hid (Ch w5 (w5.setCell ⟨w.heap.size, 4, none⟩ (.slice a1 x.args.length k1)) [B, w.heap.size]) := Ch.one (grown_setCell w5 w.heap.size 4 (.slice a1 x.args.length k1)) (by simp); have HEn : Hid (Calls Try.prog 105 #[.pointer (some ⟨B, 0, none⟩)] (w5.setCell ⟨w.heap.size, 4, none⟩ (.slice a1 x.args.length k1)) fun e w' => e = .returned (.tuple #[]) ∧ Rd lim w' B (R) (n + 1 + (Pg.dCat Pg.Ex.dl x.args).nd) d ∧ (w5.setCell ⟨w.heap.size, 4, none⟩ (.slice a1 x.args.length k1)).grownBy w' (some B)) := (rend_ok hk5 (by omega)); clear hh gg hk5 HC4 hrow)
    | (go_at_call 105; refine HEn.out.mono ?_; rintro e w8 ⟨rfl, hh, gg⟩; have HKN : Hid (Rd lim w8 B (R) (n + 1 + (Pg.dCat Pg.Ex.dl x.args).nd) d) := hh; have T9 : Hid (w8.heap[w.heap.size]? = some (.cells #[.int .i64 x.op, .int .i64 x.t, .int .i64 x.n, .string x.s, .slice a1 x.args.length k1] 94)) := ((gg.block _ (Array.getElem?_eq_some_iff.1 S5.out).1 (by simp; omega)).trans S5.out); have G9 : Hid (Ch w w8 [B]) := (G5.out.trans (Ch.one gg (by simp))); have e0 : w8.cell? ⟨w.heap.size, 0, none⟩ = some (.int .i64 x.op) := rcell T9.out 0; have z0 : w8.frozen? ⟨w.heap.size, 0, none⟩ = false := rfrozen T9.out 0; have e1 : w8.cell? ⟨w.heap.size, 1, none⟩ = some (.int .i64 x.t) := rcell T9.out 1; have z1 : w8.frozen? ⟨w.heap.size, 1, none⟩ = false := rfrozen T9.out 1; have e2 : w8.cell? ⟨w.heap.size, 2, none⟩ = some (.int .i64 x.n) := rcell T9.out 2; have z2 : w8.frozen? ⟨w.heap.size, 2, none⟩ = false := rfrozen T9.out 2; have e3 : w8.cell? ⟨w.heap.size, 3, none⟩ = some (.string x.s) := rcell T9.out 3; have z3 : w8.frozen? ⟨w.heap.size, 3, none⟩ = false := rfrozen T9.out 3; have CB4 : Hid (Ch w5 w8 [B, w.heap.size]) := CB4.out.trans (Ch.one gg (by simp)); have e4 : w8.cell? ⟨w.heap.size, 4, none⟩ = some (.slice a1 x.args.length k1) := rcell T9.out 4; have z4 : w8.frozen? ⟨w.heap.size, 4, none⟩ = false := rfrozen T9.out 4; clear hh gg HEn))
  have P7 := (rset (rset (rset (rset (rset T9.out 0 (.int .i64 x.op)) 1 (.int .i64 x.t)) 2 (.int .i64 x.n)) 3 (.string x.s)) 4 (.slice a1 x.args.length k1))
  have G7 := (((((G9.out.new (Nat.le_refl _) (grown_setCell w8 w.heap.size 0 (.int .i64 x.op))).new (Nat.le_refl _) (grown_setCell (w8.setCell ⟨w.heap.size, 0, none⟩ (.int .i64 x.op)) w.heap.size 1 (.int .i64 x.t))).new (Nat.le_refl _) (grown_setCell ((w8.setCell ⟨w.heap.size, 0, none⟩ (.int .i64 x.op)).setCell ⟨w.heap.size, 1, none⟩ (.int .i64 x.t)) w.heap.size 2 (.int .i64 x.n))).new (Nat.le_refl _) (grown_setCell (((w8.setCell ⟨w.heap.size, 0, none⟩ (.int .i64 x.op)).setCell ⟨w.heap.size, 1, none⟩ (.int .i64 x.t)).setCell ⟨w.heap.size, 2, none⟩ (.int .i64 x.n)) w.heap.size 3 (.string x.s))).new (Nat.le_refl _) (grown_setCell ((((w8.setCell ⟨w.heap.size, 0, none⟩ (.int .i64 x.op)).setCell ⟨w.heap.size, 1, none⟩ (.int .i64 x.t)).setCell ⟨w.heap.size, 2, none⟩ (.int .i64 x.n)).setCell ⟨w.heap.size, 3, none⟩ (.string x.s)) w.heap.size 4 (.slice a1 x.args.length k1)))
  have R7 := (((((HKN.out.kept (grown_setCell w8 w.heap.size 0 (.int .i64 x.op)) hlim hPB).kept (grown_setCell (w8.setCell ⟨w.heap.size, 0, none⟩ (.int .i64 x.op)) w.heap.size 1 (.int .i64 x.t)) hlim hPB).kept (grown_setCell ((w8.setCell ⟨w.heap.size, 0, none⟩ (.int .i64 x.op)).setCell ⟨w.heap.size, 1, none⟩ (.int .i64 x.t)) w.heap.size 2 (.int .i64 x.n)) hlim hPB).kept (grown_setCell (((w8.setCell ⟨w.heap.size, 0, none⟩ (.int .i64 x.op)).setCell ⟨w.heap.size, 1, none⟩ (.int .i64 x.t)).setCell ⟨w.heap.size, 2, none⟩ (.int .i64 x.n)) w.heap.size 3 (.string x.s)) hlim hPB).kept (grown_setCell ((((w8.setCell ⟨w.heap.size, 0, none⟩ (.int .i64 x.op)).setCell ⟨w.heap.size, 1, none⟩ (.int .i64 x.t)).setCell ⟨w.heap.size, 2, none⟩ (.int .i64 x.n)).setCell ⟨w.heap.size, 3, none⟩ (.string x.s)) w.heap.size 4 (.slice a1 x.args.length k1)) hlim hPB)
  have B7 := ((((((Ch.refl w8 [B, w.heap.size]).trans (Ch.one (grown_setCell w8 w.heap.size 0 (.int .i64 x.op)) (by simp))).trans (Ch.one (grown_setCell (w8.setCell ⟨w.heap.size, 0, none⟩ (.int .i64 x.op)) w.heap.size 1 (.int .i64 x.t)) (by simp))).trans (Ch.one (grown_setCell ((w8.setCell ⟨w.heap.size, 0, none⟩ (.int .i64 x.op)).setCell ⟨w.heap.size, 1, none⟩ (.int .i64 x.t)) w.heap.size 2 (.int .i64 x.n)) (by simp))).trans (Ch.one (grown_setCell (((w8.setCell ⟨w.heap.size, 0, none⟩ (.int .i64 x.op)).setCell ⟨w.heap.size, 1, none⟩ (.int .i64 x.t)).setCell ⟨w.heap.size, 2, none⟩ (.int .i64 x.n)) w.heap.size 3 (.string x.s)) (by simp))).trans (Ch.one (grown_setCell ((((w8.setCell ⟨w.heap.size, 0, none⟩ (.int .i64 x.op)).setCell ⟨w.heap.size, 1, none⟩ (.int .i64 x.t)).setCell ⟨w.heap.size, 2, none⟩ (.int .i64 x.n)).setCell ⟨w.heap.size, 3, none⟩ (.string x.s)) w.heap.size 4 (.slice a1 x.args.length k1)) (by simp)))
  have X4 : ExL (Fresh w (((((w8.setCell ⟨w.heap.size, 0, none⟩ (.int .i64 x.op)).setCell ⟨w.heap.size, 1, none⟩ (.int .i64 x.t)).setCell ⟨w.heap.size, 2, none⟩ (.int .i64 x.n)).setCell ⟨w.heap.size, 3, none⟩ (.string x.s)).setCell ⟨w.heap.size, 4, none⟩ (.slice a1 x.args.length k1))) (((((w8.setCell ⟨w.heap.size, 0, none⟩ (.int .i64 x.op)).setCell ⟨w.heap.size, 1, none⟩ (.int .i64 x.t)).setCell ⟨w.heap.size, 2, none⟩ (.int .i64 x.n)).setCell ⟨w.heap.size, 3, none⟩ (.string x.s)).setCell ⟨w.heap.size, 4, none⟩ (.slice a1 x.args.length k1)) a1 k1 x.args := ExL.ch RW4.out (CB4.out.trans B7) (fun q hq => by have h1 := hq.1; have h2 := sz4; simp; omega) (fun q hq => ⟨by have h1 := hq.1; have h2 := sz4; omega, by have h1 := hq.2; have h2 := (CB4.out.trans B7).size; omega⟩)
  generalize (((((w8.setCell ⟨w.heap.size, 0, none⟩ (.int .i64 x.op)).setCell ⟨w.heap.size, 1, none⟩ (.int .i64 x.t)).setCell ⟨w.heap.size, 2, none⟩ (.int .i64 x.n)).setCell ⟨w.heap.size, 3, none⟩ (.string x.s)).setCell ⟨w.heap.size, 4, none⟩ (.slice a1 x.args.length k1)) = W9 at *
  have r0 : W9.cell? ⟨w.heap.size, 0, none⟩ = some (.int .i64 x.op) := rcell P7 0
  have r1 : W9.cell? ⟨w.heap.size, 1, none⟩ = some (.int .i64 x.t) := rcell P7 1
  have r2 : W9.cell? ⟨w.heap.size, 2, none⟩ = some (.int .i64 x.n) := rcell P7 2
  have r3 : W9.cell? ⟨w.heap.size, 3, none⟩ = some (.string x.s) := rcell P7 3
  have r4 : W9.cell? ⟨w.heap.size, 4, none⟩ = some (.slice a1 x.args.length k1) := rcell P7 4
  refine bodyPost_ret (by simp [results, Try.results104, go_sem, r0, r1, r2, r3, r4]; try rfl) rfl ?_
  exact ⟨a1, k1, rfl, X4, by rw [EN.out]; have := R7; rw [show n + 1 + (Pg.dCat Pg.Ex.dl x.args).nd = n + ((Pg.dCat Pg.Ex.dl x.args).nd + 1) from by omega] at this; exact this, ⟨G7.os, G7.tape, G7.output, G7.size, fun k hk hne => G7.block k hk (by simpa using hne)⟩⟩
set_option maxRecDepth 100000 in
set_option maxHeartbeats 16000000 in
theorem term_cut (x : Pg.Ex) (hx : ExOk x) (hrx : ∀ y, y ∈ x.args → R64 y.n ∧ y.s.size ≤ reachBytes) (hpos : ∀ y, y ∈ x.args → 1 ≤ y.dl.en.length) (ih : ∀ y, y ∈ x.args → TermRd y ∧ TermCut y) : TermCut x := by
  intro lim w B M n d h hc hlim hn hd
  obtain ⟨q1, q2, q3, q4, q5, q6⟩ := Pg.Ex.parts2 x hx.1
  have qn : R64 x.n := by have := hx.2.1; cases this with | mk rg _ => exact rg
  obtain ⟨en, ed⟩ := Pg.Ex.nd_eq x
  rw [en] at hn
  rw [ed] at hd
  have EN : Hid (x.dl.nd = (Pg.dCat Pg.Ex.dl x.args).nd + 1) := en
  have HI : Hid (∀ y, y ∈ x.args → TermRd y ∧ TermCut y) := ih
  have HPos : Hid (∀ y, y ∈ x.args → 1 ≤ y.dl.en.length) := hpos
  have HRX : Hid (∀ y, y ∈ x.args → R64 y.n ∧ y.s.size ≤ reachBytes) := hrx
  clear ih hpos hrx hx en ed
  have hB := h.lt
  have hPB : w.heap.size ≠ B := by omega
  have g1 : w.grownBy (w.alloc (.cells #[.int .i64 0, .int .i64 0, .int .i64 0, .string ⟨#[]⟩, .slice none 0 0] 94)) none := World.grownBy_alloc _ _ _
  have HG1 : Hid (w.grownBy (w.alloc (.cells #[.int .i64 0, .int .i64 0, .int .i64 0, .string ⟨#[]⟩, .slice none 0 0] 94)) none) := g1
  have Q : Hid ((w.alloc (.cells #[.int .i64 0, .int .i64 0, .int .i64 0, .string ⟨#[]⟩, .slice none 0 0] 94)).heap[w.heap.size]? = some (.cells #[.int .i64 0, .int .i64 0, .int .i64 0, .string ⟨#[]⟩, .slice none 0 0] 94)) := heap_alloc_new w _
  rw [q6] at hc
  rcases cut_cases hc with hcut | ⟨M1, eM1, hc⟩
  · have HCUT : Hid (Cut M ((Pg.dCnt x.op).en)) := hcut
    have HB : Hid (Calls Try.prog 101 #[.pointer (some ⟨B, 0, none⟩)] (w.alloc (.cells #[.int .i64 0, .int .i64 0, .int .i64 0, .string ⟨#[]⟩, .slice none 0 0] 94)) fun e w' => e = .returned (.tuple #[]) ∧ Rd lim w' B (M) (n + 1) (d + 1) ∧ (w.alloc (.cells #[.int .i64 0, .int .i64 0, .int .i64 0, .string ⟨#[]⟩, .slice none 0 0] 94)).grownBy w' (some B)) := rbegin_ok (h.grow g1) (by omega) (by omega)
    clear h g1 hcut
    go_enter Try.func104, Try.ntmps104
    go_wp2_with (first
      | (go_at_call 101; refine HB.out.mono ?_; rintro e w0 ⟨rfl, h0, g0⟩; have Q0 : Hid (w0.heap[w.heap.size]? = some (.cells #[.int .i64 0, .int .i64 0, .int .i64 0, .string ⟨#[]⟩, .slice none 0 0] 94)) := ((g0.block _ (Array.getElem?_eq_some_iff.1 Q.out).1 (by simp; omega)).trans Q.out); have G0 : Hid (Ch w w0 [B]) := ((Ch.of HG1.out).trans (Ch.one g0 (by simp))); have HC0 : Hid (Calls Try.prog 92 #[.pointer (some ⟨B, 0, none⟩)] w0 fun e w' => e = faults 80 ∧ w0.grownBy w' (some B)) := (by have hh := h0; have hs9 := (G0.out : Ch w w0 [B]).size; exact rcount_cut q1 HCUT.out hh); clear h0 g0 HB)
      | (go_at_call 92; refine HC0.out.mono ?_; rintro e w9 ⟨rfl, gg⟩; have G9 : Hid (Ch w w9 [B]) := (G0.out.trans (Ch.one gg (by simp))); clear gg HC0))
    exact ⟨rfl, rfl, ⟨G9.out.os, G9.out.tape, G9.out.output, G9.out.size, fun k hk hne => G9.out.block k hk (by simpa using hne)⟩⟩
  rcases cut_cases hc with hcut | ⟨M2, eM2, hc⟩
  · rw [eM1] at h
    have HCUT : Hid (Cut M1 ((Pg.dCnt x.t).en)) := hcut
    have HB : Hid (Calls Try.prog 101 #[.pointer (some ⟨B, 0, none⟩)] (w.alloc (.cells #[.int .i64 0, .int .i64 0, .int .i64 0, .string ⟨#[]⟩, .slice none 0 0] 94)) fun e w' => e = .returned (.tuple #[]) ∧ Rd lim w' B (((Pg.dCnt x.op).en) ++ (M1)) (n + 1) (d + 1) ∧ (w.alloc (.cells #[.int .i64 0, .int .i64 0, .int .i64 0, .string ⟨#[]⟩, .slice none 0 0] 94)).grownBy w' (some B)) := rbegin_ok (h.grow g1) (by omega) (by omega)
    clear h g1 hcut
    go_enter Try.func104, Try.ntmps104
    go_wp2_with (first
      | (go_at_call 101; refine HB.out.mono ?_; rintro e w0 ⟨rfl, h0, g0⟩; have Q0 : Hid (w0.heap[w.heap.size]? = some (.cells #[.int .i64 0, .int .i64 0, .int .i64 0, .string ⟨#[]⟩, .slice none 0 0] 94)) := ((g0.block _ (Array.getElem?_eq_some_iff.1 Q.out).1 (by simp; omega)).trans Q.out); have G0 : Hid (Ch w w0 [B]) := ((Ch.of HG1.out).trans (Ch.one g0 (by simp))); have HC0 : Hid (Calls Try.prog 92 #[.pointer (some ⟨B, 0, none⟩)] w0 fun e w' => e = .returned (.int .i64 x.op) ∧ Rd lim w' B (M1) (n + 1) (d + 1) ∧ w0.grownBy w' (some B)) := (by have hh := h0; have hs9 := (G0.out : Ch w w0 [B]).size; exact rcount_ok q1 hh); clear h0 g0 HB)
      | (go_at_call 92; refine HC0.out.mono ?_; rintro e w1 ⟨rfl, hh, gg⟩; have T1 : Hid (w1.heap[w.heap.size]? = some (.cells #[.int .i64 0, .int .i64 0, .int .i64 0, .string ⟨#[]⟩, .slice none 0 0] 94)) := ((gg.block _ (Array.getElem?_eq_some_iff.1 Q0.out).1 (by simp; omega)).trans Q0.out); have S1 : Hid ((w1.setCell ⟨w.heap.size, 0, none⟩ (.int .i64 x.op)).heap[w.heap.size]? = some (.cells #[.int .i64 x.op, .int .i64 0, .int .i64 0, .string ⟨#[]⟩, .slice none 0 0] 94)) := rset T1.out 0 (.int .i64 x.op); have m0 : w1.cell? ⟨w.heap.size, 0, none⟩ = some (.int .i64 0) := rcell T1.out 0; have f0 : w1.frozen? ⟨w.heap.size, 0, none⟩ = false := rfrozen T1.out 0; have G1 : Hid (Ch w (w1.setCell ⟨w.heap.size, 0, none⟩ (.int .i64 x.op)) [B]) := ((G0.out.trans (Ch.one gg (by simp))).new (Nat.le_refl _) (grown_setCell w1 w.heap.size 0 (.int .i64 x.op))); have hk1 := hh.kept (grown_setCell w1 w.heap.size 0 (.int .i64 x.op)) hlim hPB; have HC1 : Hid (Calls Try.prog 92 #[.pointer (some ⟨B, 0, none⟩)] (w1.setCell ⟨w.heap.size, 0, none⟩ (.int .i64 x.op)) fun e w' => e = faults 80 ∧ (w1.setCell ⟨w.heap.size, 0, none⟩ (.int .i64 x.op)).grownBy w' (some B)) := (by have hh := hk1; have hs9 := (G1.out : Ch w (w1.setCell ⟨w.heap.size, 0, none⟩ (.int .i64 x.op)) [B]).size; exact rcount_cut q2 HCUT.out hh); clear hh gg hk1 HC0)
      | (go_at_call 92; refine HC1.out.mono ?_; rintro e w9 ⟨rfl, gg⟩; have G9 : Hid (Ch w w9 [B]) := (G1.out.trans (Ch.one gg (by simp))); clear gg HC1))
    exact ⟨rfl, rfl, ⟨G9.out.os, G9.out.tape, G9.out.output, G9.out.size, fun k hk hne => G9.out.block k hk (by simpa using hne)⟩⟩
  rcases cut_cases hc with hcut | ⟨M3, eM3, hc⟩
  · rw [eM1, eM2] at h
    have HCUT : Hid (Cut M2 ((Pg.dNum x.n).en)) := hcut
    have HB : Hid (Calls Try.prog 101 #[.pointer (some ⟨B, 0, none⟩)] (w.alloc (.cells #[.int .i64 0, .int .i64 0, .int .i64 0, .string ⟨#[]⟩, .slice none 0 0] 94)) fun e w' => e = .returned (.tuple #[]) ∧ Rd lim w' B (((Pg.dCnt x.op).en) ++ (((Pg.dCnt x.t).en) ++ (M2))) (n + 1) (d + 1) ∧ (w.alloc (.cells #[.int .i64 0, .int .i64 0, .int .i64 0, .string ⟨#[]⟩, .slice none 0 0] 94)).grownBy w' (some B)) := rbegin_ok (h.grow g1) (by omega) (by omega)
    clear h g1 hcut
    go_enter Try.func104, Try.ntmps104
    go_wp2_with (first
      | (go_at_call 101; refine HB.out.mono ?_; rintro e w0 ⟨rfl, h0, g0⟩; have Q0 : Hid (w0.heap[w.heap.size]? = some (.cells #[.int .i64 0, .int .i64 0, .int .i64 0, .string ⟨#[]⟩, .slice none 0 0] 94)) := ((g0.block _ (Array.getElem?_eq_some_iff.1 Q.out).1 (by simp; omega)).trans Q.out); have G0 : Hid (Ch w w0 [B]) := ((Ch.of HG1.out).trans (Ch.one g0 (by simp))); have HC0 : Hid (Calls Try.prog 92 #[.pointer (some ⟨B, 0, none⟩)] w0 fun e w' => e = .returned (.int .i64 x.op) ∧ Rd lim w' B (((Pg.dCnt x.t).en) ++ (M2)) (n + 1) (d + 1) ∧ w0.grownBy w' (some B)) := (by have hh := h0; have hs9 := (G0.out : Ch w w0 [B]).size; exact rcount_ok q1 hh); clear h0 g0 HB)
      | (go_at_call 92; refine HC0.out.mono ?_; rintro e w1 ⟨rfl, hh, gg⟩; have T1 : Hid (w1.heap[w.heap.size]? = some (.cells #[.int .i64 0, .int .i64 0, .int .i64 0, .string ⟨#[]⟩, .slice none 0 0] 94)) := ((gg.block _ (Array.getElem?_eq_some_iff.1 Q0.out).1 (by simp; omega)).trans Q0.out); have S1 : Hid ((w1.setCell ⟨w.heap.size, 0, none⟩ (.int .i64 x.op)).heap[w.heap.size]? = some (.cells #[.int .i64 x.op, .int .i64 0, .int .i64 0, .string ⟨#[]⟩, .slice none 0 0] 94)) := rset T1.out 0 (.int .i64 x.op); have m0 : w1.cell? ⟨w.heap.size, 0, none⟩ = some (.int .i64 0) := rcell T1.out 0; have f0 : w1.frozen? ⟨w.heap.size, 0, none⟩ = false := rfrozen T1.out 0; have G1 : Hid (Ch w (w1.setCell ⟨w.heap.size, 0, none⟩ (.int .i64 x.op)) [B]) := ((G0.out.trans (Ch.one gg (by simp))).new (Nat.le_refl _) (grown_setCell w1 w.heap.size 0 (.int .i64 x.op))); have hk1 := hh.kept (grown_setCell w1 w.heap.size 0 (.int .i64 x.op)) hlim hPB; have HC1 : Hid (Calls Try.prog 92 #[.pointer (some ⟨B, 0, none⟩)] (w1.setCell ⟨w.heap.size, 0, none⟩ (.int .i64 x.op)) fun e w' => e = .returned (.int .i64 x.t) ∧ Rd lim w' B (M2) (n + 1) (d + 1) ∧ (w1.setCell ⟨w.heap.size, 0, none⟩ (.int .i64 x.op)).grownBy w' (some B)) := (by have hh := hk1; have hs9 := (G1.out : Ch w (w1.setCell ⟨w.heap.size, 0, none⟩ (.int .i64 x.op)) [B]).size; exact rcount_ok q2 hh); clear hh gg hk1 HC0)
      | (go_at_call 92; refine HC1.out.mono ?_; rintro e w2 ⟨rfl, hh, gg⟩; have T2 : Hid (w2.heap[w.heap.size]? = some (.cells #[.int .i64 x.op, .int .i64 0, .int .i64 0, .string ⟨#[]⟩, .slice none 0 0] 94)) := ((gg.block _ (Array.getElem?_eq_some_iff.1 S1.out).1 (by simp; omega)).trans S1.out); have S2 : Hid ((w2.setCell ⟨w.heap.size, 1, none⟩ (.int .i64 x.t)).heap[w.heap.size]? = some (.cells #[.int .i64 x.op, .int .i64 x.t, .int .i64 0, .string ⟨#[]⟩, .slice none 0 0] 94)) := rset T2.out 1 (.int .i64 x.t); have m1 : w2.cell? ⟨w.heap.size, 1, none⟩ = some (.int .i64 0) := rcell T2.out 1; have f1 : w2.frozen? ⟨w.heap.size, 1, none⟩ = false := rfrozen T2.out 1; have G2 : Hid (Ch w (w2.setCell ⟨w.heap.size, 1, none⟩ (.int .i64 x.t)) [B]) := ((G1.out.trans (Ch.one gg (by simp))).new (Nat.le_refl _) (grown_setCell w2 w.heap.size 1 (.int .i64 x.t))); have hk2 := hh.kept (grown_setCell w2 w.heap.size 1 (.int .i64 x.t)) hlim hPB; have HC2 : Hid (Calls Try.prog 102 #[.pointer (some ⟨B, 0, none⟩)] (w2.setCell ⟨w.heap.size, 1, none⟩ (.int .i64 x.t)) fun e w' => e = faults 80 ∧ (w2.setCell ⟨w.heap.size, 1, none⟩ (.int .i64 x.t)).grownBy w' (some B)) := (by have hh := hk2; have hs9 := (G2.out : Ch w (w2.setCell ⟨w.heap.size, 1, none⟩ (.int .i64 x.t)) [B]).size; exact rnumber_cut qn HCUT.out hh); clear hh gg hk2 HC1)
      | (go_at_call 102; refine HC2.out.mono ?_; rintro e w9 ⟨rfl, gg⟩; have G9 : Hid (Ch w w9 [B]) := (G2.out.trans (Ch.one gg (by simp))); clear gg HC2))
    exact ⟨rfl, rfl, ⟨G9.out.os, G9.out.tape, G9.out.output, G9.out.size, fun k hk hne => G9.out.block k hk (by simpa using hne)⟩⟩
  rcases cut_cases hc with hcut | ⟨M4, eM4, hc⟩
  · rw [eM1, eM2, eM3] at h
    have HCUT : Hid (Cut M3 ((Pg.dCnt (x.s.size : Int)).en ++ Pg.txt x.s)) := hcut
    have HB : Hid (Calls Try.prog 101 #[.pointer (some ⟨B, 0, none⟩)] (w.alloc (.cells #[.int .i64 0, .int .i64 0, .int .i64 0, .string ⟨#[]⟩, .slice none 0 0] 94)) fun e w' => e = .returned (.tuple #[]) ∧ Rd lim w' B (((Pg.dCnt x.op).en) ++ (((Pg.dCnt x.t).en) ++ (((Pg.dNum x.n).en) ++ (M3)))) (n + 1) (d + 1) ∧ (w.alloc (.cells #[.int .i64 0, .int .i64 0, .int .i64 0, .string ⟨#[]⟩, .slice none 0 0] 94)).grownBy w' (some B)) := rbegin_ok (h.grow g1) (by omega) (by omega)
    clear h g1 hcut
    go_enter Try.func104, Try.ntmps104
    go_wp2_with (first
      | (go_at_call 101; refine HB.out.mono ?_; rintro e w0 ⟨rfl, h0, g0⟩; have Q0 : Hid (w0.heap[w.heap.size]? = some (.cells #[.int .i64 0, .int .i64 0, .int .i64 0, .string ⟨#[]⟩, .slice none 0 0] 94)) := ((g0.block _ (Array.getElem?_eq_some_iff.1 Q.out).1 (by simp; omega)).trans Q.out); have G0 : Hid (Ch w w0 [B]) := ((Ch.of HG1.out).trans (Ch.one g0 (by simp))); have HC0 : Hid (Calls Try.prog 92 #[.pointer (some ⟨B, 0, none⟩)] w0 fun e w' => e = .returned (.int .i64 x.op) ∧ Rd lim w' B (((Pg.dCnt x.t).en) ++ (((Pg.dNum x.n).en) ++ (M3))) (n + 1) (d + 1) ∧ w0.grownBy w' (some B)) := (by have hh := h0; have hs9 := (G0.out : Ch w w0 [B]).size; exact rcount_ok q1 hh); clear h0 g0 HB)
      | (go_at_call 92; refine HC0.out.mono ?_; rintro e w1 ⟨rfl, hh, gg⟩; have T1 : Hid (w1.heap[w.heap.size]? = some (.cells #[.int .i64 0, .int .i64 0, .int .i64 0, .string ⟨#[]⟩, .slice none 0 0] 94)) := ((gg.block _ (Array.getElem?_eq_some_iff.1 Q0.out).1 (by simp; omega)).trans Q0.out); have S1 : Hid ((w1.setCell ⟨w.heap.size, 0, none⟩ (.int .i64 x.op)).heap[w.heap.size]? = some (.cells #[.int .i64 x.op, .int .i64 0, .int .i64 0, .string ⟨#[]⟩, .slice none 0 0] 94)) := rset T1.out 0 (.int .i64 x.op); have m0 : w1.cell? ⟨w.heap.size, 0, none⟩ = some (.int .i64 0) := rcell T1.out 0; have f0 : w1.frozen? ⟨w.heap.size, 0, none⟩ = false := rfrozen T1.out 0; have G1 : Hid (Ch w (w1.setCell ⟨w.heap.size, 0, none⟩ (.int .i64 x.op)) [B]) := ((G0.out.trans (Ch.one gg (by simp))).new (Nat.le_refl _) (grown_setCell w1 w.heap.size 0 (.int .i64 x.op))); have hk1 := hh.kept (grown_setCell w1 w.heap.size 0 (.int .i64 x.op)) hlim hPB; have HC1 : Hid (Calls Try.prog 92 #[.pointer (some ⟨B, 0, none⟩)] (w1.setCell ⟨w.heap.size, 0, none⟩ (.int .i64 x.op)) fun e w' => e = .returned (.int .i64 x.t) ∧ Rd lim w' B (((Pg.dNum x.n).en) ++ (M3)) (n + 1) (d + 1) ∧ (w1.setCell ⟨w.heap.size, 0, none⟩ (.int .i64 x.op)).grownBy w' (some B)) := (by have hh := hk1; have hs9 := (G1.out : Ch w (w1.setCell ⟨w.heap.size, 0, none⟩ (.int .i64 x.op)) [B]).size; exact rcount_ok q2 hh); clear hh gg hk1 HC0)
      | (go_at_call 92; refine HC1.out.mono ?_; rintro e w2 ⟨rfl, hh, gg⟩; have T2 : Hid (w2.heap[w.heap.size]? = some (.cells #[.int .i64 x.op, .int .i64 0, .int .i64 0, .string ⟨#[]⟩, .slice none 0 0] 94)) := ((gg.block _ (Array.getElem?_eq_some_iff.1 S1.out).1 (by simp; omega)).trans S1.out); have S2 : Hid ((w2.setCell ⟨w.heap.size, 1, none⟩ (.int .i64 x.t)).heap[w.heap.size]? = some (.cells #[.int .i64 x.op, .int .i64 x.t, .int .i64 0, .string ⟨#[]⟩, .slice none 0 0] 94)) := rset T2.out 1 (.int .i64 x.t); have m1 : w2.cell? ⟨w.heap.size, 1, none⟩ = some (.int .i64 0) := rcell T2.out 1; have f1 : w2.frozen? ⟨w.heap.size, 1, none⟩ = false := rfrozen T2.out 1; have G2 : Hid (Ch w (w2.setCell ⟨w.heap.size, 1, none⟩ (.int .i64 x.t)) [B]) := ((G1.out.trans (Ch.one gg (by simp))).new (Nat.le_refl _) (grown_setCell w2 w.heap.size 1 (.int .i64 x.t))); have hk2 := hh.kept (grown_setCell w2 w.heap.size 1 (.int .i64 x.t)) hlim hPB; have HC2 : Hid (Calls Try.prog 102 #[.pointer (some ⟨B, 0, none⟩)] (w2.setCell ⟨w.heap.size, 1, none⟩ (.int .i64 x.t)) fun e w' => e = .returned (.int .i64 x.n) ∧ Rd lim w' B (M3) (n + 1) (d + 1) ∧ (w2.setCell ⟨w.heap.size, 1, none⟩ (.int .i64 x.t)).grownBy w' (some B)) := (by have hh := hk2; have hs9 := (G2.out : Ch w (w2.setCell ⟨w.heap.size, 1, none⟩ (.int .i64 x.t)) [B]).size; exact rnumber_ok qn hh); clear hh gg hk2 HC1)
      | (go_at_call 102; refine HC2.out.mono ?_; rintro e w3 ⟨rfl, hh, gg⟩; have T3 : Hid (w3.heap[w.heap.size]? = some (.cells #[.int .i64 x.op, .int .i64 x.t, .int .i64 0, .string ⟨#[]⟩, .slice none 0 0] 94)) := ((gg.block _ (Array.getElem?_eq_some_iff.1 S2.out).1 (by simp; omega)).trans S2.out); have S3 : Hid ((w3.setCell ⟨w.heap.size, 2, none⟩ (.int .i64 x.n)).heap[w.heap.size]? = some (.cells #[.int .i64 x.op, .int .i64 x.t, .int .i64 x.n, .string ⟨#[]⟩, .slice none 0 0] 94)) := rset T3.out 2 (.int .i64 x.n); have m2 : w3.cell? ⟨w.heap.size, 2, none⟩ = some (.int .i64 0) := rcell T3.out 2; have f2 : w3.frozen? ⟨w.heap.size, 2, none⟩ = false := rfrozen T3.out 2; have G3 : Hid (Ch w (w3.setCell ⟨w.heap.size, 2, none⟩ (.int .i64 x.n)) [B]) := ((G2.out.trans (Ch.one gg (by simp))).new (Nat.le_refl _) (grown_setCell w3 w.heap.size 2 (.int .i64 x.n))); have hk3 := hh.kept (grown_setCell w3 w.heap.size 2 (.int .i64 x.n)) hlim hPB; have HC3 : Hid (Calls Try.prog 110 #[.pointer (some ⟨B, 0, none⟩)] (w3.setCell ⟨w.heap.size, 2, none⟩ (.int .i64 x.n)) fun e w' => e = faults 80 ∧ (w3.setCell ⟨w.heap.size, 2, none⟩ (.int .i64 x.n)).grownBy w' (some B)) := (by have hh := hk3; have hs9 := (G3.out : Ch w (w3.setCell ⟨w.heap.size, 2, none⟩ (.int .i64 x.n)) [B]).size; exact rtext_cut q3 HCUT.out hh); clear hh gg hk3 HC2)
      | (go_at_call 110; refine HC3.out.mono ?_; rintro e w9 ⟨rfl, gg⟩; have G9 : Hid (Ch w w9 [B]) := (G3.out.trans (Ch.one gg (by simp))); clear gg HC3))
    exact ⟨rfl, rfl, ⟨G9.out.os, G9.out.tape, G9.out.output, G9.out.size, fun k hk hne => G9.out.block k hk (by simpa using hne)⟩⟩
  · have hcut := hc
    rw [eM1, eM2, eM3, eM4] at h
    have HCUT : Hid (Cut M4 ((Pg.dCnt (x.args.length : Int)).en ++ (Pg.dCat Pg.Ex.dl x.args).en)) := hcut
    have HB : Hid (Calls Try.prog 101 #[.pointer (some ⟨B, 0, none⟩)] (w.alloc (.cells #[.int .i64 0, .int .i64 0, .int .i64 0, .string ⟨#[]⟩, .slice none 0 0] 94)) fun e w' => e = .returned (.tuple #[]) ∧ Rd lim w' B (((Pg.dCnt x.op).en) ++ (((Pg.dCnt x.t).en) ++ (((Pg.dNum x.n).en) ++ (((Pg.dCnt (x.s.size : Int)).en ++ Pg.txt x.s) ++ (M4))))) (n + 1) (d + 1) ∧ (w.alloc (.cells #[.int .i64 0, .int .i64 0, .int .i64 0, .string ⟨#[]⟩, .slice none 0 0] 94)).grownBy w' (some B)) := rbegin_ok (h.grow g1) (by omega) (by omega)
    clear h g1 hc hcut
    go_enter Try.func104, Try.ntmps104
    go_wp2_with (first
      | (go_at_call 101; refine HB.out.mono ?_; rintro e w0 ⟨rfl, h0, g0⟩; have Q0 : Hid (w0.heap[w.heap.size]? = some (.cells #[.int .i64 0, .int .i64 0, .int .i64 0, .string ⟨#[]⟩, .slice none 0 0] 94)) := ((g0.block _ (Array.getElem?_eq_some_iff.1 Q.out).1 (by simp; omega)).trans Q.out); have G0 : Hid (Ch w w0 [B]) := ((Ch.of HG1.out).trans (Ch.one g0 (by simp))); have HC0 : Hid (Calls Try.prog 92 #[.pointer (some ⟨B, 0, none⟩)] w0 fun e w' => e = .returned (.int .i64 x.op) ∧ Rd lim w' B (((Pg.dCnt x.t).en) ++ (((Pg.dNum x.n).en) ++ (((Pg.dCnt (x.s.size : Int)).en ++ Pg.txt x.s) ++ (M4)))) (n + 1) (d + 1) ∧ w0.grownBy w' (some B)) := (by have hh := h0; have hs9 := (G0.out : Ch w w0 [B]).size; exact rcount_ok q1 hh); clear h0 g0 HB)
      | (go_at_call 92; refine HC0.out.mono ?_; rintro e w1 ⟨rfl, hh, gg⟩; have T1 : Hid (w1.heap[w.heap.size]? = some (.cells #[.int .i64 0, .int .i64 0, .int .i64 0, .string ⟨#[]⟩, .slice none 0 0] 94)) := ((gg.block _ (Array.getElem?_eq_some_iff.1 Q0.out).1 (by simp; omega)).trans Q0.out); have S1 : Hid ((w1.setCell ⟨w.heap.size, 0, none⟩ (.int .i64 x.op)).heap[w.heap.size]? = some (.cells #[.int .i64 x.op, .int .i64 0, .int .i64 0, .string ⟨#[]⟩, .slice none 0 0] 94)) := rset T1.out 0 (.int .i64 x.op); have m0 : w1.cell? ⟨w.heap.size, 0, none⟩ = some (.int .i64 0) := rcell T1.out 0; have f0 : w1.frozen? ⟨w.heap.size, 0, none⟩ = false := rfrozen T1.out 0; have G1 : Hid (Ch w (w1.setCell ⟨w.heap.size, 0, none⟩ (.int .i64 x.op)) [B]) := ((G0.out.trans (Ch.one gg (by simp))).new (Nat.le_refl _) (grown_setCell w1 w.heap.size 0 (.int .i64 x.op))); have hk1 := hh.kept (grown_setCell w1 w.heap.size 0 (.int .i64 x.op)) hlim hPB; have HC1 : Hid (Calls Try.prog 92 #[.pointer (some ⟨B, 0, none⟩)] (w1.setCell ⟨w.heap.size, 0, none⟩ (.int .i64 x.op)) fun e w' => e = .returned (.int .i64 x.t) ∧ Rd lim w' B (((Pg.dNum x.n).en) ++ (((Pg.dCnt (x.s.size : Int)).en ++ Pg.txt x.s) ++ (M4))) (n + 1) (d + 1) ∧ (w1.setCell ⟨w.heap.size, 0, none⟩ (.int .i64 x.op)).grownBy w' (some B)) := (by have hh := hk1; have hs9 := (G1.out : Ch w (w1.setCell ⟨w.heap.size, 0, none⟩ (.int .i64 x.op)) [B]).size; exact rcount_ok q2 hh); clear hh gg hk1 HC0)
      | (go_at_call 92; refine HC1.out.mono ?_; rintro e w2 ⟨rfl, hh, gg⟩; have T2 : Hid (w2.heap[w.heap.size]? = some (.cells #[.int .i64 x.op, .int .i64 0, .int .i64 0, .string ⟨#[]⟩, .slice none 0 0] 94)) := ((gg.block _ (Array.getElem?_eq_some_iff.1 S1.out).1 (by simp; omega)).trans S1.out); have S2 : Hid ((w2.setCell ⟨w.heap.size, 1, none⟩ (.int .i64 x.t)).heap[w.heap.size]? = some (.cells #[.int .i64 x.op, .int .i64 x.t, .int .i64 0, .string ⟨#[]⟩, .slice none 0 0] 94)) := rset T2.out 1 (.int .i64 x.t); have m1 : w2.cell? ⟨w.heap.size, 1, none⟩ = some (.int .i64 0) := rcell T2.out 1; have f1 : w2.frozen? ⟨w.heap.size, 1, none⟩ = false := rfrozen T2.out 1; have G2 : Hid (Ch w (w2.setCell ⟨w.heap.size, 1, none⟩ (.int .i64 x.t)) [B]) := ((G1.out.trans (Ch.one gg (by simp))).new (Nat.le_refl _) (grown_setCell w2 w.heap.size 1 (.int .i64 x.t))); have hk2 := hh.kept (grown_setCell w2 w.heap.size 1 (.int .i64 x.t)) hlim hPB; have HC2 : Hid (Calls Try.prog 102 #[.pointer (some ⟨B, 0, none⟩)] (w2.setCell ⟨w.heap.size, 1, none⟩ (.int .i64 x.t)) fun e w' => e = .returned (.int .i64 x.n) ∧ Rd lim w' B (((Pg.dCnt (x.s.size : Int)).en ++ Pg.txt x.s) ++ (M4)) (n + 1) (d + 1) ∧ (w2.setCell ⟨w.heap.size, 1, none⟩ (.int .i64 x.t)).grownBy w' (some B)) := (by have hh := hk2; have hs9 := (G2.out : Ch w (w2.setCell ⟨w.heap.size, 1, none⟩ (.int .i64 x.t)) [B]).size; exact rnumber_ok qn hh); clear hh gg hk2 HC1)
      | (go_at_call 102; refine HC2.out.mono ?_; rintro e w3 ⟨rfl, hh, gg⟩; have T3 : Hid (w3.heap[w.heap.size]? = some (.cells #[.int .i64 x.op, .int .i64 x.t, .int .i64 0, .string ⟨#[]⟩, .slice none 0 0] 94)) := ((gg.block _ (Array.getElem?_eq_some_iff.1 S2.out).1 (by simp; omega)).trans S2.out); have S3 : Hid ((w3.setCell ⟨w.heap.size, 2, none⟩ (.int .i64 x.n)).heap[w.heap.size]? = some (.cells #[.int .i64 x.op, .int .i64 x.t, .int .i64 x.n, .string ⟨#[]⟩, .slice none 0 0] 94)) := rset T3.out 2 (.int .i64 x.n); have m2 : w3.cell? ⟨w.heap.size, 2, none⟩ = some (.int .i64 0) := rcell T3.out 2; have f2 : w3.frozen? ⟨w.heap.size, 2, none⟩ = false := rfrozen T3.out 2; have G3 : Hid (Ch w (w3.setCell ⟨w.heap.size, 2, none⟩ (.int .i64 x.n)) [B]) := ((G2.out.trans (Ch.one gg (by simp))).new (Nat.le_refl _) (grown_setCell w3 w.heap.size 2 (.int .i64 x.n))); have hk3 := hh.kept (grown_setCell w3 w.heap.size 2 (.int .i64 x.n)) hlim hPB; have HC3 : Hid (Calls Try.prog 110 #[.pointer (some ⟨B, 0, none⟩)] (w3.setCell ⟨w.heap.size, 2, none⟩ (.int .i64 x.n)) fun e w' => e = .returned (.string x.s) ∧ Rd lim w' B (M4) (n + 1) (d + 1) ∧ (w3.setCell ⟨w.heap.size, 2, none⟩ (.int .i64 x.n)).grownBy w' (some B)) := (by have hh := hk3; have hs9 := (G3.out : Ch w (w3.setCell ⟨w.heap.size, 2, none⟩ (.int .i64 x.n)) [B]).size; exact rtext_ok q3 (by rw [List.append_assoc] at hh; exact hh)); clear hh gg hk3 HC2)
      | (go_at_call 110; refine HC3.out.mono ?_; rintro e w4 ⟨rfl, hh, gg⟩; have T4 : Hid (w4.heap[w.heap.size]? = some (.cells #[.int .i64 x.op, .int .i64 x.t, .int .i64 x.n, .string ⟨#[]⟩, .slice none 0 0] 94)) := ((gg.block _ (Array.getElem?_eq_some_iff.1 S3.out).1 (by simp; omega)).trans S3.out); have S4 : Hid ((w4.setCell ⟨w.heap.size, 3, none⟩ (.string x.s)).heap[w.heap.size]? = some (.cells #[.int .i64 x.op, .int .i64 x.t, .int .i64 x.n, .string x.s, .slice none 0 0] 94)) := rset T4.out 3 (.string x.s); have m3 : w4.cell? ⟨w.heap.size, 3, none⟩ = some (.string ⟨#[]⟩) := rcell T4.out 3; have f3 : w4.frozen? ⟨w.heap.size, 3, none⟩ = false := rfrozen T4.out 3; have G4 : Hid (Ch w (w4.setCell ⟨w.heap.size, 3, none⟩ (.string x.s)) [B]) := ((G3.out.trans (Ch.one gg (by simp))).new (Nat.le_refl _) (grown_setCell w4 w.heap.size 3 (.string x.s))); have hk4 := hh.kept (grown_setCell w4 w.heap.size 3 (.string x.s)) hlim hPB; have HC4 : Hid (Calls Try.prog 103 #[.pointer (some ⟨B, 0, none⟩), .func (.func 104) #[.pointer (some ⟨B, 0, none⟩)] #[]] (w4.setCell ⟨w.heap.size, 3, none⟩ (.string x.s)) fun e w' => e = faults 80 ∧ (w4.setCell ⟨w.heap.size, 3, none⟩ (.string x.s)).grownBy w' (some B)) := (by have hh := hk4; have hs9 := (G4.out : Ch w (w4.setCell ⟨w.heap.size, 3, none⟩ (.string x.s)) [B]).size; exact rEs_cut hh HCUT.out (by omega) (by omega) (by omega) q4 HRX.out HI.out); clear hh gg hk4 HC3)
      | (go_at_call 103; refine HC4.out.mono ?_; rintro e w9 ⟨rfl, gg⟩; have G9 : Hid (Ch w w9 [B]) := (G4.out.trans (Ch.one gg (by simp))); clear gg HC4))
    exact ⟨rfl, rfl, ⟨G9.out.os, G9.out.tape, G9.out.output, G9.out.size, fun k hk hne => G9.out.block k hk (by simpa using hne)⟩⟩
theorem term_both (x : Pg.Ex) : ExOk x → TermRd x ∧ TermCut x := by
  refine Pg.Ex.ind (P := fun x => ExOk x → TermRd x ∧ TermCut x) ?_ x
  intro op t n s args ih hx
  obtain ⟨h1, h2, h3⟩ := hx
  have hp := Pg.Ex.parts2 _ h1
  have hok : ∀ y, y ∈ args → ExOk y := fun y hy => by
    have hm := Pg.dCat_mem Pg.Ex.dl hy hp.2.2.2.2.1
    refine ⟨hm, ?_, ?_⟩
    · cases h2 with | mk rg all => exact all y hy
    · have := (Pg.Ex.parts2 y hm).2.2.1
      unfold reachBytes
      omega
  have hrx : ∀ y, y ∈ args → R64 y.n ∧ y.s.size ≤ reachBytes := fun y hy => by
    obtain ⟨_, a2, a3⟩ := hok y hy
    cases a2 with | mk rg _ => exact ⟨rg, a3⟩
  have hpos : ∀ y, y ∈ args → 1 ≤ y.dl.en.length := fun y hy => by
    have hy1 := Pg.Ex.parts2 y (hok y hy).1
    have := Pg.cnt_pos (n := y.op) (by rw [dCnt_may]; exact hy1.1)
    rw [hy1.2.2.2.2.2, List.length_append]
    omega
  exact ⟨term_rd _ ⟨h1, h2, h3⟩ hrx hpos (fun y hy => ih y hy (hok y hy)), term_cut _ ⟨h1, h2, h3⟩ hrx hpos (fun y hy => ih y hy (hok y hy))⟩
end Go.Proofs.Ytljdjkiejppenaa
