/- The reader's lists: what is kept as they grow. -/
import Derived.Test.YtljdjkiejppenaaG7
import Derived.Test.YtljdjkiejppenaaBtPg
import Derived.Test.YtljdjkiejppenaaG5
import Derived.Test.YtljdjkiejppenaaG11
namespace Go.Proofs.Ytljdjkiejppenaa
open Go.RowKit
set_option linter.unusedVariables false

/-- a row that is read, as far as it has come -/
structure CopR {E : Type} (ty : TypeId) (size : Nat) (cells : E → List Value) (In : (Nat → Prop) → World → E → Prop) (w wr : World) (B k : Nat) (v : Value) (L : List E) : Prop where
  own : wr.ownsRow w.heap.size ty size v L.length (L.flatMap cells)
  len : L.length = k
  ent : ∀ (i : Nat) (e : E), L[i]? = some e → In (fun q => w.heap.size ≤ q ∧ q < wr.heap.size ∧ v.ownBlock ≠ some q) wr e
  gr : w.grownBy wr (some B)
theorem CopR.step {E : Type} {ty : TypeId} {size : Nat} {cells : E → List Value} {In : (Nat → Prop) → World → E → Prop} (hIn : InCh In) {w wr w4 w6 : World} {B k : Nat} {v v6 : Value} {L : List E} (h : CopR ty size cells In w wr B k v L) (hB : B < w.heap.size) (g4 : wr.grownBy w4 (some B))
    {e : E} (he : In (fun q => wr.heap.size ≤ q ∧ q < w4.heap.size) w4 e) (o6 : w6.ownsRow w.heap.size ty size v6 (L.length + 1) (L.flatMap cells ++ cells e)) (g6 : w4.grownBy w6 v.ownBlock) (b6 : ∀ q, v6.ownBlock = some q → v.ownBlock = some q ∨ w4.heap.size ≤ q) :
    CopR ty size cells In w w6 B (k + 1) v6 (L ++ [e]) := by
  have s0 := h.gr.size
  have s4 := g4.size
  have s6 := g6.size
  have c6 := grown_cho g6
  have hb : ∀ q, v.ownBlock = some q → w.heap.size ≤ q ∧ q < wr.heap.size := fun q hq => World.ownsRow.lt h.own q hq
  refine ⟨?_, by simp [h.len], fun i x hx => ?_, ?_⟩
  · rw [List.length_append, List.flatMap_append]
    simpa using o6
  · by_cases hi : i < L.length
    · rw [List.getElem?_append_left hi] at hx
      have h1 := h.ent i x hx
      refine hIn (hIn h1 (Ch.one g4 (l := [B]) (by simp)) (fun q hq => by simp; omega) (B' := fun q => w.heap.size ≤ q ∧ q < wr.heap.size ∧ v.ownBlock ≠ some q) (fun _ h => h)) c6 (fun q hq hm => hq.2.2 (by simpa using hm)) (fun q hq => ⟨hq.1, by omega, fun hf => ?_⟩)
      rcases b6 q hf with h5 | h5
      · exact hq.2.2 h5
      · omega
    · have hik : i = L.length := by
        have := (List.getElem?_eq_some_iff.1 hx).1
        simp at this
        omega
      subst hik
      rw [List.getElem?_append_right (Nat.le_refl _)] at hx
      simp at hx
      subst hx
      refine hIn he c6 (fun q hq hm => ?_) (fun q hq => ⟨by omega, by omega, fun hf => ?_⟩)
      · have := (hb q (by simpa using hm)).2
        omega
      · rcases b6 q hf with h5 | h5
        · have := (hb q h5).2
          omega
        · omega
  · have c1 := (Ch.one h.gr (l := B :: v.ownBlock.toList) (by simp)).trans ((Ch.one g4 (l := B :: v.ownBlock.toList) (by simp)).trans (c6.mono (l' := B :: v.ownBlock.toList) (fun q _ hq => by simp at hq ⊢; exact .inr hq)))
    exact ⟨c1.os, c1.tape, c1.output, c1.size, fun q hq hne => c1.block q hq (fun hm => by
      simp at hm
      rcases hm with rfl | hm
      · exact hne rfl
      · have := (hb q hm).1
        omega)⟩
theorem CopR.start {E : Type} (ty : TypeId) (size : Nat) (cells : E → List Value) (In : (Nat → Prop) → World → E → Prop) {w w1 : World} {B : Nat} (g : w.grownBy w1 (some B)) : CopR ty size cells In w w1 B 0 (.slice none 0 0) [] := ⟨World.ownsRow_nil _ _ _ _, rfl, (fun i e h => by simp at h), g⟩
theorem CopR.row {α E : Type} {ty : TypeId} {size by' : Nat} {cells : E → List Value} {In : (Nat → Prop) → World → E → Prop} (hs : ∀ e, (cells e).length = size) {w wr : World} {B k : Nat} {v : Value} {L : List E} (h : CopR ty size cells In w wr B k v L) (hk : k * by' ≤ reachBytes) (val : E → α) (Q : Nat → Nat → α → Prop)
    (hQ : ∀ (b o : Nat) (e : E), (∀ j u, (cells e)[j]? = some u → wr.cell? ⟨b, o + j, none⟩ = some u) → In (fun q => w.heap.size ≤ q ∧ q < wr.heap.size) wr e → Q b o (val e)) (hm : ∀ e, In (fun q => w.heap.size ≤ q ∧ q < wr.heap.size ∧ v.ownBlock ≠ some q) wr e → In (fun q => w.heap.size ≤ q ∧ q < wr.heap.size) wr e) :
    ∃ a c, v = .slice a k c ∧ RowL size by' (fun q => w.heap.size ≤ q ∧ q < wr.heap.size) Q a c (L.map val) := by
  have hl := h.len
  subst hl
  rcases h.own.2 with ⟨rfl, h0⟩ | ⟨g, c, cur, rfl, hb, hg, hc, hcm, _⟩
  · have hn : L = [] := List.length_eq_zero_iff.1 h0
    subst hn
    exact ⟨none, 0, rfl, fun _ => ⟨rfl, rfl⟩, Nat.le_refl _, Nat.zero_le _, by simp, .inl rfl⟩
  · refine ⟨_, c, rfl, (fun h => by cases h), by simpa using hc, hcm, by simpa using hk, .inr ⟨g, 0, rfl, ⟨hb, (World.ownsRow.lt h.own g rfl).2⟩, fun i x hx => ?_⟩⟩
    rw [List.getElem?_map] at hx
    obtain ⟨e, he, rfl⟩ := Option.map_eq_some_iff.1 hx
    have hi : i < L.length := (List.getElem?_eq_some_iff.1 he).1
    have hee : L[i] = e := (List.getElem?_eq_some_iff.1 he).2
    refine hQ _ _ _ (fun j u hu => ?_) (hm _ (h.ent i e he))
    have hj : j < size := by rw [← hs e]; exact (List.getElem?_eq_some_iff.1 hu).1
    rw [Nat.zero_add, World.ownsRow.cellAt h.own (i * size + j) (by
      have : (i + 1) * size ≤ L.length * size := Nat.mul_le_mul_right _ hi
      rw [Nat.succ_mul] at this
      omega), flat_at hs L i j hi hj, hee]
    exact hu
theorem CopR.slice {E : Type} {ty : TypeId} {size : Nat} {cells : E → List Value} {In : (Nat → Prop) → World → E → Prop} {w wr : World} {B k : Nat} {v : Value} {L : List E} (h : CopR ty size cells In w wr B k v L) : ∃ a c, v = .slice a k c := by
  have hl := h.len
  subst hl
  rcases h.own.2 with ⟨rfl, h0⟩ | ⟨g, c, cur, rfl, _⟩
  · exact ⟨none, 0, by rw [h0]⟩
  · exact ⟨_, c, rfl⟩
theorem Rd.lt {lim : Nat} {w : World} {B : Nat} {L : List Int} {n d : Nat} (h : Rd lim w B L n d) : B < w.heap.size := by obtain ⟨a, c, h1, _⟩ := h; exact (Array.getElem?_eq_some_iff.1 h1).1
/-- through an append to a row of one's own -/
theorem Rd.app {lim : Nat} {w w' : World} {B : Nat} {L : List Int} {n d : Nat} (h : Rd lim w B L n d) {row : Option Nat} (hg : w.grownBy w' row) (h1 : ∀ q, row = some q → lim ≤ q ∧ q ≠ B) : Rd lim w' B L n d := by
  cases row with
  | none => exact h.grow hg
  | some q => exact h.kept hg (h1 q rfl).1 (h1 q rfl).2
namespace Pg
theorem dCat_drop {α : Type} (f : α → Dl) {l : List α} {k : Nat} (h : k < l.length) : dCat f (l.drop k) = (f l[k]).app (dCat f (l.drop (k + 1))) := by
  rw [List.drop_eq_getElem_cons h, dCat]
theorem dCat_len {α : Type} (f : α → Dl) : ∀ l : List α, (∀ x, x ∈ l → 1 ≤ (f x).en.length) → l.length ≤ (dCat f l).en.length
  | [], _ => by simp
  | x :: l, h => by
    have h1 := h x (by simp)
    have h2 := dCat_len f l (fun y hy => h y (by simp [hy]))
    simp only [dCat, Dl.app, List.length_append, List.length_cons]
    omega
theorem dCat_mem {α : Type} (f : α → Dl) {l : List α} {x : α} (h : x ∈ l) (hm : (dCat f l).may = true) : (f x).may = true := by
  induction l with
  | nil => simp at h
  | cons y l ih =>
    simp only [dCat, Dl.app, Bool.and_eq_true] at hm
    rcases List.mem_cons.1 h with rfl | h
    · exact hm.1
    · exact ih h hm.2
theorem grp_pos (x : Nat) : 1 ≤ (grp x).length := by
  by_cases h : x < 128
  · rw [grp_small h]; simp
  · rw [grp_big h]; simp
theorem cnt_pos {n : Int} (h : (dCnt n).may = true) : 1 ≤ (dCnt n).en.length := by
  have h' : okB n = true := h
  simp only [dCnt, h', if_true]
  exact grp_pos _
end Pg
/-- numbers that are read -/
def cellsI (z : Int) : List Value := [.int .i64 z]
def InI (B : Nat → Prop) (W : World) (z : Int) : Prop := True
theorem inI_ch : InCh InI := fun _ _ _ _ => trivial
theorem wp_appI {ops : Array Oper} {rest : List Oper} {o : Oper} {a : Act} {Q : Exit → Act → World → Prop} {W : World} (hgd : o.guard = none) (s y : Operand)
    (ho : o.op = .call { callee := .builtin .append, args := #[s, y], argTypes := #[49, 49] }) (base : Nat) (v : Value) (L : List Int) (e : Int) (hs : a.eval s = v) (hown : W.ownsRow base 3 1 v L.length (L.flatMap cellsI))
    {nb : Nat} (hx : a.eval y = .slice (some ⟨nb, 0, none⟩) 1 1) (hnb : nb = W.heap.size) (hl : (L.length + 1) * 8 ≤ 140737488351232) (hb : base ≤ W.heap.size)
    (h : ∀ v' w', w'.ownsRow base 3 1 v' (L.length + 1) (L.flatMap cellsI ++ cellsI e) → W.grownBy w' v.ownBlock → (∀ q, v'.ownBlock = some q → v.ownBlock = some q ∨ W.heap.size ≤ q) → wpList Try.prog ops Q rest (a.put o.dst v') w') :
    wpList Try.prog ops Q (o :: rest) a (W.alloc (Obj.cells #[.int .i64 e] 3)) := by
  obtain ⟨i, hi, hz0, hz1, hz2⟩ := info_parts info_int
  exact wpList_app_one (P := Try.prog) W hgd s y 49 ho base 3 i _ 1 8 Try.underlying49 hi hz0 hz1 hz2 rfl (by decide) v L.length _ hs hown (cellsI e) hx hnb rfl (by intro u hu; simp [cellsI] at hu; subst hu; rfl) (by unfold maxLen; omega) (by omega) hb h
def IntRd (z : Int) : Prop := ∀ (lim : Nat) (w : World) (B : Nat) (R : List Int) (n d : Nat), Rd lim w B ((Pg.dCnt z).en ++ R) n d → lim ≤ w.heap.size → n + (Pg.dCnt z).nd ≤ 2048 → d + (Pg.dCnt z).dp ≤ 32 →
  Calls Try.prog 92 #[.pointer (some ⟨B, 0, none⟩)] w fun e w' => e = .returned (.int .i64 z) ∧ Rd lim w' B R (n + (Pg.dCnt z).nd) d ∧ w.grownBy w' (some B)
def IntCut (z : Int) : Prop := ∀ (lim : Nat) (w : World) (B : Nat) (M : List Int) (n d : Nat), Rd lim w B M n d → Cut M (Pg.dCnt z).en → lim ≤ w.heap.size → n + (Pg.dCnt z).nd ≤ 2048 → d + (Pg.dCnt z).dp ≤ 32 →
  Calls Try.prog 92 #[.pointer (some ⟨B, 0, none⟩)] w fun e w' => e = faults 80 ∧ w.grownBy w' (some B)
theorem int_rd {z : Int} (h : Pg.okB z = true) : IntRd z ∧ IntCut z := ⟨fun _ _ _ _ _ _ hr _ _ _ => rcount_ok h hr, fun _ _ _ _ _ _ hr hc _ _ _ => rcount_cut h hc hr⟩
set_option maxRecDepth 100000 in
set_option maxHeartbeats 8000000 in
theorem rNums_ok {lim : Nat} {w : World} {B : Nat} {z : List Int} {R : List Int} {n d : Nat} (h : Rd lim w B (((Pg.dCnt (z.length : Int)).en ++ (Pg.dCat Pg.dCnt z).en) ++ R) n d) (hlim : lim ≤ w.heap.size) (hn : n + (Pg.dCat Pg.dCnt z).nd ≤ 2048) (hd : d + (Pg.dCat Pg.dCnt z).dp ≤ 32) (hok : Pg.okB (z.length : Int) = true) (hpos : ∀ x, x ∈ z → 1 ≤ (Pg.dCnt x).en.length) (ih : ∀ x, x ∈ z → IntRd x) :
    Calls Try.prog 93 #[.pointer (some ⟨B, 0, none⟩), .func (.func 92) #[.pointer (some ⟨B, 0, none⟩)] #[]] w fun e w' => ∃ a c, e = .returned (.slice a z.length c) ∧ NumL (Fresh w w') w' a c z ∧ Rd lim w' B R (n + (Pg.dCat Pg.dCnt z).nd) d ∧ w.grownBy w' (some B) := by
  have hB := h.lt
  have hlz : z.length < 2147483648 := by have := (cnt_en hok).2.2; omega
  have HLn : Hid (Calls Try.prog 91 #[.pointer (some ⟨B, 0, none⟩)] w fun e w' => e = .returned (.int .i64 (z.length : Int)) ∧ Rd lim w' B ((Pg.dCat Pg.dCnt z).en ++ R) n d ∧ w.grownBy w' (some B)) := rlength_ok hok (by have := Pg.dCat_len Pg.dCnt z hpos; rw [List.length_append]; omega) (by rw [List.append_assoc] at h; exact h)
  have HI : Hid (∀ x, x ∈ z → IntRd x) := ih
  clear h ih hok hpos
  go_enter Try.func93, Try.ntmps93
  go_wp2_with (go_at_call 91; refine HLn.out.mono ?_; rintro e w4 ⟨rfl, h4, g4⟩; have R4 : Hid (Rd lim w4 B ((Pg.dCat Pg.dCnt z).en ++ R) n d) := h4; have G4 : Hid (w.grownBy w4 (some B)) := g4; clear h4 g4 HLn)
  go_loopw [4, 7] (fun v ix wr => ∃ (k : Nat) (L : List Int) (a' : Option Addr) (c' : Nat), v = .slice a' k c' ∧ ix = .int .i64 k ∧ k ≤ z.length ∧ L.map id = z.take k ∧ CopR 3 1 cellsI InI w wr B k (.slice a' k c') L ∧ Rd lim wr B ((Pg.dCat Pg.dCnt (z.drop k)).en ++ R) (n + (Pg.dCat Pg.dCnt (z.take k)).nd) d) (fun _ ix _ => z.length - (intOf ix).toNat)
  case atStart => exact ⟨0, [], none, 0, rfl, rfl, Nat.zero_le _, rfl, CopR.start _ _ _ _ G4.out, R4.out⟩
  case round =>
    obtain ⟨k, L, a', c', rfl, rfl, hk, hm, hc, hr⟩ := hrel
    have HC : Hid (CopR 3 1 cellsI InI w wr B k (.slice a' k c') L) := hc
    have HM : Hid (L.map id = z.take k) := hm
    have HRd : Hid (Rd lim wr B ((Pg.dCat Pg.dCnt (z.drop k)).en ++ R) (n + (Pg.dCat Pg.dCnt (z.take k)).nd) d) := hr
    clear hm
    by_cases hkn : k < z.length
    case neg =>
      obtain rfl : k = z.length := by omega
      obtain ⟨a1, c1, e1, hT1⟩ := CopR.row (cells := cellsI) (In := InI) (by' := 8) (fun e => rfl) hc (by show z.length * 8 ≤ 140737488351232; omega) id (NumQ wr) (fun b o e hcc hin => by have := hcc 0 _ rfl; exact this) (fun e he => @inI_ch _ _ _ _ [] _ he (Ch.refl _ _) (by simp) (fun q hq => ⟨hq.1, hq.2.1⟩))
      rw [HM.out, List.take_length] at hT1
      injection e1 with e1 _ e3
      subst e1
      subst e3
      have HT1 : Hid (NumL (Fresh w wr) wr a' c' z) := hT1
      have HG : Hid (w.grownBy wr (some B)) := hc.gr
      clear hc hT1 hr
      go_wp2
      go_ret
      refine ⟨a', c', rfl, HT1.out, ?_, HG.out⟩
      have := HRd.out
      rw [List.take_length, List.drop_length] at this
      simpa [Pg.dCat, Pg.Dl.nil] using this
    have hkn' : (k : Int) < z.length := by omega
    have hlen := hc.len
    have hsz := hc.gr.size
    obtain ⟨y1, y2, _, _⟩ := Pg.dCat_le Pg.dCnt z (k + 1)
    have hsc := Pg.dCat_succ Pg.dCnt hkn
    rw [hsc] at y1 y2
    simp only [Pg.Dl.app] at y1 y2
    have HS : Hid (n + (Pg.dCat Pg.dCnt (z.take (k + 1))).nd = n + (Pg.dCat Pg.dCnt (z.take k)).nd + (Pg.dCnt z[k]).nd) := by show _ = _; rw [hsc]; simp only [Pg.Dl.app]; omega
    have HT : Hid (z.take (k + 1) = z.take k ++ [z[k]]) := List.take_succ_eq_append_getElem hkn
    have hdr := Pg.dCat_drop Pg.dCnt hkn
    rw [hdr] at hr
    simp only [Pg.Dl.app, List.append_assoc] at hr
    have HE := HI.out z[k] (List.getElem_mem hkn) lim wr B ((Pg.dCat Pg.dCnt (z.drop (k + 1))).en ++ R) (n + (Pg.dCat Pg.dCnt (z.take k)).nd) d hr (by omega) (by omega) (by omega)
    clear hc hr hsc hdr y1 y2
    generalize z[k] = x at *
    have HE : Hid (Calls Try.prog 92 #[.pointer (some ⟨B, 0, none⟩)] wr fun e w' => e = .returned (.int .i64 x) ∧ Rd lim w' B ((Pg.dCat Pg.dCnt (z.drop (k + 1))).en ++ R) (n + (Pg.dCat Pg.dCnt (z.take k)).nd + (Pg.dCnt x).nd) d ∧ wr.grownBy w' (some B)) := HE
    go_wp2_with (first
      | (go_at_call 92; refine HE.out.mono ?_; rintro e w5 ⟨rfl, h5, g5⟩; have N5 : Hid (InI (fun q => wr.heap.size ≤ q ∧ q < w5.heap.size) w5 x) := trivial; have R5 : Hid (Rd lim w5 B ((Pg.dCat Pg.dCnt (z.drop (k + 1))).en ++ R) (n + (Pg.dCat Pg.dCnt (z.take k)).nd + (Pg.dCnt x).nd) d) := h5; have G5 : Hid (wr.grownBy w5 (some B)) := g5; have hs5 := g5.size; clear h5 g5 HE)
      | (at_builtin; refine wp_appI rfl _ _ rfl w.heap.size (.slice a' k c') L x (by rw [← hlen]; rfl) (World.ownsRow.kept HC.out.own G5.out (by rw [← hlen]; rcases HC.out.own.2 with ⟨e, _⟩ | ⟨g, cap, cur, e, hb, _⟩; exact .inl (by rw [hlen, e]; rfl); exact .inr (by rw [hlen, e]; simp [Value.ownBlock]; omega))) rfl rfl (by omega) (by omega) ?_; intro v6 w6 o6 g6 b6; have K6' := CopR.step (In := InI) @inI_ch HC.out hB G5.out N5.out o6 g6 b6; obtain ⟨a6, c6, rfl⟩ := K6'.slice; have K6 : Hid (CopR 3 1 cellsI InI w w6 B (k + 1) (.slice a6 (k + 1) c6) (L ++ [x])) := K6'; have R6 : Hid (Rd lim w6 B ((Pg.dCat Pg.dCnt (z.drop (k + 1))).en ++ R) (n + (Pg.dCat Pg.dCnt (z.take k)).nd + (Pg.dCnt x).nd) d) := (R5.out.app g6 (fun q hq => (by have := World.ownsRow.lt HC.out.own q hq; exact ⟨by omega, by omega⟩))); clear o6 g6 b6 K6'))
    go_roundw
    case rel => exact ⟨k + 1, L ++ [x], a6, c6, rfl, by go_num, by omega, by rw [List.map_append, HM.out, HT.out]; rfl, K6.out, by rw [HS.out]; exact R6.out⟩
    case measure => simp [intOf]; omega
set_option maxRecDepth 100000 in
set_option maxHeartbeats 8000000 in
theorem rNums_cut {lim : Nat} {w : World} {B : Nat} {z : List Int} {M0 : List Int} {n d : Nat} (h : Rd lim w B M0 n d) (hcut : Cut M0 ((Pg.dCnt (z.length : Int)).en ++ (Pg.dCat Pg.dCnt z).en)) (hlim : lim ≤ w.heap.size) (hn : n + (Pg.dCat Pg.dCnt z).nd ≤ 2048) (hd : d + (Pg.dCat Pg.dCnt z).dp ≤ 32) (hok : Pg.okB (z.length : Int) = true) (ih : ∀ x, x ∈ z → IntRd x ∧ IntCut x) :
    Calls Try.prog 93 #[.pointer (some ⟨B, 0, none⟩), .func (.func 92) #[.pointer (some ⟨B, 0, none⟩)] #[]] w fun e w' => e = faults 80 ∧ w.grownBy w' (some B) := by
  have hB := h.lt
  have hlz : z.length < 2147483648 := by have := (cnt_en hok).2.2; omega
  have hcases : (Calls Try.prog 91 #[.pointer (some ⟨B, 0, none⟩)] w fun e w' => e = faults 80 ∧ w.grownBy w' (some B)) ∨ ∃ M, Cut M (Pg.dCat Pg.dCnt z).en ∧ (Calls Try.prog 91 #[.pointer (some ⟨B, 0, none⟩)] w fun e w' => e = .returned (.int .i64 (z.length : Int)) ∧ Rd lim w' B M n d ∧ w.grownBy w' (some B)) := by
    rcases cut_cases hcut with h1 | ⟨M, hM, h2⟩
    · exact .inl (rlength_cut (k := z.length) hok h1 h)
    · rw [hM] at h
      by_cases hlt : M.length < z.length
      · exact .inl (rlength_more (k := z.length) hok hlt h)
      · exact .inr ⟨M, h2, rlength_ok (k := z.length) hok (by omega) h⟩
  rcases hcases with HL1 | ⟨M, hM, HL2⟩
  · have HLn : Hid (Calls Try.prog 91 #[.pointer (some ⟨B, 0, none⟩)] w fun e w' => e = faults 80 ∧ w.grownBy w' (some B)) := HL1
    clear h ih hok hcut HL1
    go_enter Try.func93, Try.ntmps93
    go_wp2_with (go_at_call 91; refine HLn.out.mono ?_; rintro e w4 ⟨rfl, g4⟩; have G4 : Hid (w.grownBy w4 (some B)) := g4; clear g4 HLn)
    exact ⟨rfl, rfl, G4.out⟩
  have HLn : Hid (Calls Try.prog 91 #[.pointer (some ⟨B, 0, none⟩)] w fun e w' => e = .returned (.int .i64 (z.length : Int)) ∧ Rd lim w' B M n d ∧ w.grownBy w' (some B)) := HL2
  have HM0 : Hid (Cut M (Pg.dCat Pg.dCnt z).en) := hM
  have HI : Hid (∀ x, x ∈ z → IntRd x ∧ IntCut x) := ih
  clear h ih hok hcut HL2 hM
  go_enter Try.func93, Try.ntmps93
  go_wp2_with (go_at_call 91; refine HLn.out.mono ?_; rintro e w4 ⟨rfl, h4, g4⟩; have R4 : Hid (Rd lim w4 B M n d) := h4; have G4 : Hid (w.grownBy w4 (some B)) := g4; clear h4 g4 HLn)
  go_loopw [4, 7] (fun v ix wr => ∃ (k : Nat) (L : List Int) (a' : Option Addr) (c' : Nat) (M : List Int), v = .slice a' k c' ∧ ix = .int .i64 k ∧ k ≤ z.length ∧ L.map id = z.take k ∧ CopR 3 1 cellsI InI w wr B k (.slice a' k c') L ∧ Cut M (Pg.dCat Pg.dCnt (z.drop k)).en ∧ Rd lim wr B M (n + (Pg.dCat Pg.dCnt (z.take k)).nd) d) (fun _ ix _ => z.length - (intOf ix).toNat)
  case atStart => exact ⟨0, [], none, 0, M, rfl, rfl, Nat.zero_le _, rfl, CopR.start _ _ _ _ G4.out, HM0.out, R4.out⟩
  case round =>
    obtain ⟨k, L, a', c', M1, rfl, rfl, hk, hm, hc, hcM, hr⟩ := hrel
    have HC : Hid (CopR 3 1 cellsI InI w wr B k (.slice a' k c') L) := hc
    have HM : Hid (L.map id = z.take k) := hm
    clear hm
    have hkn : k < z.length := by
      by_cases hkn : k < z.length
      · exact hkn
      · obtain rfl : k = z.length := by omega
        rw [List.drop_length] at hcM
        exact (cut_nil hcM).elim
    have hkn' : (k : Int) < z.length := by omega
    have hlen := hc.len
    have hsz := hc.gr.size
    obtain ⟨y1, y2, _, _⟩ := Pg.dCat_le Pg.dCnt z (k + 1)
    have hsc := Pg.dCat_succ Pg.dCnt hkn
    rw [hsc] at y1 y2
    simp only [Pg.Dl.app] at y1 y2
    have HS : Hid (n + (Pg.dCat Pg.dCnt (z.take (k + 1))).nd = n + (Pg.dCat Pg.dCnt (z.take k)).nd + (Pg.dCnt z[k]).nd) := by show _ = _; rw [hsc]; simp only [Pg.Dl.app]; omega
    have HT : Hid (z.take (k + 1) = z.take k ++ [z[k]]) := List.take_succ_eq_append_getElem hkn
    have hdr := Pg.dCat_drop Pg.dCnt hkn
    rw [hdr] at hcM
    simp only [Pg.Dl.app] at hcM
    rcases cut_cases hcM with h1 | ⟨M2, hM2, h2⟩
    · have HE : Hid (Calls Try.prog 92 #[.pointer (some ⟨B, 0, none⟩)] wr fun e w' => e = faults 80 ∧ wr.grownBy w' (some B)) := (HI.out z[k] (List.getElem_mem hkn)).2 lim wr B M1 (n + (Pg.dCat Pg.dCnt (z.take k)).nd) d hr h1 (by omega) (by omega) (by omega)
      have HG : Hid (w.grownBy wr (some B)) := hc.gr
      clear hc hr hsc hdr y1 y2 hcM h1 HS HT
      go_wp2_with (go_at_call 92; refine HE.out.mono ?_; rintro e w5 ⟨rfl, g5⟩; have G5 : Hid (wr.grownBy w5 (some B)) := g5; clear g5 HE)
      exact ⟨rfl, rfl, grown_trans HG.out G5.out⟩
    · rw [hM2] at hr
      have HE := (HI.out z[k] (List.getElem_mem hkn)).1 lim wr B M2 (n + (Pg.dCat Pg.dCnt (z.take k)).nd) d hr (by omega) (by omega) (by omega)
      have HCM : Hid (Cut M2 (Pg.dCat Pg.dCnt (z.drop (k + 1))).en) := h2
      clear hc hr hsc hdr y1 y2 hcM h2 hM2
      generalize z[k] = x at *
      have HE : Hid (Calls Try.prog 92 #[.pointer (some ⟨B, 0, none⟩)] wr fun e w' => e = .returned (.int .i64 x) ∧ Rd lim w' B (M2) (n + (Pg.dCat Pg.dCnt (z.take k)).nd + (Pg.dCnt x).nd) d ∧ wr.grownBy w' (some B)) := HE
      go_wp2_with (first
        | (go_at_call 92; refine HE.out.mono ?_; rintro e w5 ⟨rfl, h5, g5⟩; have N5 : Hid (InI (fun q => wr.heap.size ≤ q ∧ q < w5.heap.size) w5 x) := trivial; have R5 : Hid (Rd lim w5 B (M2) (n + (Pg.dCat Pg.dCnt (z.take k)).nd + (Pg.dCnt x).nd) d) := h5; have G5 : Hid (wr.grownBy w5 (some B)) := g5; have hs5 := g5.size; clear h5 g5 HE)
        | (at_builtin; refine wp_appI rfl _ _ rfl w.heap.size (.slice a' k c') L x (by rw [← hlen]; rfl) (World.ownsRow.kept HC.out.own G5.out (by rw [← hlen]; rcases HC.out.own.2 with ⟨e, _⟩ | ⟨g, cap, cur, e, hb, _⟩; exact .inl (by rw [hlen, e]; rfl); exact .inr (by rw [hlen, e]; simp [Value.ownBlock]; omega))) rfl rfl (by omega) (by omega) ?_; intro v6 w6 o6 g6 b6; have K6' := CopR.step (In := InI) @inI_ch HC.out hB G5.out N5.out o6 g6 b6; obtain ⟨a6, c6, rfl⟩ := K6'.slice; have K6 : Hid (CopR 3 1 cellsI InI w w6 B (k + 1) (.slice a6 (k + 1) c6) (L ++ [x])) := K6'; have R6 : Hid (Rd lim w6 B (M2) (n + (Pg.dCat Pg.dCnt (z.take k)).nd + (Pg.dCnt x).nd) d) := (R5.out.app g6 (fun q hq => (by have := World.ownsRow.lt HC.out.own q hq; exact ⟨by omega, by omega⟩))); clear o6 g6 b6 K6'))
      go_roundw
      case rel => exact ⟨k + 1, L ++ [x], a6, c6, M2, rfl, by go_num, by omega, by rw [List.map_append, HM.out, HT.out]; rfl, K6.out, HCM.out, by rw [HS.out]; exact R6.out⟩
      case measure => simp [intOf]; omega
end Go.Proofs.Ytljdjkiejppenaa
