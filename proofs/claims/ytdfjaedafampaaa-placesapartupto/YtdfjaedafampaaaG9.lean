/- Contracts and plain facts that the walks share. -/
import Derived.Test.YtdfjaedafampaaaG7
import Derived.Test.YtdfjaedafampaaaTyLots
import Derived.Test.YtdfjaedafampaaaG2
import Derived.Test.YtdfjaedafampaaaTyWords
import Derived.Test.YtdfjaedafampaaaG6
import Derived.Test.YtdfjaedafampaaaG8
namespace Go.Proofs.Ytdfjaedafampaaa
open Go.RowKit
set_option linter.unusedVariables false
theorem Ty.val_len {T : Nat → Ty.TyV} {n i : Nat} (hF : Ty.Fine T n (i + 1)) : Ty.valB (Ty.lie T i) = (!(Ty.lie T i).arr && decide ((Ty.w17 T i).length ≤ 16)) := by
  have h := Ty.wk_len (T := T) (n := n) (i := i) fun k hk => (hF k (by omega)).1
  unfold Ty.valB Ty.w17
  congr 1
  rw [Bool.eq_iff_iff]
  simp only [decide_eq_true_eq, List.length_take]
  omega
theorem Ty.val_w17 {T : Nat → Ty.TyV} {n i : Nat} (hF : Ty.Fine T n (i + 1)) (h : Ty.valB (Ty.lie T i) = true) : Ty.w17 T i = Ty.wk T i := by
  have hl := Ty.wk_len (T := T) (n := n) (i := i) fun k hk => (hF k (by omega)).1
  unfold Ty.valB at h
  simp only [Bool.and_eq_true, decide_eq_true_eq] at h
  exact List.take_of_length_le (by omega)
/-- what Words tells -/
def WdR (T : Nat → Ty.TyV) (i : Nat) (w : World) (e : Ending) (w' : World) : Prop :=
  w.grownBy w' none ∧ ((Ty.valB (Ty.lie T i) = false ∧ e = .returned (.tuple #[.slice none 0 0, .slice none 0 0, .bool false])) ∨ (Ty.valB (Ty.lie T i) = true ∧ ∃ ka kc oa oc, e = .returned (.tuple #[.slice ka (Ty.wk T i).length kc, .slice oa (Ty.wk T i).length oc, .bool true]) ∧ NumIn w'.heap.size w' ka (Ty.wk T i).length kc (atF (Ty.k1 (Ty.wk T i))) ∧ NumIn w'.heap.size w' oa (Ty.wk T i).length oc (atF (Ty.k2 (Ty.wk T i)))))
set_option maxRecDepth 100000 in
set_option maxHeartbeats 8000000 in
theorem rWords_any {N : Nat} {w : World} {T : Nat → Ty.TyV} {n : Nat} {a : Option Addr} {c : Nat} (h : TysIn N w a n c T) (hN : N ≤ w.heap.size) (hc : Ty.chk T n = 0) {i : Nat} (hi : i < n) :
    Calls Try.prog 27 #[.slice a n c, .int .i64 i] w fun e w' => WdR T i w e w' := by
  have hle := h.le
  have hmx := h.max
  unfold maxLen at hmx
  obtain ⟨h64, hF⟩ := Ty.chk_ok hc
  have hF1 := hF.mono (show i + 1 ≤ n from hi)
  have h2 := h.cut (show i + 1 ≤ n from hi)
  have hn' : (n : Int) ≤ 64 := by omega
  have hi' : (i : Int) < n := by omega
  have HL : Hid (Calls Try.prog 36 #[.slice a (i + 1) c] w fun e w' => ∃ v l, e = .returned v ∧ Lts w w' T (i + 1) v l) := rlots_any h2 hN (by omega) hF1 (fun j hj f hf W hg => rOffset_gen (h2.grow hg) (Nat.le_trans hN hg.size) (by omega) hF1 hj hf)
  have HV : Hid (Ty.valB (Ty.lie T i) = (!(Ty.lie T i).arr && decide ((Ty.w17 T i).length ≤ 16))) := Ty.val_len hF1
  have HV2 : Hid (Ty.valB (Ty.lie T i) = true → Ty.w17 T i = Ty.wk T i) := fun hh => Ty.val_w17 hF1 hh
  obtain ⟨b, off, fa, fc, rfl, _⟩ := h.at hi
  clear h hF hF1 h2 hc
  go_enter Try.func27, Try.ntmps27
  go_wp2_with (go_at_call 36; refine HL.out.mono ?_; rintro e w3 ⟨v, l, rfl, h3⟩; have H3 : Hid (Lts w w3 T (i + 1) v l) := h3; obtain ⟨la, lc, hv, hlc, hlm, hrow⟩ := h3.slice; obtain ⟨rb, hla, hcell⟩ := hrow i (Nat.lt_succ_self i); subst hla; subst hv; have hlen := h3.len; have hE := h3.ent i (by omega); obtain ⟨ee, hee⟩ : ∃ ee, ee = l[i]'(by omega) := ⟨_, rfl⟩; rw [← hee] at hE hcell; have HE : Hid (LtOk w3 ee (Ty.w17 T i) (Ty.lie T i).arr) := hE; have r0 : w3.cell? ⟨rb, i * 3, none⟩ = some (.slice ee.ka ee.n ee.kc) := hcell 0 (by decide); have r1 : w3.cell? ⟨rb, i * 3 + 1, none⟩ = some (.slice ee.oa ee.n ee.oc) := hcell 1 (by decide); have r2 : w3.cell? ⟨rb, i * 3 + 2, none⟩ = some (.bool ee.arr) := hcell 2 (by decide); unfold maxLen at hlm; clear h3 hrow hcell hE hee hlen)
  · refine bodyPost_ret (by simp [results, Try.results27, go_sem]; try rfl) rfl ?_
    refine ⟨grown_trans H3.out.gr (World.grownBy_alloc _ _ _), .inl ⟨?_, rfl⟩⟩
    rw [HV.out, ← HE.out.arr]
    simp [*]
  · refine bodyPost_ret (by simp [results, Try.results27, go_sem]; try rfl) rfl ?_
    refine ⟨grown_trans H3.out.gr (World.grownBy_alloc _ _ _), .inl ⟨?_, rfl⟩⟩
    rw [HV.out, ← HE.out.arr, ← HE.out.n]
    have : ¬ ee.n ≤ 16 := by omega
    simp [*]
  · have hv : Ty.valB (Ty.lie T i) = true := by
      rw [HV.out, ← HE.out.arr, ← HE.out.n]
      have : ee.n ≤ 16 := by omega
      simp [*]
    have hE := HE.out
    have hw := HV2.out hv
    rw [hw] at hE
    obtain ⟨W4, hW4⟩ : ∃ W4, W4 = w3.alloc (.cells #[.slice ee.ka ee.n ee.kc, .slice ee.oa ee.n ee.oc, .bool false] 81) := ⟨_, rfl⟩
    have g4 : w3.grownBy W4 none := by rw [hW4]; exact World.grownBy_alloc _ _ _
    have y0 : W4.cell? ⟨w3.heap.size, 0, none⟩ = some (.slice ee.ka ee.n ee.kc) := by rw [hW4]; simp
    have y1 : W4.cell? ⟨w3.heap.size, 1, none⟩ = some (.slice ee.oa ee.n ee.oc) := by rw [hW4]; simp
    rw [← hW4]
    have HE4 : Hid (LtOk W4 ee (Ty.wk T i) (Ty.lie T i).arr) := hE.grow g4
    have HG4 : Hid (w3.grownBy W4 none) := g4
    have HVt : Hid (Ty.valB (Ty.lie T i) = true) := hv
    obtain ⟨Yb, hYb⟩ : ∃ Yb, Yb = w3.heap.size := ⟨_, rfl⟩
    rw [← hYb] at y0 y1 ⊢
    clear hE hw hW4 g4 hv hYb r0 r1 r2
    go_quiet (fail)
    go_wp2
    refine bodyPost_ret (by simp [results, Try.results27, go_sem]; try rfl) rfl ?_
    have hn := HE4.out.n
    have gq : ∀ d, W4.grownBy (W4.drewN d) none := fun d => grown_drewN (World.grownBy.refl _ none) d
    refine ⟨grown_trans (grown_trans H3.out.gr HG4.out) (gq _), .inr ⟨HVt.out, ee.ka, ee.kc, ee.oa, ee.oc, ?_, ?_, ?_⟩⟩
    · rw [← hn]
    · rw [← hn]; exact (HE4.out.grow (gq _)).k
    · rw [← hn]; exact (HE4.out.grow (gq _)).o
section
variable {P : Program} (w : World)
theorem app_block_gen (base : Nat) (t ty e : TypeId) (i : TypeInfo) (z : Value) (size bytes : Nat) (ht : P.underlying t = some (.slice e)) (hi : P.info? e = some i) (hz : i.zero = some z)
    (hsize : i.size = size) (hby : i.bytes = bytes) (v : Value) (n : Nat) (xs : List Value) (hown : w.ownsRow base e size v n xs)
    (a : Addr) (m c : Nat) (news : List Value) (hm : 0 < m) (hl : news.length = m * size) (hnews : ∀ j u, news[j]? = some u → w.cell? (a.add j) = some u) (h1 : ∀ u ∈ news, u.oneCell' = true)
    (h63 : n + m ≤ maxLen) (hbytes : (n + m) * bytes ≤ 140737488355328) {v' : Value} {w' : World} (hr : (Builtin.append_ #[t, t] ty #[v, .slice (some a) m c]).run P w = .ok v' w') : v'.ownBlock = v.ownBlock ∨ v'.ownBlock = some w.heap.size := by
  subst hsize
  subst hby
  simp only [maxLen] at h63
  rcases hown.2 with ⟨rfl, h0⟩ | ⟨g, cap, cur, rfl, hbg, hg, hnc, hcm, hcs, htake⟩
  · have := run_append_nil (P := P) w t ty e i z ht hi hz a m c news hl hnews (by omega) (by omega) (by subst h0; simp at hbytes; omega)
    rw [hr] at this
    injection this with e1 e2
    subst e1
    exact .inr rfl
  · by_cases hroom : n + m ≤ cap
    · have hfit : n * i.size + news.length ≤ cur.size := by rw [hl, hcs, ← Nat.add_mul]; exact Nat.mul_le_mul_right _ hroom
      have := run_append_room (P := P) w t ty e i ht hi g n cap cur hg a m c news hl hnews h1 hroom hfit
      rw [hr] at this
      injection this with e1 e2
      subst e1
      exact .inl rfl
    · have := run_append_grow (P := P) w t ty e i z ht hi hz ⟨g, 0, none⟩ n cap xs hown.1 (hown.cells (g := g) rfl) a m c news hl hnews (by omega) (by omega) (growslice_fits (by omega) hbytes)
      rw [hr] at this
      injection this with e1 e2
      subst e1
      exact .inr rfl
theorem wpList_append_blk {ops : Array Oper} {rest : List Oper} {o : Oper} {a : Act} {Q : Exit → Act → World → Prop} (hgd : o.guard = none) (s x : Operand) (t : TypeId)
    (ho : o.op = .call { callee := .builtin .append, args := #[s, x], argTypes := #[t, t] })
    (base : Nat) (e : TypeId) (i : TypeInfo) (z : Value) (size bytes : Nat) (ht : P.underlying t = some (.slice e)) (hi : P.info? e = some i) (hz : i.zero = some z)
    (hsize : i.size = size) (hby : i.bytes = bytes) (hzs : z.cells.size = size) (hsz : 0 < size)
    (v : Value) (n : Nat) (xs : List Value) (hs : a.eval s = v) (hown : w.ownsRow base e size v n xs)
    (ad : Addr) (m c : Nat) (news : List Value) (hm : 0 < m) (hx : a.eval x = .slice (some ad) m c) (hl : news.length = m * size) (hnews : ∀ j u, news[j]? = some u → w.cell? (ad.add j) = some u) (h1 : ∀ u ∈ news, u.oneCell' = true)
    (h63 : n + m ≤ maxLen) (hbytes : (n + m) * bytes ≤ 140737488355328) (hbase : base ≤ w.heap.size)
    (h : ∀ v' w', w'.ownsRow base e size v' (n + m) (xs ++ news) → w.grownBy w' v.ownBlock → (v'.ownBlock = v.ownBlock ∨ v'.ownBlock = some w.heap.size) → wpList P ops Q rest (a.put o.dst v') w') : wpList P ops Q (o :: rest) a w := by
  obtain ⟨v', w', hr, h2, h3, h4⟩ := run_append_own (P := P) w base t o.type e i z size bytes ht hi hz hsize hby hzs hsz v n xs hown ad m c news hl hnews h1 h63 hbytes hbase
  have hbk := app_block_gen (P := P) w base t o.type e i z size bytes ht hi hz hsize hby v n xs hown ad m c news hm hl hnews h1 h63 hbytes hr
  refine wpList_plain hgd fun K hK => ?_
  unfold Oper.wp execOp
  simp only [ho, resolve, invoke, builtin, Sem.run_bind, Sem.run_pure, Result.andThen_ok, List.map_toArray, List.map_cons, List.map_nil, hs, hx, hr]
  exact hK _ _ (h v' w' h2 h3 hbk)
/-- one element more, that lies in a block just made -/
theorem wpList_app_one {ops : Array Oper} {rest : List Oper} {o : Oper} {a : Act} {Q : Exit → Act → World → Prop} (hgd : o.guard = none) (s x : Operand) (t : TypeId)
    (ho : o.op = .call { callee := .builtin .append, args := #[s, x], argTypes := #[t, t] })
    (base : Nat) (e : TypeId) (i : TypeInfo) (z : Value) (size bytes : Nat) (ht : P.underlying t = some (.slice e)) (hi : P.info? e = some i) (hz : i.zero = some z)
    (hsize : i.size = size) (hby : i.bytes = bytes) (hzs : z.cells.size = size) (hsz : 0 < size)
    (v : Value) (n : Nat) (xs : List Value) (hs : a.eval s = v) (hown : w.ownsRow base e size v n xs)
    (news : List Value) {nb : Nat} (hx : a.eval x = .slice (some ⟨nb, 0, none⟩) 1 1) (hnb : nb = w.heap.size) (hl : news.length = size) (h1 : ∀ u ∈ news, u.oneCell' = true)
    (h63 : n + 1 ≤ maxLen) (hbytes : (n + 1) * bytes ≤ 140737488355328) (hbase : base ≤ w.heap.size)
    (h : ∀ v' w', w'.ownsRow base e size v' (n + 1) (xs ++ news) → w.grownBy w' v.ownBlock → (∀ q, v'.ownBlock = some q → v.ownBlock = some q ∨ w.heap.size ≤ q) → wpList P ops Q rest (a.put o.dst v') w') : wpList P ops Q (o :: rest) a (w.alloc (.cells news.toArray e)) := by
  subst hnb
  have hg := World.grownBy_alloc w (.cells news.toArray e) none
  have ea : ∀ b o j : Nat, (⟨b, o, none⟩ : Addr).add j = ⟨b, o + j, none⟩ := fun b o j => by simp [Addr.add]
  refine wpList_append_blk (P := P) _ hgd s x t ho base e i z size bytes ht hi hz hsize hby hzs hsz v n xs hs (World.ownsRow.alloc hown _) ⟨w.heap.size, 0, none⟩ 1 1 news (by decide) hx (by omega)
    (by intro j u hj; rw [ea, Nat.zero_add, World.cell?_alloc_new]; simpa using hj) h1 h63 hbytes (by simp; omega) ?_
  intro v' w' h2 h3 hq
  refine h v' w' h2 (grown_trans (grown_noneR _ hg) h3) (fun q hv => ?_)
  rcases hq with e' | e'
  · exact .inl (e' ▸ hv)
  · rw [e'] at hv; simp at hv; exact .inr (by omega)
end
namespace Ab
/-- a place -/
structure Pc where
  st : Bool
  n : Int
/-- so many registers, from one on -/
def rg (r k : Nat) : List Pc := (List.range k).map fun j => ⟨false, ((r + j : Nat) : Int)⟩
/-- so many slots, from one on -/
def sl (s k : Nat) : List Pc := (List.range k).map fun j => ⟨true, ((s + j : Nat) : Int)⟩
/-- registers taken, slots taken, the places -/
structure S where
  r : Nat
  s : Nat
  l : List Pc
/-- a value of so many words -/
def one (x : S) (k : Nat) : S := if x.r + k ≤ 6 then ⟨x.r + k, x.s, x.l ++ rg x.r k⟩ else ⟨x.r, x.s + k, x.l ++ sl x.s k⟩
def go (K : Nat → Nat) (s0 : Nat) : Nat → S
  | 0 => ⟨0, s0, []⟩
  | i + 1 => one (go K s0 i) (K i)
theorem rg_len (r k : Nat) : (rg r k).length = k := by simp [rg]
theorem sl_len (s k : Nat) : (sl s k).length = k := by simp [sl]
theorem rg_succ (r k : Nat) : rg r (k + 1) = rg r k ++ [⟨false, ((r + k : Nat) : Int)⟩] := by unfold rg; rw [List.range_succ, List.map_append]; rfl
theorem sl_succ (s k : Nat) : sl s (k + 1) = sl s k ++ [⟨true, ((s + k : Nat) : Int)⟩] := by unfold sl; rw [List.range_succ, List.map_append]; rfl
theorem one_in {x : S} {k : Nat} (h : x.r + k ≤ 6) : one x k = ⟨x.r + k, x.s, x.l ++ rg x.r k⟩ := if_pos h
theorem one_out {x : S} {k : Nat} (h : ¬ x.r + k ≤ 6) : one x k = ⟨x.r, x.s + k, x.l ++ sl x.s k⟩ := if_neg h
theorem go_b {K : Nat → Nat} {s0 : Nat} : ∀ {i : Nat}, (∀ j, j < i → K j ≤ 16) → (go K s0 i).r ≤ 6 ∧ s0 ≤ (go K s0 i).s ∧ (go K s0 i).s ≤ s0 + 16 * i ∧ (go K s0 i).l.length ≤ 16 * i
  | 0, _ => ⟨Nat.zero_le _, Nat.le_refl _, by simp [go], by simp [go]⟩
  | i + 1, h => by
    have h1 := go_b (K := K) (s0 := s0) (i := i) fun j hj => h j (by omega)
    have h2 := h i (by omega)
    show (one (go K s0 i) (K i)).r ≤ 6 ∧ s0 ≤ (one (go K s0 i) (K i)).s ∧ (one (go K s0 i) (K i)).s ≤ s0 + 16 * (i + 1) ∧ (one (go K s0 i) (K i)).l.length ≤ 16 * (i + 1)
    by_cases hc : (go K s0 i).r + K i ≤ 6
    · rw [one_in hc]
      refine ⟨hc, h1.2.1, by show (go K s0 i).s ≤ _; omega, ?_⟩
      rw [List.length_append, rg_len]
      omega
    · rw [one_out hc]
      refine ⟨h1.1, by show s0 ≤ (go K s0 i).s + K i; omega, by show (go K s0 i).s + K i ≤ _; omega, ?_⟩
      rw [List.length_append, sl_len]
      omega
/-- may they be asked for? -/
def okB (T : Nat → Ty.TyV) (n : Nat) (L : Nat → Int) (m : Nat) : Bool := decide (m ≤ 8) && (List.range m).all fun k => Ty.nmB n (L k) && Ty.valB (Ty.lie T (L k).toNat)
theorem ok_iff {T : Nat → Ty.TyV} {n : Nat} {L : Nat → Int} {m : Nat} : okB T n L m = true ↔ m ≤ 8 ∧ ∀ k, k < m → 0 ≤ L k ∧ L k < n ∧ Ty.valB (Ty.lie T (L k).toNat) = true := by
  unfold okB
  simp only [Bool.and_eq_true, decide_eq_true_eq, List.all_eq_true, List.mem_range, Ty.nmB_iff, and_assoc]
/-- how many words each has -/
def kw (T : Nat → Ty.TyV) (L : Nat → Int) (k : Nat) : Nat := (Ty.wk T (L k).toNat).length
theorem kw_le {T : Nat → Ty.TyV} {n : Nat} {L : Nat → Int} {m : Nat} (hc : Ty.chk T n = 0) (h : okB T n L m = true) : ∀ k, k < m → kw T L k ≤ 16 := fun k hk => by
  obtain ⟨h0, h1, hv⟩ := (ok_iff.1 h).2 k hk
  have hF := (Ty.chk_ok hc).2
  have hF1 := hF.mono (show (L k).toNat + 1 ≤ n by omega)
  have hl := Ty.wk_len (T := T) (n := n) (i := (L k).toNat) fun j hj => (hF1 j (by omega)).1
  unfold Ty.valB at hv
  simp only [Bool.and_eq_true, decide_eq_true_eq] at hv
  unfold kw
  omega
end Ab

/-- a place's two cells -/
def cells2 (p : Ab.Pc) : List Value := [.bool p.st, .int .i64 p.n]
/-- places in a row of the call's own -/
def OwnP (w : World) (base : Nat) (v : Value) (l : List Ab.Pc) : Prop := w.ownsRow base 47 2 v l.length (l.flatMap cells2)
theorem info_place : (Try.prog.info? 47).map (fun i => (i.zero, i.size, i.bytes)) = some (some (.agg #[.bool false, .int .i64 0]), 2, 16) := by kernel_rfl
theorem ownP_nil (w : World) (base : Nat) : OwnP w base (.slice none 0 0) [] := World.ownsRow_nil _ _ _ _
theorem OwnP.ch {w w' : World} {l : List Nat} {base : Nat} {v : Value} {z : List Ab.Pc} (h : OwnP w base v z) (hg : Ch w w' l) (hne : ∀ k, v.ownBlock = some k → k ∉ l) : OwnP w' base v z := ownsRow_ch h hg hne
theorem OwnP.grow {w w' : World} {base : Nat} {v : Value} {l : List Ab.Pc} (h : OwnP w base v l) (hg : w.grownBy w' none) : OwnP w' base v l := World.ownsRow.kept h hg (Classical.em _)
theorem OwnP.base {w : World} {base : Nat} {v : Value} {l : List Ab.Pc} (h : OwnP w base v l) : ∀ k, v.ownBlock = some k → base ≤ k := fun k hk => (World.ownsRow.lt h k hk).1
theorem OwnP.lt {w : World} {base : Nat} {v : Value} {l : List Ab.Pc} (h : OwnP w base v l) : ∀ k, v.ownBlock = some k → k < w.heap.size := fun k hk => (World.ownsRow.lt h k hk).2
theorem OwnP.low {w : World} {base base' : Nat} {v : Value} {l : List Ab.Pc} (h : OwnP w base v l) (hb : base' ≤ base) : OwnP w base' v l := World.ownsRow.mono h hb
theorem flat2_len (l : List Ab.Pc) : (l.flatMap cells2).length = l.length * 2 := by
  induction l with
  | nil => rfl
  | cons v l ih => rw [List.flatMap_cons, List.length_append, ih, List.length_cons]; simp [cells2]; omega
theorem flat2_at : ∀ (l : List Ab.Pc) (i k : Nat) (hi : i < l.length), k < 2 → (l.flatMap cells2)[i * 2 + k]? = (cells2 l[i])[k]?
  | [], i, k, hi, _ => by simp at hi
  | v :: l, 0, k, _, hk => by
    rw [List.flatMap_cons, List.getElem?_append_left (by simp [cells2]; omega)]
    simp
  | v :: l, i + 1, k, hi, hk => by
    have h9 : (cells2 v).length = 2 := rfl
    rw [List.flatMap_cons, List.getElem?_append_right (by rw [h9]; omega), h9, show (i + 1) * 2 + k - 2 = i * 2 + k by omega]
    exact flat2_at l i k (by simpa using hi) hk
theorem OwnP.slice {w : World} {base : Nat} {v : Value} {l : List Ab.Pc} (h : OwnP w base v l) : ∃ a c, v = .slice a l.length c ∧ l.length ≤ c ∧ c ≤ maxLen ∧ (a = none ∧ c = 0 ∨ ∃ T, a = some ⟨T, 0, none⟩) ∧ (0 < l.length → ∃ T, a = some ⟨T, 0, none⟩ ∧ base ≤ T ∧ T < w.heap.size) := by
  rcases h.2 with ⟨rfl, h0⟩ | ⟨T, c, cur, rfl, e2, e3, e4, e5, _⟩
  · exact ⟨none, 0, by rw [h0], by omega, Nat.zero_le _, .inl ⟨rfl, rfl⟩, fun h => by omega⟩
  · exact ⟨some ⟨T, 0, none⟩, c, rfl, e4, e5, .inr ⟨T, rfl⟩, fun _ => ⟨T, rfl, e2, (World.ownsRow.lt h T rfl).2⟩⟩
theorem OwnP.cell {w : World} {base c T n : Nat} {l : List Ab.Pc} (h : OwnP w base (.slice (some ⟨T, 0, none⟩) n c) l) {i : Nat} (hi : i < l.length) : w.cell? ⟨T, i * 2, none⟩ = some (.bool l[i].st) ∧ w.cell? ⟨T, i * 2 + 1, none⟩ = some (.int .i64 l[i].n) := by
  have e : ∀ k, k < 2 → w.cell? ⟨T, i * 2 + k, none⟩ = (cells2 l[i])[k]? := fun k hk => by
    rcases h.2 with ⟨h0, _⟩ | ⟨g, c', cur, e1, e2, e3, e4, e5, e6, e7⟩
    · cases h0
    · injection e1 with e1 en ec
      injection e1 with e1
      injection e1 with e1
      subst e1 en
      exact (World.ownsRow.cellAt h (i * 2 + k) (by omega)).trans (flat2_at l i k hi hk)
  exact ⟨e 0 (by decide), e 1 (by decide)⟩
/-- cut to its beginning -/
theorem OwnP.cut {w : World} {base c T n : Nat} {l : List Ab.Pc} (h : OwnP w base (.slice (some ⟨T, 0, none⟩) n c) l) (m : Nat) (hm : m ≤ l.length) : OwnP w base (.slice (some ⟨T, 0, none⟩) m c) (l.take m) := by
  have hl : (l.take m).length = m := by rw [List.length_take]; omega
  rcases h.2 with ⟨h0, _⟩ | ⟨g, c', cur, e1, e2, e3, e4, e5, e6, e7⟩
  · cases h0
  · injection e1 with e1 en ec
    injection e1 with e1
    injection e1 with e1
    subst e1 en ec
    unfold OwnP
    rw [hl]
    refine ⟨by rw [flat2_len, hl], .inr ⟨T, c, cur, rfl, e2, e3, by omega, e5, e6, ?_⟩⟩
    have et : (l.take m).flatMap cells2 = (l.flatMap cells2).take (m * 2) := by
      have : l.flatMap cells2 = (l.take m).flatMap cells2 ++ (l.drop m).flatMap cells2 := by rw [← List.flatMap_append, List.take_append_drop]
      rw [this]
      exact (List.take_left' (by rw [flat2_len, hl])).symm
    rw [et, ← e7, List.take_take]
    congr 1
    omega
/-- one place more -/
theorem wp_appP {ops : Array Oper} {rest : List Oper} {o : Oper} {a : Act} {Q : Exit → Act → World → Prop} {W : World} (hgd : o.guard = none) (s x : Operand)
    (ho : o.op = .call { callee := .builtin .append, args := #[s, x], argTypes := #[29, 29] }) (base : Nat) (v : Value) (l : List Ab.Pc) (p : Ab.Pc) (hs : a.eval s = v) (hown : OwnP W base v l)
    {nb : Nat} (hx : a.eval x = .slice (some ⟨nb, 0, none⟩) 1 1) (hnb : nb = W.heap.size) (hl : l.length ≤ 1000) (hb : base ≤ W.heap.size)
    (h : ∀ v' w', OwnP w' base v' (l ++ [p]) → W.grownBy w' v.ownBlock → (∀ q, v'.ownBlock = some q → v.ownBlock = some q ∨ W.heap.size ≤ q) → wpList Try.prog ops Q rest (a.put o.dst v') w') : wpList Try.prog ops Q (o :: rest) a (W.alloc (Obj.cells #[.bool p.st, .int .i64 p.n] 47)) := by
  obtain ⟨i, hi, hz0, hz1, hz2⟩ := info_parts info_place
  refine wpList_app_one W hgd s x 29 ho base 47 i _ 2 16 Try.underlying29 hi hz0 hz1 hz2 rfl (by decide) v l.length (l.flatMap cells2) hs hown (cells2 p) hx hnb rfl (by intro y hy; simp [cells2] at hy; rcases hy with rfl | rfl <;> rfl) (by unfold maxLen; omega) (by omega) hb ?_
  intro v' w' ho' hg' hq
  refine h v' w' ?_ hg' hq
  unfold OwnP
  rw [List.length_append, List.flatMap_append]
  simpa using ho'
/-- places of one's own, appended to places of one's own -/
theorem wp_appPs {ops : Array Oper} {rest : List Oper} {o : Oper} {a : Act} {Q : Exit → Act → World → Prop} {W : World} (hgd : o.guard = none) (s x : Operand)
    (ho : o.op = .call { callee := .builtin .append, args := #[s, x], argTypes := #[29, 29] }) (base : Nat) (v u : Value) (l m : List Ab.Pc) (b2 : Nat) (hs : a.eval s = v) (hown : OwnP W base v l)
    (hx : a.eval x = u) (hsrc : OwnP W b2 u m) (hl : l.length ≤ 1000) (hm : m.length ≤ 1000) (hb : base ≤ W.heap.size)
    (h : ∀ v' w', OwnP w' base v' (l ++ m) → W.grownBy w' v.ownBlock → wpList Try.prog ops Q rest (a.put o.dst v') w') : wpList Try.prog ops Q (o :: rest) a W := by
  obtain ⟨i, hi, hz0, hz1, hz2⟩ := info_parts info_place
  rcases hsrc.2 with ⟨rfl, h0⟩ | ⟨T, c, cur, rfl, _⟩
  · have : m = [] := List.length_eq_zero_iff.1 h0
    subst this
    refine wpList_append_own_none hgd s x 29 ho base 47 i 2 Try.underlying29 hi v l.length (l.flatMap cells2) hs hown hx ?_
    exact h v W (by rw [List.append_nil]; exact hown) (World.grownBy.refl _ _)
  · refine wpList_append_own _ hgd s x 29 ho base 47 i _ 2 16 Try.underlying29 hi hz0 hz1 hz2 rfl (by decide) v l.length (l.flatMap cells2) hs hown ⟨T, 0, none⟩ m.length c (m.flatMap cells2) hx (flat2_len m)
      (fun j y hj => World.ownsRow.cells hsrc rfl j y hj) (by intro y hy; obtain ⟨z, _, hz⟩ := List.mem_flatMap.mp hy; simp [cells2] at hz; rcases hz with rfl | rfl <;> rfl) (by unfold maxLen; omega) (by omega) hb ?_
    intro v' w2 ho2 hg2 _
    refine h v' w2 ?_ hg2
    unfold OwnP
    rw [List.length_append, List.flatMap_append]
    exact ho2
set_option maxRecDepth 100000 in
theorem registers_any (w : World) : Calls Try.prog 30 #[] w fun e w' => e = .returned (.tuple #[.func (.func 43) #[] #[.pointer (some ⟨w.heap.size, 0, none⟩)], .func (.func 44) #[] #[.pointer (some ⟨w.heap.size, 0, none⟩)]]) ∧
    w'.cell? ⟨w.heap.size, 0, none⟩ = some (.int .i64 0) ∧ w'.frozen? ⟨w.heap.size, 0, none⟩ = false ∧ w'.heap.size = w.heap.size + 1 ∧ w.grownBy w' none := by
  go_enter Try.func30, Try.ntmps30
  go_wp2_with fail
  refine bodyPost_ret (by simp [results, Try.results30, go_sem]; try rfl) rfl ?_
  refine ⟨rfl, by simp, by simp, by simp, ?_⟩
  exact World.grownBy_alloc _ _ _
set_option maxRecDepth 100000 in
theorem left_any {w : World} {b r k : Nat} (hc : w.cell? ⟨b, 0, none⟩ = some (.int .i64 (r : Int))) (hr : r ≤ 6) (hk : k ≤ 16) :
    Calls Try.prog 43 #[.int .i64 (k : Int), .pointer (some ⟨b, 0, none⟩)] w fun e w' => e = .returned (.tuple #[.int .i64 ((r + k : Nat) : Int), .bool (decide (r + k < 6))]) ∧ w.grownBy w' none := by
  have hr' : (r : Int) ≤ 6 := by omega
  have hk' : (k : Int) ≤ 16 := by omega
  go_enter Try.func43, Try.ntmps43
  go_wp2_with fail
  go_quiet (fail)
  go_wp2
  refine bodyPost_ret (by simp [results, Try.results43, go_sem]; try rfl) rfl ?_
  refine ⟨?_, grown_drewN (World.grownBy.refl _ none) _⟩
  simp
  omega
set_option maxRecDepth 100000 in
theorem take_any {w : World} {b r k : Nat} (hc : w.cell? ⟨b, 0, none⟩ = some (.int .i64 (r : Int))) (hz : w.frozen? ⟨b, 0, none⟩ = false) (hr : r + k ≤ 6) :
    Calls Try.prog 44 #[.int .i64 (k : Int), .pointer (some ⟨b, 0, none⟩)] w fun e w' => e = .returned (.tuple #[]) ∧ w'.cell? ⟨b, 0, none⟩ = some (.int .i64 ((r + k : Nat) : Int)) ∧ w'.frozen? ⟨b, 0, none⟩ = false ∧ w'.heap.size = w.heap.size ∧ w.grownBy w' (some b) := by
  have hr' : (r : Int) + k ≤ 6 := by omega
  have hc2 := hc
  go_enter Try.func44, Try.ntmps44
  go_wp2_with fail
  go_end0
  refine ⟨rfl, ?_, ?_, ?_, ?_⟩
  · rw [World.cell?_setCell_same _ _ _ hc2]; simp
  · rw [World.frozen?_setCell]; exact hz
  · simp
  · exact grown_set _ _ _ _
set_option maxRecDepth 100000 in
set_option maxHeartbeats 4000000 in
theorem slots_any (w : World) (s k : Nat) (hs : s ≤ 1000) (hk : k ≤ 16) :
    Calls Try.prog 31 #[.int .i64 (s : Int), .int .i64 (k : Int)] w fun e w' => ∃ v, e = .returned v ∧ OwnP w' w.heap.size v (Ab.sl s k) ∧ w.grownBy w' none := by
  have hs' : (s : Int) ≤ 1000 := by omega
  have hk' : (k : Int) ≤ 16 := by omega
  go_enter Try.func31, Try.ntmps31
  go_wp2_with fail
  go_loopw [4, 7] (fun v ix wr => ∃ j : Nat, ix = .int .i64 j ∧ j ≤ k ∧ OwnP wr w.heap.size v (Ab.sl s j) ∧ w.grownBy wr none) (fun _ ix _ => k - (intOf ix).toNat)
  case atStart => exact ⟨0, rfl, Nat.zero_le _, ownP_nil _ _, World.grownBy.refl _ _⟩
  case round =>
    obtain ⟨j, rfl, hj, ho, hg⟩ := hrel
    obtain ⟨V4, hV4⟩ : ∃ V, V = u4 := ⟨_, rfl⟩
    rw [← hV4] at ho ⊢
    clear hV4
    have HO : Hid (OwnP wr w.heap.size V4 (Ab.sl s j)) := ho
    have HG : Hid (w.grownBy wr none) := hg
    have hsz := hg.size
    have hln := Ab.sl_len s j
    obtain ⟨pa, pc, rfl, _⟩ := ho.slice
    clear ho hg
    by_cases hjk : j < k
    · have hjk' : (j : Int) < k := by omega
      go_wp2_with (at_builtin; refine wp_appP rfl _ _ rfl w.heap.size (.slice pa (Ab.sl s j).length pc) (Ab.sl s j) ⟨true, (s : Int) + j⟩ rfl HO.out rfl rfl (by omega) (by omega) ?_; intro v' w2 ho2 hg2 hq2)
      have e1 : ((s : Int) + j) = ((s + j : Nat) : Int) := by omega
      go_roundw
      case rel => exact ⟨j + 1, by go_num, by omega, by rw [Ab.sl_succ, ← e1]; exact ho2, (Ch.of (l := _) HG.out).trans (grown_ch hg2) |>.nil (fun q hq => HO.out.base q (by simpa using hq))⟩
      case measure => simp [intOf]; omega
    · obtain rfl : j = k := by omega
      go_wp2_with fail
      refine bodyPost_ret (by simp [results, Try.results31, go_sem]; try rfl) rfl ?_
      exact ⟨_, rfl, HO.out, HG.out⟩
theorem NumIn.hi {N N' : Nat} {w : World} {a : Option Addr} {n c : Nat} {M : Nat → Int} (h : NumIn N w a n c M) (hN : N ≤ N') : NumIn N' w a n c M :=
  ⟨h.le, h.max, by
    rcases h.lie with h0 | ⟨b, off, e, hb, hi⟩
    · exact .inl h0
    · exact .inr ⟨b, off, e, by omega, hi⟩⟩
theorem OwnN.numIn {w : World} {base n : Nat} {v : Value} {g : Nat → Int} (h : OwnN w base v n g) : ∃ a c, v = .slice a n c ∧ NumIn w.heap.size w a n c g := by
  obtain ⟨a, c, rfl, h1, h2, h3⟩ := h.slice
  refine ⟨a, c, rfl, h1, h2, ?_⟩
  by_cases hn : n = 0
  · exact .inl hn
  · obtain ⟨T, rfl, _, hT⟩ := h3 (by omega)
    exact .inr ⟨T, 0, rfl, hT, fun i hi => by rw [Nat.zero_add]; exact h.cell hi⟩
/-- how many words each of so many entries has -/
def Ab.ks (T : Nat → Ty.TyV) (L : Nat → Int) (m : Nat) : List Int := (List.range m).map fun k => ((Ab.kw T L k : Nat) : Int)
theorem Ab.ks_succ (T : Nat → Ty.TyV) (L : Nat → Int) (m : Nat) : Ab.ks T L (m + 1) = Ab.ks T L m ++ [((Ab.kw T L m : Nat) : Int)] := by unfold Ab.ks; rw [List.range_succ, List.map_append]; rfl
theorem Ab.ks_len (T : Nat → Ty.TyV) (L : Nat → Int) (m : Nat) : (Ab.ks T L m).length = m := by simp [Ab.ks]
/-- an entry that is asked for is one, and a value's -/
def Ab.vB (T : Nat → Ty.TyV) (n : Nat) (x : Int) : Bool := Ty.nmB n x && Ty.valB (Ty.lie T x.toNat)
theorem Ab.ok_v {T : Nat → Ty.TyV} {n : Nat} {L : Nat → Int} {m : Nat} : Ab.okB T n L m = (decide (m ≤ 8) && (List.range m).all fun k => Ab.vB T n (L k)) := rfl
/-- types.Words of any number -/
theorem words7_all {N : Nat} {w : World} {T : Nat → Ty.TyV} {n : Nat} {a : Option Addr} {c : Nat} (h : TysIn N w a n c T) (hN : N ≤ w.heap.size) (hc : Ty.chk T n = 0) (x : Int) :
    Calls Try.prog 29 #[.slice a n c, .int .i64 x] w fun e w' => ∃ k kc o ol oc z, e = .returned (.tuple #[.slice k (if Ab.vB T n x then (Ty.wk T x.toNat).length else 0) kc, .slice o ol oc, .int .i64 z]) ∧ (Ab.vB T n x = true ↔ z = 0) ∧ w.grownBy w' none := by
  unfold Ab.vB
  by_cases hx : 0 ≤ x ∧ x < n
  · obtain ⟨i, rfl⟩ : ∃ i : Nat, x = i := ⟨x.toNat, by omega⟩
    have hn : Ty.nmB n (i : Int) = true := Ty.nmB_iff.2 hx
    rw [hn, Int.toNat_natCast, Bool.true_and]
    cases hv : Ty.valB (Ty.lie T i)
    · refine (words7_none h hN hc (by omega) hv).mono ?_
      rintro e w' ⟨rfl, hg⟩
      exact ⟨none, 0, none, 0, 0, 70, rfl, by simp, hg⟩
    · refine (words7_ok h hN hc (by omega) hv).mono ?_
      rintro e w' ⟨vK, vO, rfl, oK, oO, _, hg⟩
      obtain ⟨ka, kc, rfl, _⟩ := oK.slice
      obtain ⟨oa, oc, rfl, _⟩ := oO.slice
      exact ⟨ka, kc, oa, (Ty.k2 (Ty.wk T i)).length, oc, 0, by simp [Ty.k1], by simp, hg⟩
  · have hn : Ty.nmB n x = false := by rw [← Bool.not_eq_true, Ty.nmB_iff]; exact hx
    rw [hn, Bool.false_and]
    have hz : Ty.cod T n x ≠ 0 := fun e => hx (Ty.cod_ok e).2
    refine (words7_no h hN hz).mono ?_
    rintro e w' ⟨rfl, hg⟩
    exact ⟨none, 0, none, 0, 0, _, rfl, by simp [hz], hg⟩
set_option maxRecDepth 100000 in
set_option maxHeartbeats 8000000 in
theorem counts_any {N : Nat} {w : World} {T : Nat → Ty.TyV} {n : Nat} {a : Option Addr} {c : Nat} (h : TysIn N w a n c T) (hN : N ≤ w.heap.size) (hc : Ty.chk T n = 0) {M : Nat} {la : Option Addr} {m lc : Nat} {L : Nat → Int} (hL : NumIn M w la m lc L) :
    Calls Try.prog 20 #[.slice a n c, .slice la m lc] w fun e w' => ∃ va vl vc, e = .returned (.tuple #[.slice va vl vc, .bool (Ab.okB T n L m)]) ∧ (Ab.okB T n L m = true → OwnZ w' w.heap.size (.slice va vl vc) (Ab.ks T L m)) ∧ w.grownBy w' none := by
  have HW : Hid (∀ W x, w.grownBy W none → Calls Try.prog 29 #[.slice a n c, .int .i64 x] W fun e w' => ∃ k kc o ol oc z, e = .returned (.tuple #[.slice k (if Ab.vB T n x then (Ty.wk T x.toNat).length else 0) kc, .slice o ol oc, .int .i64 z]) ∧ (Ab.vB T n x = true ↔ z = 0) ∧ W.grownBy w' none) := fun W x hW => words7_all (h.grow hW) (Nat.le_trans hN hW.size) hc x
  have HL : Hid (∀ W, w.grownBy W none → NumIn M W la m lc L) := fun W hW => hL.grow hW
  have hle := hL.le
  have hmx := hL.max
  have hnl := h.le
  have hnx := h.max
  unfold maxLen at hmx hnx
  clear h hL hc
  obtain ⟨OB, hOB⟩ : ∃ b, b = Ab.okB T n L m := ⟨_, rfl⟩
  rw [← hOB]
  have HOB : Hid (OB = Ab.okB T n L m) := hOB
  clear hOB
  by_cases hm8 : m ≤ 8
  · have hm8' : (m : Int) ≤ 8 := by omega
    go_enter Try.func20, Try.ntmps20
    go_wp2_with fail
    go_loopw [4, 16] (fun v ix wr => ∃ j : Nat, ix = .int .i64 j ∧ j ≤ m ∧ OwnZ wr w.heap.size v (Ab.ks T L j) ∧ w.grownBy wr none ∧ ∀ k, k < j → Ab.vB T n (L k) = true) (fun _ ix _ => m - (intOf ix).toNat)
    case atStart => exact ⟨0, rfl, Nat.zero_le _, World.ownsRow_nil _ _ _ _, World.grownBy.refl _ _, fun k hk => by omega⟩
    case round =>
      obtain ⟨j, rfl, hj, ho, hg, hv⟩ := hrel
      obtain ⟨V4, hV4⟩ : ∃ V, V = u4 := ⟨_, rfl⟩
      rw [← hV4] at ho ⊢
      clear hV4
      have HO : Hid (OwnZ wr w.heap.size V4 (Ab.ks T L j)) := ho
      have HG : Hid (w.grownBy wr none) := hg
      have HV : Hid (∀ k, k < j → Ab.vB T n (L k) = true) := hv
      have hln := Ab.ks_len T L j
      have hsz := hg.size
      obtain ⟨pa, pc, hpp, _⟩ := ho.slice
      rw [hln] at hpp
      subst hpp
      by_cases hjm : j < m
      · have hjm' : (j : Int) < m := by omega
        obtain ⟨lb, lo, hla, _, hci⟩ := (HL.out wr hg).at hjm
        subst hla
        have HC := HW.out wr (L j) hg
        have hks := Ab.ks_succ T L j
        obtain ⟨y, hy⟩ : ∃ y, y = L j := ⟨_, rfl⟩
        rw [← hy] at HC hci
        cases hvj : Ab.vB T n y
        · rw [hvj] at HC
          have HC2 : Hid (Calls Try.prog 29 #[.slice a n c, .int .i64 y] wr fun e w' => ∃ k kc o ol oc z, e = .returned (.tuple #[.slice k 0 kc, .slice o ol oc, .int .i64 z]) ∧ z ≠ 0 ∧ wr.grownBy w' none) := HC.mono (by
            rintro e w' ⟨k, kc, o, ol, oc, z, rfl, hz, hg'⟩
            exact ⟨k, kc, o, ol, oc, z, by simp, by simpa using hz, hg'⟩)
          have hno : OB = false := by
            rw [HOB.out, Ab.ok_v]
            simp only [Bool.and_eq_false_iff, List.all_eq_false]
            exact .inr ⟨j, List.mem_range.2 hjm, by rw [← hy, hvj]; decide⟩
          clear HC ho hg hv hy hks
          subst hno
          go_wp2_with (go_at_call 29; refine HC2.out.mono ?_; rintro e w3 ⟨ka, kc, oa, ol, oc, z, rfl, hz, hg3⟩; have hz' : (z != 0) = true := (by simpa using hz))
          refine bodyPost_ret (by simp [results, Try.results20, go_sem]; try rfl) rfl ?_
          exact ⟨_, _, _, rfl, (fun h => by cases h), grown_trans HG.out hg3⟩
        · rw [hvj] at HC
          have HC2 : Hid (Calls Try.prog 29 #[.slice a n c, .int .i64 y] wr fun e w' => ∃ k kc o ol oc, e = .returned (.tuple #[.slice k (Ab.kw T L j) kc, .slice o ol oc, .int .i64 0]) ∧ wr.grownBy w' none) := HC.mono (by
            rintro e w' ⟨k, kc, o, ol, oc, z, rfl, hz, hg'⟩
            obtain rfl : z = 0 := hz.1 rfl
            exact ⟨k, kc, o, ol, oc, by rw [Ab.kw, ← hy]; simp, hg'⟩)
          have HVj : Hid (Ab.vB T n (L j) = true) := by rw [← hy]; exact hvj
          clear HC ho hg hv hy hvj
          generalize Ab.kw T L j = q at *
          have HKs : Hid (Ab.ks T L (j + 1) = Ab.ks T L j ++ [(q : Int)]) := hks
          clear hks
          go_wp2_with (first
            | (go_at_call 29; refine HC2.out.mono ?_; rintro e w3 ⟨ka, kc, oa, ol, oc, rfl, hg3⟩; have HG3 : Hid (wr.grownBy w3 none) := hg3; have hs3 := hg3.size; have HO3 : Hid (OwnZ w3 w.heap.size (.slice pa j pc) (Ab.ks T L j)) := HO.out.grow hg3; clear hg3)
            | (at_builtin; refine wp_appY1 rfl _ _ rfl w.heap.size (.slice pa j pc) (Ab.ks T L j) (q : Int) rfl HO3.out rfl rfl (by omega) (by omega) ?_; intro v' w5 ho5 hg5 hq5))
          go_roundw
          case rel => exact ⟨j + 1, by go_num, by omega, by rw [HKs.out]; exact ho5, ((Ch.of (l := _) (grown_trans HG.out HG3.out)).trans (grown_ch hg5)).nil (fun q hq => HO.out.base q (by simpa using hq)), fun k hk => by
            by_cases e : k < j
            · exact HV.out k e
            · obtain rfl : k = j := by omega
              exact HVj.out⟩
          case measure => simp [intOf]; omega
      · obtain rfl : j = m := by omega
        have hyes : OB = true := by
          rw [HOB.out, Ab.ok_v]
          simp only [Bool.and_eq_true, decide_eq_true_eq, List.all_eq_true, List.mem_range]
          exact ⟨hm8, hv⟩
        subst hyes
        clear ho hg hv
        go_wp2_with fail
        refine bodyPost_ret (by simp [results, Try.results20, go_sem]; try rfl) rfl ?_
        exact ⟨_, _, _, rfl, HO.out, HG.out⟩
  · have hm8' : (8 : Int) < m := by omega
    have hno : OB = false := by
      rw [HOB.out]
      unfold Ab.okB
      simp [hm8]
    subst hno
    go_enter Try.func20, Try.ntmps20
    go_wp2_with fail
    refine bodyPost_ret (by simp [results, Try.results20, go_sem]; try rfl) rfl ?_
    exact ⟨_, _, _, rfl, (fun h => by cases h), World.grownBy.refl _ _⟩
/-- the value is known -/
def eqV (x : Value) : Value → World → Prop := fun v _ => v = x
/-- what is known of the i-th operation's value -/
def psiL (L : List (Value → World → Prop)) (i : Nat) (v : Value) (w : World) : Prop := L.getD i (fun _ _ => False) v w
def StabV (f : Value → World → Prop) : Prop := ∀ v w w', f v w → w.grownBy w' none → f v w'
theorem stab_eq (x : Value) : StabV (eqV x) := fun _ _ _ h _ => h
def StabL : List (Value → World → Prop) → Prop
  | [] => True
  | f :: l => StabV f ∧ StabL l
theorem psiL_stable : ∀ {L : List (Value → World → Prop)}, StabL L → ∀ {i : Nat} {v : Value} {w w' : World}, psiL L i v w → w.grownBy w' none → psiL L i v w'
  | [], _, _, _, _, _, h, _ => by simp [psiL] at h
  | f :: l, hs, 0, v, w, w', h, g => hs.1 v w w' h g
  | f :: l, hs, i + 1, v, w, w', h, g => by
    have := psiL_stable (i := i) hs.2 (by simpa [psiL] using h) g
    simpa [psiL] using this
theorem stab_nil : StabL [] := trivial
theorem stab_cons {f : Value → World → Prop} {l : List (Value → World → Prop)} (h1 : StabV f) (h2 : StabL l) : StabL (f :: l) := ⟨h1, h2⟩
theorem psiL_hst {n : Nat} {L : List (Value → World → Prop)} (h : StabL L) : ∀ i v w w', i < n → psiL L i v w → w.grownBy w' none → psiL L i v w' := fun _ _ _ _ _ h1 g => psiL_stable h h1 g
end Go.Proofs.Ytdfjaedafampaaa
