/- Contracts and plain facts that the walks share. -/
import Derived.Test.YtkiockffejlnhaaGreatDoorG20
import Derived.Test.YtkiockffejlnhaaGreatDoorG11
import Derived.Test.YtkiockffejlnhaaGreatDoorG14
import Derived.Test.YtkiockffejlnhaaGreatDoorLeGrown
import Derived.Test.YtkiockffejlnhaaGreatDoorG19
namespace Go.Proofs.YtkiockffejlnhaaGreatDoor
open Go.RowKit
set_option linter.unusedVariables false
def FormOk (t en : Int) (K : Nat) (V : Nat → Lk.PcV) : Prop := (t = 1 ∨ t = 2) ∧ 0 < K ∧ K ≤ 33 ∧ 0 ≤ en ∧ en < K ∧ Lk.piecesB t K V = true
def errI (n : Int) : Ending := .returned (.tuple #[.agg #[.int .i64 0, .slice none 0 0, .slice none 0 0, .int .i64 0, .slice none 0 0], .int .i64 n])
def LeRes (t en : Int) (K : Nat) (V : Nat → Lk.PcV) (dn : Nat) (dg : Nat → Int) (w : World) (e : Ending) (w' : World) : Prop :=
  (¬ FormOk t en K V ∧ e = errI 60) ∨ (FormOk t en K V ∧ ∃ Ls : Nat → Nat → Bool, (∀ k, k < K → ((V k).sh t).Least (Ls k)) ∧
    (((1048576 < dn ∨ 1048576 < Lk.pos (ends V (Lk.SS t V Ls)) K) ∧ e = errI 61) ∨
     (dn ≤ 1048576 ∧ Lk.pos (ends V (Lk.SS t V Ls)) K ≤ 1048576 ∧ ∃ cv dv TF, e = .returned (.tuple #[.agg #[.int .i64 t, cv, dv, .int .i64 (Lk.pos (ends V (Lk.SS t V Ls)) en.toNat), .slice (some ⟨TF, 0, none⟩) K K], .int .i64 0]) ∧
      OwnL w' w.heap.size cv (Lk.codeA t V (Lk.SS t V Ls) K) ∧ OwnB w' w.heap.size dv dn dg ∧ OwnN w' w.heap.size (.slice (some ⟨TF, 0, none⟩) K K) K (Lk.pos (ends V (Lk.SS t V Ls))))))
theorem link_ex {w : World} {t en : Int} {a da : Option Addr} {K c dn dc : Nat} {V : Nat → Lk.PcV} {A : Nat → PcA} {dg : Nat → Int} (h : PcsIn w.heap.size w a K c V A) (hTab : TabAt w) (hn : ∀ k, k < K → ((V k).n : Int) ≤ 8796093022208)
    (hd0 : da = none → dn = 0 ∧ dc = 0) (hd : Bs w da dn dg) (hdl : ∀ b off, 0 < dn → da = some ⟨b, off, none⟩ → b < w.heap.size) (hdn : (dn : Int) ≤ 9223372036854775807) :
    Calls Tryz.prog 8 #[.int .i64 t, .slice a K c, .slice da dn dc, .int .i64 en] w fun e w' => w.grownBy w' none ∧ LeRes t en K V dn dg w e w' := by
  have hps : ∀ W, w.grownBy W none → PcsIn w.heap.size W a K c V A := fun W g => h.ch (l := []) (Ch.of g) (by simp)
  by_cases h1 : t = 1
  · subst h1
    by_cases hK : K = 0 ∨ 33 < K
    · exact (link_no fun W _ => (take_r0 W hK).mono fun e w' ⟨he, hw⟩ => ⟨he, hw ▸ gr0⟩).mono fun e w' ⟨he, hg⟩ => ⟨hg, .inl ⟨fun hY => by have h1 := hY.2.1; have h2 := hY.2.2.1; omega, he⟩⟩
    · by_cases he : en < 0 ∨ (K : Int) ≤ en
      · exact (link_er h hTab (by omega) (by omega) hn he).mono fun e w' ⟨he', hg⟩ => ⟨hg, .inl ⟨fun hY => by have h1 := hY.2.2.2.1; have h2 := hY.2.2.2.2.1; omega, he'⟩⟩
      · obtain ⟨n, rfl⟩ : ∃ n : Nat, en = n := ⟨en.toNat, by omega⟩
        cases hB : Lk.piecesB 1 K V
        · exact (link_no fun W g => (take_r (hps W g) (hTab.kept g (by simp)) hTab.1 g.size (by omega) (by omega) hn).mono fun e w' ⟨g2, h2⟩ => by
            rcases h2 with ⟨h2, _⟩ | ⟨_, h2⟩
            · rw [hB] at h2; cases h2
            · exact ⟨h2, g2⟩).mono fun e w' ⟨he, hg⟩ => ⟨hg, .inl ⟨fun hY => (by have := hY.2.2.2.2.2; rw [hB] at this; cases this), he⟩⟩
        · exact (link_r h hTab (by omega) (by omega) hn hB (by omega) hd0 hd hdl hdn).mono fun e w' ⟨hg, Ls, hL, hr⟩ => ⟨hg, .inr ⟨⟨.inl rfl, by omega, by omega, by omega, by omega, hB⟩, Ls, hL, hr⟩⟩
  · by_cases h2 : t = 2
    · subst h2
      by_cases hK : K = 0 ∨ 33 < K
      · exact (link_no fun W _ => (take_c0 W hK).mono fun e w' ⟨he, hw⟩ => ⟨he, hw ▸ gr0⟩).mono fun e w' ⟨he, hg⟩ => ⟨hg, .inl ⟨fun hY => by have h1 := hY.2.1; have h2 := hY.2.2.1; omega, he⟩⟩
      · by_cases he : en < 0 ∨ (K : Int) ≤ en
        · exact (link_ec h hTab (by omega) (by omega) hn he).mono fun e w' ⟨he', hg⟩ => ⟨hg, .inl ⟨fun hY => by have h1 := hY.2.2.2.1; have h2 := hY.2.2.2.2.1; omega, he'⟩⟩
        · obtain ⟨n, rfl⟩ : ∃ n : Nat, en = n := ⟨en.toNat, by omega⟩
          cases hB : Lk.piecesB 2 K V
          · exact (link_no fun W g => (take_c (hps W g) (hTab.kept g (by simp)) hTab.1 g.size (by omega) (by omega) hn).mono fun e w' ⟨g2, h2⟩ => by
              rcases h2 with ⟨h2, _⟩ | ⟨_, h2⟩
              · rw [hB] at h2; cases h2
              · exact ⟨h2, g2⟩).mono fun e w' ⟨he, hg⟩ => ⟨hg, .inl ⟨fun hY => (by have := hY.2.2.2.2.2; rw [hB] at this; cases this), he⟩⟩
          · exact (link_c h hTab (by omega) (by omega) hn hB (by omega) hd0 hd hdl hdn).mono fun e w' ⟨hg, Ls, hL, hr⟩ => ⟨hg, .inr ⟨⟨.inr rfl, by omega, by omega, by omega, by omega, hB⟩, Ls, hL, hr⟩⟩
    · exact (link_no fun W _ => (take_no W (by simpa using h1) (by simpa using h2)).mono fun e w' ⟨he, hw⟩ => ⟨he, hw ▸ gr0⟩).mono fun e w' ⟨he, hg⟩ => ⟨hg, .inl ⟨fun hY => by rcases hY.1 with h | h <;> contradiction, he⟩⟩
section
variable {P : Program} (w : World)
theorem app_block_gen (base : Nat) (t ty e : TypeId) (i : TypeInfo) (z : Value) (size bytes : Nat) (ht : P.underlying t = some (.slice e)) (hi : P.info? e = some i) (hz : i.zero = some z)
  (hsize : i.size = size) (hby : i.bytes = bytes) (v : Value) (n : Nat) (xs : List Value) (hown : w.ownsRow base e size v n xs)
  (a : Addr) (m c : Nat) (news : List Value) (hm : 0 < m) (hl : news.length = m * size) (hnews : ∀ j u, news[j]? = some u → w.cell? (a.add j) = some u) (h1 : ∀ u ∈ news, u.oneCell' = true)
  (h63 : n + m ≤ maxLen) (hbytes : (n + m) * bytes ≤ 140737488355328) {v' : Value} {w' : World} (hr : (Builtin.append_ #[t, t] ty #[v, .slice (some a) m c]).run P w = .ok v' w') : v'.ownBlock = v.ownBlock ∨ v'.ownBlock = some w.heap.size := by
 subst hsize
 subst hby
 simp only [maxLen] at h63
 rcases hown.2 with ⟨rfl, h0⟩ | ⟨g, cap, cur, rfl, hbg, hg, hnc, hcm, hcs, htake⟩
 ·have := run_append_nil (P := P) w t ty e i z ht hi hz a m c news hl hnews (by omega) (by omega) (by subst h0; simp at hbytes; omega)
  rw [hr] at this
  injection this with e1 e2
  subst e1
  exact .inr rfl
 ·by_cases hroom : n + m ≤ cap
  ·have hfit : n * i.size + news.length ≤ cur.size := by rw [hl, hcs, ← Nat.add_mul]; exact Nat.mul_le_mul_right _ hroom
   have := run_append_room (P := P) w t ty e i ht hi g n cap cur hg a m c news hl hnews h1 hroom hfit
   rw [hr] at this
   injection this with e1 e2
   subst e1
   exact .inl rfl
  ·have := run_append_grow (P := P) w t ty e i z ht hi hz ⟨g, 0, none⟩ n cap xs hown.1 (hown.cells (g := g) rfl) a m c news hl hnews (by omega) (by omega) (growslice_fits (by omega) hbytes)
   rw [hr] at this
   injection this with e1 e2
   subst e1
   exact .inr rfl
theorem wpList_append_blk {ops : Array Oper} {rest : List Oper} {o : Oper} {a : Act} {Q : Exit → Act → World → Prop} (hgd : o.guard = none) (s x : Operand) (t : TypeId)
  (ho : o.op = .call { callee := .builtin .append, args := #[s, x], argTypes := #[t, t] })
  (base : Nat) (e : TypeId) (i : TypeInfo) (z : Value) (size bytes : Nat) (ht : P.underlying t = some (.slice e)) (hi : P.info? e = some i) (hz : i.zero = some z)
  (hsize : i.size = size) (hby : i.bytes = bytes) (hzs : z.cells.size = size) (hsz : 0 < size)
  (v : Value) (n : Nat) (xs : List Value) (hs : a.eval s = v) (hown : w.ownsRow base e size v n xs)
  (ad : Addr) (m c : Nat) (news : List Value) (hm : 0 < m) (hx : a.eval x = .slice (some ad) m c) (hl : news.length = m * size) (hnews : ∀ j u, news[j]? = some u → w.cell? (ad.add j) = some u) (h1 : ∀ u ∈ news, u.oneCell' = true)
  (h63 : n + m ≤ maxLen) (hbytes : (n + m) * bytes ≤ 140737488355328) (hbase : base ≤ w.heap.size)
  (h : ∀ v' w', w'.ownsRow base e size v' (n + m) (xs ++ news) → w.grownBy w' v.ownBlock → (v'.ownBlock = v.ownBlock ∨ v'.ownBlock = some w.heap.size) → wpList P ops Q rest (a.put o.dst v') w') : wpList P ops Q (o :: rest) a w := by
 obtain ⟨v', w', hr, h2, h3, h4⟩ := run_append_own (P := P) w base t o.type e i z size bytes ht hi hz hsize hby hzs hsz v n xs hown ad m c news hl hnews h1 h63 hbytes hbase
 have hbk := app_block_gen (P := P) w base t o.type e i z size bytes ht hi hz hsize hby v n xs hown ad m c news hm hl hnews h1 h63 hbytes hr
 refine wpList_plain hgd fun K hK => ?_
 unfold Oper.wp execOp
 simp only [ho, resolve, invoke, builtin, Sem.run_bind, Sem.run_pure, Result.andThen_ok, List.map_toArray, List.map_cons, List.map_nil, hs, hx, hr]
 exact hK _ _ (h v' w' h2 h3 hbk)
theorem wpList_app_one {ops : Array Oper} {rest : List Oper} {o : Oper} {a : Act} {Q : Exit → Act → World → Prop} (hgd : o.guard = none) (s x : Operand) (t : TypeId)
  (ho : o.op = .call { callee := .builtin .append, args := #[s, x], argTypes := #[t, t] })
  (base : Nat) (e : TypeId) (i : TypeInfo) (z : Value) (size bytes : Nat) (ht : P.underlying t = some (.slice e)) (hi : P.info? e = some i) (hz : i.zero = some z)
  (hsize : i.size = size) (hby : i.bytes = bytes) (hzs : z.cells.size = size) (hsz : 0 < size)
  (v : Value) (n : Nat) (xs : List Value) (hs : a.eval s = v) (hown : w.ownsRow base e size v n xs)
  (news : List Value) {nb : Nat} (hx : a.eval x = .slice (some ⟨nb, 0, none⟩) 1 1) (hnb : nb = w.heap.size) (hl : news.length = size) (h1 : ∀ u ∈ news, u.oneCell' = true)
  (h63 : n + 1 ≤ maxLen) (hbytes : (n + 1) * bytes ≤ 140737488355328) (hbase : base ≤ w.heap.size)
  (h : ∀ v' w', w'.ownsRow base e size v' (n + 1) (xs ++ news) → w.grownBy w' v.ownBlock → (∀ q, v'.ownBlock = some q → v.ownBlock = some q ∨ w.heap.size ≤ q) → wpList P ops Q rest (a.put o.dst v') w') : wpList P ops Q (o :: rest) a (w.alloc (.cells news.toArray e)) := by
 subst hnb
 have hg := World.grownBy_alloc w (.cells news.toArray e) none
 have ea : ∀ b o j : Nat, (⟨b, o, none⟩ : Addr).add j = ⟨b, o + j, none⟩ := fun b o j => by simp [Addr.add]
 refine wpList_append_blk (P := P) _ hgd s x t ho base e i z size bytes ht hi hz hsize hby hzs hsz v n xs hs (World.ownsRow.alloc hown _) ⟨w.heap.size, 0, none⟩ 1 1 news (by decide) hx (by omega)
  (by intro j u hj; rw [ea, Nat.zero_add, World.cell?_alloc_new]; simpa using hj) h1 h63 hbytes (by simp; omega) ?_
 intro v' w' h2 h3 hq
 refine h v' w' h2 (grown_trans (grown_noneR _ hg) h3) (fun q hv => ?_)
 rcases hq with e' | e'
 ·exact .inl (e' ▸ hv)
 ·rw [e'] at hv; simp at hv; exact .inr (by omega)
end
section
variable {P : Program} {ops : Array Oper}
structure AppInv (ops : Array Oper) (n : Nat) (listed : Array Bool) : Prop where
 size : listed.size = ops.size
 cl : ∀ j oj, ops[j]? = some oj → listed.getD j false = true → ∀ e ∈ oj.after, Region.binds .any e = true → listed.getD e.on false = true
 t0 : listed.getD n false = false
 t1 : listed.getD (n + 1) false = true
 t2 : listed.getD (n + 2) false = false
theorem AppInv.set {n i : Nat} {listed : Array Bool} (h : AppInv ops n listed) (hi : i ∈ Region.ready .any ops listed) (hin : i < n) : AppInv ops n (listed.setIfInBounds i true) := by
 obtain ⟨_, o, ho, hall⟩ := mem_ready.1 hi
 refine ⟨by rw [Array.size_setIfInBounds]; exact h.size, fun j oj hj hl e he hb => getD_set_true ?_, ?_, getD_set_true h.t1, ?_⟩
 ·by_cases hji : j = i
  ·subst hji
   obtain rfl : oj = o := Option.some.inj (hj.symm.trans ho)
   exact hall e he hb
  ·rw [getD_set_ne false (Ne.symm hji)] at hl
   exact h.cl j oj hj hl e he hb
 ·rw [getD_set_ne false (by omega)]; exact h.t0
 ·rw [getD_set_ne false (by omega)]; exact h.t2
end
def OwnS (w : World) (base : Nat) (v : Value) (S : List Value) : Prop := w.ownsRow base 30 1 v S.length S
theorem info_ints : (Tryz.prog.info? 30).map (fun i => (i.zero, i.size, i.bytes)) = some (some (.slice none 0 0), 1, 24) := by kernel_rfl
theorem wp_appSl {ops : Array Oper} {rest : List Oper} {o : Oper} {a : Act} {Q : Exit → Act → World → Prop} {W : World} (hgd : o.guard = none) (s x : Operand)
  (ho : o.op = .call { callee := .builtin .append, args := #[s, x], argTypes := #[66, 66] }) (base : Nat) (v : Value) (S : List Value) (ua : Option Addr) (un uc : Nat) (hs : a.eval s = v) (hown : OwnS W base v S)
  {nb : Nat} (hx : a.eval x = .slice (some ⟨nb, 0, none⟩) 1 1) (hnb : nb = W.heap.size) (hl : S.length ≤ 2000000) (hb : base ≤ W.heap.size)
  (h : ∀ v' w', OwnS w' base v' (S ++ [.slice ua un uc]) → W.grownBy w' v.ownBlock → wpList Tryz.prog ops Q rest (a.put o.dst v') w') : wpList Tryz.prog ops Q (o :: rest) a (W.alloc (Obj.cells #[.slice ua un uc] 30)) := by
 obtain ⟨i, hi, hz0, hz1, hz2⟩ := info_parts info_ints
 refine wpList_app_one (P := Tryz.prog) W hgd s x 66 ho base 30 i _ 1 24 Tryz.underlying66 hi hz0 hz1 hz2 rfl (by decide) v S.length S hs hown [.slice ua un uc] hx hnb rfl (by intro y hy; simp at hy; subst hy; rfl) (by unfold maxLen; omega) (by omega) hb ?_
 intro v' w' h2 h3 _
 refine h v' w' ?_ h3
 unfold OwnS
 rw [List.length_append]
 exact h2
theorem wp_appZb {ops : Array Oper} {rest : List Oper} {o : Oper} {a : Act} {Q : Exit → Act → World → Prop} {W : World} (hgd : o.guard = none) (s x : Operand)
  (ho : o.op = .call { callee := .builtin .append, args := #[s, x], argTypes := #[30, 30] }) (base : Nat) (v : Value) (l : List Int) (X : Int) (hs : a.eval s = v) (hown : OwnZ W base v l)
  {nb : Nat} (hx : a.eval x = .slice (some ⟨nb, 0, none⟩) 1 1) (hnb : nb = W.heap.size) (hl : l.length ≤ 2000000) (hb : base ≤ W.heap.size)
  (h : ∀ v' w', OwnZ w' base v' (l ++ [X]) → W.grownBy w' v.ownBlock → (∀ q, v'.ownBlock = some q → v.ownBlock = some q ∨ W.heap.size ≤ q) → wpList Tryz.prog ops Q rest (a.put o.dst v') w') : wpList Tryz.prog ops Q (o :: rest) a (W.alloc (Obj.cells #[.int .i64 X] 3)) := by
 obtain ⟨i, hi, hz0, hz1, hz2⟩ := info_parts info_int
 refine wpList_app_one (P := Tryz.prog) W hgd s x 30 ho base 3 i _ 1 8 Tryz.underlying30 hi hz0 hz1 hz2 rfl (by decide) v l.length (l.map (Value.int .i64)) hs hown [.int .i64 X] hx hnb rfl (by intro y hy; simp at hy; subst hy; rfl) (by unfold maxLen; omega) (by omega) hb ?_
 intro v' w' h2 h3 h4
 refine h v' w' ?_ h3 h4
 unfold OwnZ
 rw [List.length_append, List.map_append]
 exact h2
theorem row_apart {w : World} {b e size n : Nat} {v : Value} {xs : List Value} (h : w.ownsRow b e size v n xs) {g : Nat} {cur : Array Value} {e' : TypeId} {f : Nat × Nat} (he : w.heap[g]? = some (.cells cur e' f)) (hne : e' ≠ e) : v.ownBlock ≠ some g := by
 intro hb
 rcases h.2 with ⟨e1, _⟩ | ⟨g', c, cur', e1, _, e2, _⟩
 ·rw [e1] at hb; cases hb
 ·rw [e1] at hb
  simp [Value.ownBlock] at hb
  subst hb
  rw [he] at e2
  simp at e2
  exact hne e2.2.1
theorem rows_apart {w : World} {b1 b2 e1 e2 s1 s2 n1 n2 : Nat} {v1 v2 : Value} {x1 x2 : List Value} (h1 : w.ownsRow b1 e1 s1 v1 n1 x1) (h2 : w.ownsRow b2 e2 s2 v2 n2 x2) (hne : e1 ≠ e2) : ∀ q, v1.ownBlock = some q → q ∉ v2.ownBlock.toList := by
 intro q hq hm
 rcases h1.2 with ⟨rfl, _⟩ | ⟨g', c, cur', rfl, _, hh, _⟩
 ·cases hq
 ·simp [Value.ownBlock] at hq
  subst hq
  exact row_apart h2 hh hne (by simpa using hm)
structure PlT (wr : World) (b0 : Nat) (fv : Value) (s : Nat → Int) (n : Nat) (u : Option Value) : Prop where
 ex : ∃ T c, u = some (.slice (some ⟨T, 0, none⟩) (n + 1) c) ∧ n + 1 ≤ c ∧ b0 ≤ T ∧ fv.ownBlock ≠ some T ∧ IntB wr T ∧ ∀ i, i ≤ n → wr.cell? ⟨T, i, none⟩ = some (.int .i64 (Lk.pos s i))
structure Ph (W4 wr : World) (IB : Nat) (t : Int) (cv dv fv al : Value) (V : Nat → Lk.PcV) (S : Nat → Nat → Int) (q : Nat) (SL : List Value) : Prop where
 lt : IB < W4.heap.size
 img : wr.rowIs IB 32 5 (row5 (.int .i64 t) cv dv (.int .i64 0) fv)
 fz : OwnZ wr W4.heap.size fv ((List.range q).map (Lk.pos (ends V S)))
 al : OwnS wr W4.heap.size al SL
 len : SL.length = q
 pl : ∀ j, j < q → PlT wr W4.heap.size fv (S j) (V j).n SL[j]?
 ch : Ch W4 wr [IB]
theorem rowIs_ch {w w' : World} {b n : Nat} {T : TypeId} {f : Nat → Value} {l : List Nat} (h : w.rowIs b T n f) (g : Ch w w' l) (hb : b ∉ l) : w'.rowIs b T n f := h.of_block (g.block _ h.lt hb)
theorem row5_set4 {w : World} {b : Nat} {T : TypeId} {a0 a1 a2 a3 a4 : Value} (h : w.rowIs b T 5 (row5 a0 a1 a2 a3 a4)) (v : Value) : (w.setCell ⟨b, 4, none⟩ v).rowIs b T 5 (row5 a0 a1 a2 a3 v) :=
 (h.set 4 v).congr fun i hi => by
  have hc : i = 0 ∨ i = 1 ∨ i = 2 ∨ i = 3 ∨ i = 4 := by omega
  rcases hc with rfl | rfl | rfl | rfl | rfl <;> rfl
theorem PlT.ch {w w' : World} {b0 n : Nat} {fv : Value} {s : Nat → Int} {u : Option Value} {l : List Nat} (h : PlT w b0 fv s n u) (hg : Ch w w' l) (hl : ∀ T, b0 ≤ T → fv.ownBlock ≠ some T → IntB w T → T ∉ l) : PlT w' b0 fv s n u := by
 obtain ⟨T, c, h1, h2, h3, h4, h5, h6⟩ := h.ex
 have hT := hl T h3 h4 h5
 exact ⟨T, c, h1, h2, h3, h4, h5.ch hg hT, fun i hi => hg.cell (h6 i hi) hT⟩
theorem Ph.grow {W4 wr w' : World} {IB q : Nat} {t : Int} {cv dv fv al : Value} {V : Nat → Lk.PcV} {S : Nat → Nat → Int} {SL : List Value} (h : Ph W4 wr IB t cv dv fv al V S q SL) (g : wr.grownBy w' none) : Ph W4 w' IB t cv dv fv al V S q SL :=
 ⟨h.lt, rowIs_grown h.img g, h.fz.grow g, World.ownsRow.kept h.al g (Classical.em _), h.len, fun j hj => (h.pl j hj).ch (l := []) (Ch.of g) (by simp), h.ch.trans (Ch.of g)⟩
theorem Ph.step1 {W4 wr w1 w2 w3 : World} {IB k T c : Nat} {t : Int} {cv dv fv al al' fv' : Value} {V : Nat → Lk.PcV} {S : Nat → Nat → Int} {SL : List Value} (h : Ph W4 wr IB t cv dv fv al V S k SL)
  (g1 : wr.grownBy w1 none) (o1 : OwnZ w1 wr.heap.size (.slice (some ⟨T, 0, none⟩) ((V k).n + 1) c) ((List.range ((V k).n + 1)).map (Lk.pos (S k))))
  (o2 : OwnS w2 W4.heap.size al' (SL ++ [.slice (some ⟨T, 0, none⟩) ((V k).n + 1) c])) (g2 : w1.grownBy w2 al.ownBlock)
  (o3 : OwnZ w3 W4.heap.size fv' ((List.range k).map (Lk.pos (ends V S)) ++ [Lk.pos (ends V S) k])) (g3 : w2.grownBy w3 fv.ownBlock) (q3 : ∀ q, fv'.ownBlock = some q → fv.ownBlock = some q ∨ w2.heap.size ≤ q) :
  Ph W4 (w3.setCell ⟨IB, 4, none⟩ fv') IB t cv dv fv' al' V S (k + 1) (SL ++ [.slice (some ⟨T, 0, none⟩) ((V k).n + 1) c]) := by
 have h1 := h.grow g1
 have hlt := h.lt
 have s0 := h.ch.size
 have s1 := g1.size
 have s2 := g2.size
 have c2 := grown_ch g2
 have c3 := grown_ch g3
 have cs : Ch w3 (w3.setCell ⟨IB, 4, none⟩ fv') [IB] := Ch.one (grown_set _ _ _ _) (by simp)
 have ab : ∀ q, al.ownBlock = some q → W4.heap.size ≤ q := fun q hq => (World.ownsRow.lt h.al q hq).1
 have fb : ∀ q, fv.ownBlock = some q → W4.heap.size ≤ q ∧ q < wr.heap.size := fun q hq => World.ownsRow.lt h.fz q hq
 have f1b : ∀ q, fv'.ownBlock = some q → W4.heap.size ≤ q := fun q hq => (World.ownsRow.lt o3 q hq).1
 have nIal : IB ∉ al.ownBlock.toList := fun hm => by have := ab IB (by simpa using hm); omega
 have nIfv : IB ∉ fv.ownBlock.toList := fun hm => by have := (fb IB (by simpa using hm)).1; omega
 have fz2 : OwnZ w2 W4.heap.size fv ((List.range k).map (Lk.pos (ends V S))) := h1.fz.ch c2 (rows_apart h1.fz h1.al (by decide))
 have hT : IntB w1 T ∧ wr.heap.size ≤ T ∧ T < w1.heap.size ∧ (V k).n + 1 ≤ c := by
  rcases o1.2 with ⟨e, _⟩ | ⟨T', c', cur, e, hb, hh, hc, _⟩
  ·cases e
  ·simp at e
   obtain ⟨rfl, rfl⟩ := e
   refine ⟨⟨cur, hh⟩, hb, (Array.getElem?_eq_some_iff.1 hh).1, by simpa using hc⟩
 refine ⟨hlt, row5_set4 (rowIs_ch (rowIs_ch h1.img c2 nIal) c3 nIfv) fv', ?_, ?_, by simp [h.len], fun j hj => ?_, ?_⟩
 ·rw [List.range_succ, List.map_append]
  exact o3.ch cs (fun q hq => by have := f1b q hq; simp; omega)
 ·have := ownsRow_ch o2 c3 (rows_apart o2 fz2 (by decide))
  exact ownsRow_ch this cs (fun q hq => by have := (World.ownsRow.lt o2 q hq).1; simp; omega)
 ·by_cases hjk : j < k
  ·obtain ⟨Tj, cj, e1, e2, e3, e4, e5, e6⟩ := (h1.pl j hjk).ex
   have l1 : Tj ∉ al.ownBlock.toList := fun hm => by
    obtain ⟨cur, hc⟩ := e5
    exact row_apart h1.al hc (by decide) (by simpa using hm)
   have l2 : Tj ∉ fv.ownBlock.toList := fun hm => e4 (by simpa using hm)
   have l3 : Tj ∉ [IB] := by simp; omega
   have hTj : Tj < wr.heap.size := by
    obtain ⟨Tx, cx, f1, _, _, _, f5, _⟩ := (h.pl j hjk).ex
    rw [e1] at f1
    simp at f1
    have := f5.lt
    rw [f1.1]
    exact this
   refine ⟨Tj, cj, ?_, e2, e3, fun hf => ?_, ((e5.ch c2 l1).ch c3 l2).ch cs l3, fun i hi => cs.cell (c3.cell (c2.cell (e6 i hi) l1) l2) l3⟩
   ·rw [List.getElem?_append_left (by rw [h.len]; exact hjk)]
    exact e1
   ·rcases q3 Tj hf with h5 | h5
    ·exact e4 h5
    ·omega
  ·obtain rfl : j = k := by omega
   have l1 : T ∉ al.ownBlock.toList := fun hm => by
    obtain ⟨cur, hc⟩ := hT.1
    exact row_apart h1.al hc (by decide) (by simpa using hm)
   have l2 : T ∉ fv.ownBlock.toList := fun hm => by have := (fb T (by simpa using hm)).2; omega
   have l3 : T ∉ [IB] := by simp; omega
   refine ⟨T, c, ?_, hT.2.2.2, by omega, fun hf => ?_, ((hT.1.ch c2 l1).ch c3 l2).ch cs l3, fun i hi => ?_⟩
   ·rw [← h.len, List.getElem?_append_right (Nat.le_refl _)]
    simp
   ·rcases q3 T hf with h5 | h5
    ·have := (fb T h5).2; omega
    ·omega
   ·have hn := o1.n
    rw [List.length_map, List.length_range] at hn
    have hc := hn.cell (i := i) (by omega)
    rw [show ((List.range ((V j).n + 1)).map (Lk.pos (S j))).getD i 0 = Lk.pos (S j) i from by simp [List.getD_eq_getElem?_getD, show i < (V j).n + 1 by omega]] at hc
    exact cs.cell (c3.cell (c2.cell hc l1) l2) l3
 ·have e1 : Ch W4 w3 (IB :: (al.ownBlock.toList ++ fv.ownBlock.toList)) := (((h.ch.mono (fun q _ hq => by simp at hq; simp [hq])).trans (Ch.of g1)).trans (c2.mono (fun q _ hq => by simp at hq ⊢; simp [hq]))).trans (c3.mono (fun q _ hq => by simp at hq ⊢; simp [hq]))
  have e2 : Ch W4 w3 [IB] := e1.mono (fun q hq hm => by
   simp at hm
   rcases hm with rfl | hm | hm
   ·simp
   ·have := ab q hm; omega
   ·have := (fb q hm).1; omega)
  exact e2.trans cs
theorem Ph.step2 {W4 wr w1 w2 : World} {IB q : Nat} {t : Int} {cv cv' dv fv al : Value} {V : Nat → Lk.PcV} {S : Nat → Nat → Int} {SL : List Value} {l l' : List Int} (h : Ph W4 wr IB t cv dv fv al V S q SL) (oc : OwnL wr W4.heap.size cv l)
  (g1 : wr.grownBy w1 none) (o2 : OwnL w2 W4.heap.size cv' l') (g2 : w1.grownBy w2 cv.ownBlock) :
  Ph W4 (w2.setCell ⟨IB, 1, none⟩ cv') IB t cv' dv fv al V S q SL ∧ OwnL (w2.setCell ⟨IB, 1, none⟩ cv') W4.heap.size cv' l' := by
 have h1 := h.grow g1
 have hlt := h.lt
 have oc1 : OwnL w1 W4.heap.size cv l := World.ownsRow.kept oc g1 (Classical.em _)
 have c2 := grown_ch g2
 have cs : Ch w2 (w2.setCell ⟨IB, 1, none⟩ cv') [IB] := Ch.one (grown_set _ _ _ _) (by simp)
 have cb : ∀ q, cv.ownBlock = some q → W4.heap.size ≤ q := fun q hq => (World.ownsRow.lt oc q hq).1
 have nI : IB ∉ cv.ownBlock.toList := fun hm => by have := cb IB (by simpa using hm); omega
 refine ⟨⟨hlt, row5_set1 (rowIs_ch h1.img c2 nI) cv', ?_, ?_, h.len, fun j hj => ?_, ?_⟩, ?_⟩
 ·exact (h1.fz.ch c2 (rows_apart h1.fz oc1 (by decide))).ch cs (fun q hq => by have := (World.ownsRow.lt h1.fz q hq).1; simp; omega)
 ·exact ownsRow_ch (ownsRow_ch h1.al c2 (rows_apart h1.al oc1 (by decide))) cs (fun q hq => by have := (World.ownsRow.lt h1.al q hq).1; simp; omega)
 ·refine ((h1.pl j hj).ch c2 (fun T h3 h4 h5 hm => ?_)).ch cs (fun T h3 h4 h5 hm => by simp at hm; omega)
  obtain ⟨cur, hc⟩ := h5
  exact row_apart oc1 hc (by decide) (by simpa using hm)
 ·have e1 : Ch W4 w2 (IB :: cv.ownBlock.toList) := ((h.ch.mono (fun q _ hq => by simp at hq; simp [hq])).trans (Ch.of g1)).trans (c2.mono (fun q _ hq => by simp at hq ⊢; simp [hq]))
  have e2 : Ch W4 w2 [IB] := e1.mono (fun q hq hm => by
   simp at hm
   rcases hm with rfl | hm
   ·simp
   ·have := cb q hm; omega)
  exact e2.trans cs
 ·exact ownsRow_ch o2 cs (fun q hq => by have := (World.ownsRow.lt o2 q hq).1; simp; omega)
end Go.Proofs.YtkiockffejlnhaaGreatDoor
