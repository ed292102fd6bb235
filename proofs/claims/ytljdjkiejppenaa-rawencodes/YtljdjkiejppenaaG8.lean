/- Contracts and plain facts that the walks share. -/
import Derived.Test.YtljdjkiejppenaaG7
namespace Go.Proofs.Ytljdjkiejppenaa
open Go.RowKit
set_option linter.unusedVariables false
/-- it has no bytes -/
theorem Wr.no {base : Nat} {w : World} {B : Nat} {s : Ws} {bs : List Int} (h : Wr base w B s bs) : WrP base w B s bs ⟨false, 0, 0, []⟩ (w.setCell ⟨B, 1, none⟩ (.bool true)) := by
  obtain ⟨h1, h2, h3, v, h4, h5⟩ := h
  have hk : Kp base w (w.setCell ⟨B, 1, none⟩ (.bool true)) := Kp.set h4 h1 _
  refine ⟨hk, [], ⟨h1, Nat.le_trans h2 hk.size, ?_, v, ?_, ?_⟩, Nat.le_refl _, fun _ => rfl⟩
  · exact Ws.on_le s _ h3
  · have := set_heap h4 1 (.bool true)
    rw [this]
    have e1 : s.on ⟨false, 0, 0, []⟩ = ⟨true, s.nd, s.dp, s.dd⟩ := by
      simp only [Ws.on, Bool.not_false, Bool.or_true, Nat.add_zero]
      rw [Nat.max_eq_left h3]
    rw [e1]
    rfl
  · rw [List.append_nil]
    exact OwnL.kw h5 h4 _
set_option maxRecDepth 100000 in
set_option maxHeartbeats 4000000 in
theorem count_any {base : Nat} {w : World} {B : Nat} {s : Ws} {bs : List Int} (h : Wr base w B s bs) {n : Int} (hr : Rm s bs (Pg.dCnt n)) :
    Calls Try.prog 68 #[.pointer (some ⟨B, 0, none⟩), .int .i64 n] w fun e w' => e = .returned (.tuple #[]) ∧ WrP base w B s bs (Pg.dCnt n) w' := by
  by_cases h0 : 0 ≤ n
  · obtain ⟨k, rfl⟩ := Int.eq_ofNat_of_zero_le h0
    by_cases h1 : k < 2147483648
    · have e : Pg.dCnt (k : Int) = ⟨true, 0, 0, Pg.grp k⟩ := by
        have : Pg.okB (k : Int) = true := by simp [Pg.okB]; omega
        simp [Pg.dCnt, this]
      rw [e] at hr ⊢
      have HC := groups_any h (x := k) (by omega) hr
      have d0 : decide ((k : Int) < 0) = false := decide_eq_false (by omega)
      have d1 : decide (2147483647 < (k : Int)) = false := decide_eq_false (by omega)
      have d2 : ¬ ((k : Int) < 0) := by omega
      have d3 : ¬ (2147483647 < (k : Int)) := by omega
      clear e h h0 hr
      go_enter Try.func68, Try.ntmps68
      go_wp2_with (go_at_call 84; refine HC.mono ?_; rintro e w4 ⟨rfl, h4⟩; have H4 := h4; clear h4)
      first | go_end0 | go_returns
      exact ⟨rfl, H4⟩
    · have e : Pg.dCnt (k : Int) = ⟨false, 0, 0, []⟩ := by
        have : Pg.okB (k : Int) = false := by simp [Pg.okB]; omega
        simp [Pg.dCnt, this]
      rw [e]
      have HC := h.no
      obtain ⟨h1', h2, h3, v, h4, h5⟩ := h
      have f1 : w.frozen? ⟨B, 1, none⟩ = false := frozen_heap h4 1
      have c1 : w.cell? ⟨B, 1, none⟩ = some (.bool s.no) := cell_heap h4 1
      have d0 : decide ((k : Int) < 0) = false := decide_eq_false (by omega)
      have d1 : decide (2147483647 < (k : Int)) = true := decide_eq_true (by omega)
      have d2 : ¬ ((k : Int) < 0) := by omega
      have d3 : 2147483647 < (k : Int) := by omega
      clear e h0 hr h1' h2 h3 h4 h5
      go_enter Try.func68, Try.ntmps68
      go_wp2
      first | go_end0 | go_returns
      exact ⟨rfl, HC⟩
  · have e : Pg.dCnt n = ⟨false, 0, 0, []⟩ := by
      have : Pg.okB n = false := by simp [Pg.okB, h0]
      simp [Pg.dCnt, this]
    rw [e]
    have HC := h.no
    obtain ⟨h1', h2, h3, v, h4, h5⟩ := h
    have f1 : w.frozen? ⟨B, 1, none⟩ = false := frozen_heap h4 1
    have c1 : w.cell? ⟨B, 1, none⟩ = some (.bool s.no) := cell_heap h4 1
    have d0 : decide (n < 0) = true := decide_eq_true (by omega)
    have d2 : n < 0 := by omega
    clear e h0 hr h1' h2 h3 h4 h5
    go_enter Try.func68, Try.ntmps68
    go_wp2
    first | go_end0 | go_returns
    exact ⟨rfl, HC⟩
set_option maxRecDepth 100000 in
theorem fold_any {n : Int} (h : R64 n) (w : World) : Calls Try.prog 86 #[.int .i64 n] w fun e w' => e = .returned (.int .u64 (Pg.zig n : Nat)) ∧ w' = w := by
  obtain ⟨h0, h1⟩ := h
  by_cases hn : n < 0
  · have d : decide (n < 0) = true := by simpa using hn
    have e : ((Pg.zig n : Nat) : Int) = 2 * (-(n + 1)) + 1 := by unfold Pg.zig; rw [if_pos hn]; omega
    rw [e]
    clear e
    go_enter Try.func86, Try.ntmps86
    go_wp2
    go_ret
    exact ⟨rfl, rfl⟩
  · have d : decide (n < 0) = false := by simpa using hn
    have e : ((Pg.zig n : Nat) : Int) = 2 * n := by unfold Pg.zig; rw [if_neg hn]; omega
    rw [e]
    clear e
    go_enter Try.func86, Try.ntmps86
    go_wp2
    go_ret
    exact ⟨rfl, rfl⟩
theorem Wr.into1 {base : Nat} {w : World} {B : Nat} {s : Ws} {bs : List Int} (h : Wr base w B s bs) : Kp base w ((w.setCell ⟨B, 2, none⟩ (.int .i64 (s.nd + 1 : Int))).setCell ⟨B, 3, none⟩ (.int .i64 (s.dp + 1 : Int))).drew ∧ ∃ v, ((w.setCell ⟨B, 2, none⟩ (.int .i64 (s.nd + 1 : Int))).setCell ⟨B, 3, none⟩ (.int .i64 (s.dp + 1 : Int))).drew.heap[B]? = some (.cells #[v, .bool s.no, .int .i64 (s.nd + 1 : Int), .int .i64 (s.dp + 1 : Int), .int .i64 s.dd] 60) ∧ OwnL ((w.setCell ⟨B, 2, none⟩ (.int .i64 (s.nd + 1 : Int))).setCell ⟨B, 3, none⟩ (.int .i64 (s.dp + 1 : Int))).drew base v bs := by
  obtain ⟨h1, h2, h3, v, h4, h5⟩ := h
  have g1 := set_heap h4 2 (.int .i64 (s.nd + 1 : Int))
  have g2 := set_heap g1 3 (.int .i64 (s.dp + 1 : Int))
  have gd := grown_drew (World.grownBy.refl ((w.setCell ⟨B, 2, none⟩ (.int .i64 (s.nd + 1 : Int))).setCell ⟨B, 3, none⟩ (.int .i64 (s.dp + 1 : Int))) none)
  exact ⟨((Kp.set h4 h1 _).trans (Kp.set g1 h1 _)).trans (Kp.of gd), v, g2, ((h5.kw h4 _).kw g1 _).kept gd (Classical.em _)⟩
theorem Wr.into2 {base : Nat} {w W : World} {B : Nat} {s : Ws} {bs : List Int} (h : Wr base w B s bs) (hk : Kp base w W) {v : Value} (h4 : W.heap[B]? = some (.cells #[v, .bool s.no, .int .i64 (s.nd + 1 : Int), .int .i64 (s.dp + 1 : Int), .int .i64 s.dd] 60)) (h5 : OwnL W base v bs) :
    Kp base w (W.setCell ⟨B, 4, none⟩ (.int .i64 (max (s.dd : Int) (s.dp + 1)))) ∧ Wr base (W.setCell ⟨B, 4, none⟩ (.int .i64 (max (s.dd : Int) (s.dp + 1)))) B s.into bs := by
  have hk2 : Kp base w (W.setCell ⟨B, 4, none⟩ (.int .i64 (max (s.dd : Int) (s.dp + 1)))) := hk.trans (Kp.set h4 h.1 _)
  refine ⟨hk2, h.1, Nat.le_trans h.2.1 hk2.size, ?_, v, ?_, h5.kw h4 _⟩
  · show s.dp + 1 ≤ max s.dd (s.dp + 1); omega
  · rw [set_heap h4 4]
    have e : ((max s.dd (s.dp + 1) : Nat) : Int) = max (s.dd : Int) (s.dp + 1) := by omega
    simp only [Ws.into, e]
    rfl
set_option maxRecDepth 100000 in
set_option maxHeartbeats 4000000 in
theorem begin_any {base : Nat} {w : World} {B : Nat} {s : Ws} {bs : List Int} (h : Wr base w B s bs) (hn : s.nd + 1 < 33554432) (hd : s.dp + 1 < 65536) :
    Calls Try.prog 85 #[.pointer (some ⟨B, 0, none⟩)] w fun e w' => e = .returned (.bool true) ∧ Kp base w w' ∧ Wr base w' B s.into bs := by
  have HW : Hid (Wr base w B s bs) := h
  obtain ⟨k1, v, q4, q5⟩ := h.into1
  obtain ⟨h1', h2, h3, u, h4, h5⟩ := h
  have f2 : w.frozen? ⟨B, 2, none⟩ = false := frozen_heap h4 2
  have c2 : w.cell? ⟨B, 2, none⟩ = some (.int .i64 s.nd) := cell_heap h4 2
  have f3 : w.frozen? ⟨B, 3, none⟩ = false := frozen_heap h4 3
  have c3 : w.cell? ⟨B, 3, none⟩ = some (.int .i64 s.dp) := cell_heap h4 3
  have HK : Hid (∀ W, W = ((w.setCell ⟨B, 2, none⟩ (.int .i64 (s.nd + 1 : Int))).setCell ⟨B, 3, none⟩ (.int .i64 (s.dp + 1 : Int))).drew → Kp base w W ∧ W.heap[B]? = some (.cells #[v, .bool s.no, .int .i64 (s.nd + 1 : Int), .int .i64 (s.dp + 1 : Int), .int .i64 s.dd] 60) ∧ OwnL W base v bs) := fun W hW => by rw [hW]; exact ⟨k1, q4, q5⟩
  have z1 : decide ((s.nd : Int) + 1 < 33554432) = true := decide_eq_true (by omega)
  have z2 : decide ((s.dp : Int) + 1 < 65536) = true := decide_eq_true (by omega)
  clear k1 q4 q5 h1' h2 h3 h4 h5
  by_cases hmx : s.dd < s.dp + 1
  · have hm1 : (s.dd : Int) < (s.dp : Int) + 1 := by omega
    clear hmx
    go_enter Try.func85, Try.ntmps85
    go_wp2_with fail
    refine tail_quiet 12 (by kernel_rfl) (by kernel_rfl) ?_
    obtain ⟨W, hW⟩ : ∃ W, W = ((w.setCell ⟨B, 2, none⟩ (.int .i64 (s.nd + 1 : Int))).setCell ⟨B, 3, none⟩ (.int .i64 (s.dp + 1 : Int))).drew := ⟨_, rfl⟩
    rw [← hW]
    obtain ⟨k1, q4, q5⟩ := HK.out W hW
    have m2 : W.cell? ⟨B, 2, none⟩ = some (.int .i64 ((s.nd : Int) + 1)) := cell_heap q4 2
    have m3 : W.cell? ⟨B, 3, none⟩ = some (.int .i64 ((s.dp : Int) + 1)) := cell_heap q4 3
    have m4 : W.cell? ⟨B, 4, none⟩ = some (.int .i64 s.dd) := cell_heap q4 4
    have f4 : W.frozen? ⟨B, 4, none⟩ = false := frozen_heap q4 4
    have HE := HW.out.into2 k1 q4 q5
    rw [show max (s.dd : Int) ((s.dp : Int) + 1) = (s.dp : Int) + 1 from by omega] at HE
    have HE : Hid (Kp base w (W.setCell ⟨B, 4, none⟩ (.int .i64 ((s.dp : Int) + 1))) ∧ Wr base (W.setCell ⟨B, 4, none⟩ (.int .i64 ((s.dp : Int) + 1))) B s.into bs) := HE
    clear hW k1 q4 q5 HK
    simp only [List.take_succ_cons, List.take_zero, List.drop_succ_cons, List.drop_zero]
    repeat (go_big_quiet_step (first | exact rfl))
    refine wpQuiet_nil ?_
    go_wp2
    go_ret
    exact ⟨rfl, HE.out⟩
  · have hm1 : ¬ ((s.dd : Int) < (s.dp : Int) + 1) := by omega
    clear hmx
    go_enter Try.func85, Try.ntmps85
    go_wp2_with fail
    refine tail_quiet 12 (by kernel_rfl) (by kernel_rfl) ?_
    obtain ⟨W, hW⟩ : ∃ W, W = ((w.setCell ⟨B, 2, none⟩ (.int .i64 (s.nd + 1 : Int))).setCell ⟨B, 3, none⟩ (.int .i64 (s.dp + 1 : Int))).drew := ⟨_, rfl⟩
    rw [← hW]
    obtain ⟨k1, q4, q5⟩ := HK.out W hW
    have m2 : W.cell? ⟨B, 2, none⟩ = some (.int .i64 ((s.nd : Int) + 1)) := cell_heap q4 2
    have m3 : W.cell? ⟨B, 3, none⟩ = some (.int .i64 ((s.dp : Int) + 1)) := cell_heap q4 3
    have m4 : W.cell? ⟨B, 4, none⟩ = some (.int .i64 s.dd) := cell_heap q4 4
    have f4 : W.frozen? ⟨B, 4, none⟩ = false := frozen_heap q4 4
    have HE := HW.out.into2 k1 q4 q5
    rw [show max (s.dd : Int) ((s.dp : Int) + 1) = (s.dd : Int) from by omega] at HE
    have HE : Hid (Kp base w (W.setCell ⟨B, 4, none⟩ (.int .i64 ((s.dd : Int)))) ∧ Wr base (W.setCell ⟨B, 4, none⟩ (.int .i64 ((s.dd : Int)))) B s.into bs) := HE
    clear hW k1 q4 q5 HK
    simp only [List.take_succ_cons, List.take_zero, List.drop_succ_cons, List.drop_zero]
    repeat (go_big_quiet_step (first | exact rfl))
    refine wpQuiet_nil ?_
    go_wp2
    go_ret
    exact ⟨rfl, HE.out⟩
theorem Wr.outOf {base : Nat} {w : World} {B : Nat} {s : Ws} {bs : List Int} (h : Wr base w B s bs) (hd : 0 < s.dp) : Kp base w (w.setCell ⟨B, 3, none⟩ (.int .i64 ((s.dp : Int) - 1))) ∧ Wr base (w.setCell ⟨B, 3, none⟩ (.int .i64 ((s.dp : Int) - 1))) B s.out bs := by
  obtain ⟨h1, h2, h3, v, h4, h5⟩ := h
  have g1 := set_heap h4 3 (.int .i64 ((s.dp : Int) - 1))
  have hk : Kp base w (w.setCell ⟨B, 3, none⟩ (.int .i64 ((s.dp : Int) - 1))) := Kp.set h4 h1 _
  refine ⟨hk, h1, Nat.le_trans h2 hk.size, ?_, v, ?_, h5.kw h4 _⟩
  · show s.dp - 1 ≤ s.dd; omega
  · rw [g1]
    have e : ((s.dp - 1 : Nat) : Int) = (s.dp : Int) - 1 := by omega
    simp only [Ws.out, e]
    rfl
set_option maxRecDepth 100000 in
set_option maxHeartbeats 4000000 in
theorem end_any {base : Nat} {w : World} {B : Nat} {s : Ws} {bs : List Int} (h : Wr base w B s bs) (hd : 0 < s.dp) (hm : s.dp < 100000) :
    Calls Try.prog 89 #[.pointer (some ⟨B, 0, none⟩)] w fun e w' => e = .returned (.tuple #[]) ∧ Kp base w w' ∧ Wr base w' B s.out bs := by
  have HC := h.outOf hd
  obtain ⟨h1', h2, h3, v, h4, h5⟩ := h
  have f3 : w.frozen? ⟨B, 3, none⟩ = false := frozen_heap h4 3
  have c3 : w.cell? ⟨B, 3, none⟩ = some (.int .i64 s.dp) := cell_heap h4 3
  clear h1' h2 h3 h4 h5
  go_enter Try.func89, Try.ntmps89
  go_wp2
  first | go_end0 | go_returns
  exact ⟨rfl, HC⟩
theorem Rm.pre {s : Ws} {bs : List Int} {a b : Pg.Dl} (h : Rm s bs (a.app b)) : Rm s bs a := by
  obtain ⟨r1, r2, r3⟩ := h
  simp only [Pg.Dl.app, List.length_append] at r1 r2 r3
  exact ⟨by omega, by omega, by omega⟩
theorem Rm.into {s : Ws} {bs : List Int} {d : Pg.Dl} (h : Rm s bs d.node) : Rm s.into bs d := by
  obtain ⟨r1, r2, r3⟩ := h
  exact ⟨by show s.nd + 1 + d.nd < _; simp only [Pg.Dl.node] at r1; omega, by show s.dp + 1 + d.dp < _; simp only [Pg.Dl.node] at r2; omega, r3⟩
theorem WrP.from {base : Nat} {w w1 w2 : World} {B : Nat} {s : Ws} {bs : List Int} {d : Pg.Dl} (hk : Kp base w w1) (h : WrP base w1 B s bs d w2) : WrP base w B s bs d w2 := ⟨hk.trans h.1, h.2⟩
theorem WrP.finish {base : Nat} {w w1 w2 : World} {B : Nat} {s : Ws} {bs : List Int} {d : Pg.Dl} (hk : Kp base w w1) (h : WrP base w1 B s.into bs d w2) (hd : s.dp + 1 < 65536) :
    Calls Try.prog 89 #[.pointer (some ⟨B, 0, none⟩)] w2 fun e w' => e = .returned (.tuple #[]) ∧ WrP base w B s bs d.node w' := by
  obtain ⟨hk2, e, hw, hl, ho⟩ := h
  refine (end_any hw (by show 0 < s.dp + 1; omega) (by show s.dp + 1 < _; omega)).mono ?_
  rintro r w3 ⟨rfl, hk3, hw3⟩
  refine ⟨rfl, (hk.trans hk2).trans hk3, e, ?_, hl, fun h => ho ?_⟩
  · rw [← Ws.on_node]; exact hw3
  · rw [← Ws.on_node] at h
    exact h
theorem put_txt {base : Nat} {w w4 : World} {B : Nat} {s : Ws} {bs : List Int} {D : Pg.Dl} (h : WrP base w B s bs D w4) {x : ByteArray} {cap : Nat} {fr : Nat × Nat} (hr : Rm s bs (D.app ⟨true, 0, 0, Pg.txt x⟩)) :
    Calls Try.prog 97 #[.pointer (some ⟨B, 0, none⟩), .slice (some ⟨w4.heap.size, 0, none⟩) x.size cap] (w4.alloc (.cells (bytesRow x cap) 5 fr)).drew fun e w' => e = .returned (.tuple #[]) ∧ WrP base w B s bs (D.app ⟨true, 0, 0, Pg.txt x⟩) w' := by
  have hg : w4.grownBy (w4.alloc (.cells (bytesRow x cap) 5 fr)).drew none := grown_drew (World.grownBy_alloc _ _ _)
  refine (h.grow hg).call hr (fun s' bs' hw hr => ?_)
  have := put_any (g := w4.heap.size) (c := cap) (m := Pg.txt x) hw (fun j z hj => ?_) hr.2.2
  · rw [Pg.txt_len] at this
    exact this
  · have hj' : j < x.size := by
      have := (List.getElem?_eq_some_iff.1 hj).1
      rwa [Pg.txt_len] at this
    show (w4.alloc (.cells (bytesRow x cap) 5 fr)).cell? ⟨w4.heap.size, j, none⟩ = _
    rw [World.cell?_alloc_mark]
    unfold bytesRow
    rw [Array.getElem?_append_left (by simpa using hj')]
    rw [Pg.txt, List.getElem?_map] at hj
    rw [Array.getElem?_map]
    rw [Array.getElem?_toList] at hj
    obtain ⟨b, hb, rfl⟩ := Option.map_eq_some_iff.1 hj
    rw [hb]
    rfl
set_option maxRecDepth 100000 in
set_option maxHeartbeats 4000000 in
theorem text_any {base : Nat} {w : World} {B : Nat} {s : Ws} {bs : List Int} (h : Wr base w B s bs) {x : ByteArray} (hr : Rm s bs (Pg.dTxt x)) :
    Calls Try.prog 98 #[.pointer (some ⟨B, 0, none⟩), .string x] w fun e w' => e = .returned (.tuple #[]) ∧ WrP base w B s bs (Pg.dTxt x) w' := by
  by_cases hx : x.size ≤ 256
  · have e : Pg.dTxt x = (Pg.dCnt (x.size : Int)).app ⟨true, 0, 0, Pg.txt x⟩ := by
      have : Pg.okB (x.size : Int) = true := by simp [Pg.okB]; omega
      simp [Pg.dTxt, hx, Pg.dCnt, this, Pg.Dl.app]
    rw [e] at hr ⊢
    have HR : Hid (Rm s bs ((Pg.dCnt (x.size : Int)).app ⟨true, 0, 0, Pg.txt x⟩)) := hr
    have r1 : Rm s bs (Pg.dCnt (x.size : Int)) := by
      obtain ⟨r1, r2, r3⟩ := hr
      simp only [Pg.Dl.app, List.length_append] at r1 r2 r3
      exact ⟨by omega, by omega, by omega⟩
    have HC := count_any h r1
    have d1 : decide (256 < (x.size : Int)) = false := decide_eq_false (by omega)
    have d2 : ¬ (256 < (x.size : Int)) := by omega
    have hcv := fun W => run_bytes_of_string (P := Try.prog) W 9 29 5 x (by kernel_rfl) (by kernel_rfl) (by kernel_rfl)
    clear e h hr r1
    go_enter Try.func98, Try.ntmps98
    go_wp2_with (first
      | (go_at_call 68; refine HC.mono ?_; rintro e w4 ⟨rfl, h4⟩; have H4 : Hid (WrP base w B s bs (Pg.dCnt (x.size : Int)) w4) := h4; clear h4)
      | (go_at_call 97; refine (put_txt H4.out HR.out).mono ?_; rintro e w5 ⟨rfl, h5⟩; have H5 := h5; clear h5))
    first | go_end0 | go_returns
    exact ⟨rfl, H5⟩
  · have e : Pg.dTxt x = ⟨false, 0, 0, []⟩ := by simp [Pg.dTxt, hx]
    rw [e]
    have HC := h.no
    obtain ⟨h1', h2, h3, v, h4, h5⟩ := h
    have f1 : w.frozen? ⟨B, 1, none⟩ = false := frozen_heap h4 1
    have c1 : w.cell? ⟨B, 1, none⟩ = some (.bool s.no) := cell_heap h4 1
    have d1 : decide (256 < (x.size : Int)) = true := decide_eq_true (by omega)
    have d2 : 256 < (x.size : Int) := by omega
    clear e hr h1' h2 h3 h4 h5
    go_enter Try.func98, Try.ntmps98
    go_wp2
    first | go_end0 | go_returns
    exact ⟨rfl, HC⟩
set_option maxRecDepth 100000 in
set_option maxHeartbeats 8000000 in
theorem wNums {base : Nat} {w : World} {B : Nat} {s : Ws} {bs : List Int} (h : Wr base w B s bs) {l : List Int} (hr : Rm s bs ((Pg.dCnt l.length).app (Pg.dCat Pg.dCnt l))) {a : Option Addr} {c : Nat} (hL : NumL (fun k => k < base) w a c l) :
    Calls Try.prog 69 #[.pointer (some ⟨B, 0, none⟩), .slice a l.length c, .func (.func 68) #[.pointer (some ⟨B, 0, none⟩)] #[]] w fun e w' => e = .returned (.tuple #[]) ∧ WrP base w B s bs ((Pg.dCnt l.length).app (Pg.dCat Pg.dCnt l)) w' := by
  have hle := hL.le
  have hmx := hL.max
  unfold maxLen at hmx
  have HL : Hid (NumL (fun k => k < base) w a c l) := hL
  have HR : Hid (∀ k, k ≤ l.length → Rm s bs ((Pg.dCnt l.length).app (Pg.dCat Pg.dCnt (l.take k)))) := by
    intro k _
    obtain ⟨r1, r2, r3⟩ := hr
    obtain ⟨q1, q2, q3, _⟩ := Pg.dCat_le Pg.dCnt l k
    simp only [Pg.Dl.app, List.length_append] at r1 r2 r3
    refine ⟨?_, ?_, ?_⟩
    · show s.nd + ((Pg.dCnt l.length).nd + _) < _; omega
    · show s.dp + max (Pg.dCnt l.length).dp _ < _; omega
    · show bs.length + ((Pg.dCnt l.length).en ++ _).length ≤ _
      rw [List.length_append]; omega
  have HC := count_any h (n := (l.length : Int)) (by
    have := HR.out 0 (Nat.zero_le _)
    rw [List.take_zero, Pg.dCat, Pg.Dl.app_nil] at this
    exact this)
  clear h hr hL
  go_enter Try.func69, Try.ntmps69
  go_wp2_with (go_at_call 68; refine HC.mono ?_; rintro e w4 ⟨rfl, h4⟩; have H4 : Hid (WrP base w B s bs (Pg.dCnt (l.length : Int)) w4) := h4; clear h4)
  clear HC
  go_loopw [14] (fun ix wr => ∃ k : Nat, ix = .int .i64 k ∧ k ≤ l.length ∧ WrP base w B s bs ((Pg.dCnt l.length).app (Pg.dCat Pg.dCnt (l.take k))) wr) (fun ix _ => l.length - (intOf ix).toNat)
  case atStart => exact ⟨0, rfl, Nat.zero_le _, by rw [List.take_zero, Pg.dCat, Pg.Dl.app_nil]; exact H4.out⟩
  case round =>
    obtain ⟨k, rfl, hk, hp⟩ := hrel
    have HP : Hid (WrP base w B s bs ((Pg.dCnt l.length).app (Pg.dCat Pg.dCnt (l.take k))) wr) := hp
    by_cases hkn : k < l.length
    case neg =>
      obtain rfl : k = l.length := by omega
      clear hp
      go_wp2
      first | go_end0 | go_returns
      have := HP.out
      rw [List.take_length] at this
      exact ⟨rfl, this⟩
    have hkn' : (k : Int) < l.length := by omega
    have hrow : NumL (fun k => k < base) wr a c l := NumL.ch HL.out hp.1.ch (fun k hk => not_range hk) (fun _ h => h)
    obtain ⟨b, o, rfl, hb, hx⟩ := hrow.at hkn
    have HR1 : Hid (Rm s bs (((Pg.dCnt l.length).app (Pg.dCat Pg.dCnt (l.take k))).app (Pg.dCnt l[k]))) := by
      have := HR.out (k + 1) (by omega)
      rw [Pg.dCat_succ _ hkn, ← Pg.Dl.app_assoc] at this
      exact this
    have HS : Hid ((Pg.dCnt l.length).app (Pg.dCat Pg.dCnt (l.take (k + 1))) = ((Pg.dCnt l.length).app (Pg.dCat Pg.dCnt (l.take k))).app (Pg.dCnt l[k])) := by
      show _ = _
      rw [Pg.dCat_succ _ hkn, ← Pg.Dl.app_assoc]
    have c0 : wr.cell? ⟨b, o + k, none⟩ = some (.int .i64 l[k]) := by rw [Nat.mul_one] at hx; exact hx
    have HC : Hid (Calls Try.prog 68 #[.pointer (some ⟨B, 0, none⟩), .int .i64 l[k]] wr fun e w' => e = .returned (.tuple #[]) ∧ WrP base w B s bs (((Pg.dCnt l.length).app (Pg.dCat Pg.dCnt (l.take k))).app (Pg.dCnt l[k])) w') := hp.call HR1.out (fun s' bs' hw hr => count_any hw hr)
    clear hp hx hrow
    generalize l[k] = x at *
    go_wp2_with (go_at_call 68; refine HC.out.mono ?_; rintro e w5 ⟨rfl, h5⟩; have H5 : Hid (WrP base w B s bs (((Pg.dCnt l.length).app (Pg.dCat Pg.dCnt (l.take k))).app (Pg.dCnt x)) w5) := h5; clear h5)
    go_roundw
    case rel => exact ⟨k + 1, by go_num, by omega, by rw [HS.out]; exact H5.out⟩
    case measure => simp [intOf]; omega
def TermOk (x : Pg.Ex) : Prop := ∀ (base : Nat) (w : World) (B : Nat) (s : Ws) (bs : List Int) (a1 : Option Addr) (k1 : Nat), Wr base w B s bs → Rm s bs x.dl → R64 x.n → ExL (fun k => k < base) w a1 k1 x.args →
  Calls Try.prog 88 #[.pointer (some ⟨B, 0, none⟩), .agg #[.int .i64 x.op, .int .i64 x.t, .int .i64 x.n, .string x.s, .slice a1 x.args.length k1]] w fun e w' => e = .returned (.tuple #[]) ∧ WrP base w B s bs x.dl w'
set_option maxRecDepth 100000 in
set_option maxHeartbeats 8000000 in
theorem wEs_list {base : Nat} {w : World} {B : Nat} {s : Ws} {bs : List Int} (h : Wr base w B s bs) {l : List Pg.Ex} (hr : Rm s bs ((Pg.dCnt l.length).app (Pg.dCat Pg.Ex.dl l))) {a : Option Addr} {c : Nat} (hL : ExL (fun k => k < base) w a c l) (ih : ∀ x, x ∈ l → TermOk x) :
    Calls Try.prog 87 #[.pointer (some ⟨B, 0, none⟩), .slice a l.length c, .func (.func 88) #[.pointer (some ⟨B, 0, none⟩)] #[]] w fun e w' => e = .returned (.tuple #[]) ∧ WrP base w B s bs ((Pg.dCnt l.length).app (Pg.dCat Pg.Ex.dl l)) w' := by
  have hle := hL.le
  have hmx := hL.max
  unfold maxLen at hmx
  have HL : Hid (ExL (fun k => k < base) w a c l) := hL
  have HR : Hid (∀ k, k ≤ l.length → Rm s bs ((Pg.dCnt l.length).app (Pg.dCat Pg.Ex.dl (l.take k)))) := by
    intro k _
    obtain ⟨r1, r2, r3⟩ := hr
    obtain ⟨q1, q2, q3, _⟩ := Pg.dCat_le Pg.Ex.dl l k
    simp only [Pg.Dl.app, List.length_append] at r1 r2 r3
    refine ⟨?_, ?_, ?_⟩
    · show s.nd + ((Pg.dCnt l.length).nd + _) < _; omega
    · show s.dp + max (Pg.dCnt l.length).dp _ < _; omega
    · show bs.length + ((Pg.dCnt l.length).en ++ _).length ≤ _
      rw [List.length_append]; omega
  have HI : Hid (∀ x, x ∈ l → TermOk x) := ih
  have HC := count_any h (n := (l.length : Int)) (by
    have := HR.out 0 (Nat.zero_le _)
    rw [List.take_zero, Pg.dCat, Pg.Dl.app_nil] at this
    exact this)
  clear h hr hL ih
  go_enter Try.func87, Try.ntmps87
  go_wp2_with (go_at_call 68; refine HC.mono ?_; rintro e w4 ⟨rfl, h4⟩; have H4 : Hid (WrP base w B s bs (Pg.dCnt (l.length : Int)) w4) := h4; clear h4)
  clear HC
  go_loopw [14] (fun ix wr => ∃ k : Nat, ix = .int .i64 k ∧ k ≤ l.length ∧ WrP base w B s bs ((Pg.dCnt l.length).app (Pg.dCat Pg.Ex.dl (l.take k))) wr) (fun ix _ => l.length - (intOf ix).toNat)
  case atStart => exact ⟨0, rfl, Nat.zero_le _, by rw [List.take_zero, Pg.dCat, Pg.Dl.app_nil]; exact H4.out⟩
  case round =>
    obtain ⟨k, rfl, hk, hp⟩ := hrel
    have HP : Hid (WrP base w B s bs ((Pg.dCnt l.length).app (Pg.dCat Pg.Ex.dl (l.take k))) wr) := hp
    by_cases hkn : k < l.length
    case neg =>
      obtain rfl : k = l.length := by omega
      clear hp
      go_wp2
      first | go_end0 | go_returns
      have := HP.out
      rw [List.take_length] at this
      exact ⟨rfl, this⟩
    have hkn' : (k : Int) < l.length := by omega
    have hrow : ExL (fun k => k < base) wr a c l := ExL.ch HL.out hp.1.ch (fun k hk => not_range hk) (fun _ h => h)
    obtain ⟨b, o, rfl, hb, hx⟩ := hrow.at hkn
    have HR1 : Hid (Rm s bs (((Pg.dCnt l.length).app (Pg.dCat Pg.Ex.dl (l.take k))).app (Pg.Ex.dl l[k]))) := by
      have := HR.out (k + 1) (by omega)
      rw [Pg.dCat_succ _ hkn, ← Pg.Dl.app_assoc] at this
      exact this
    have HS : Hid ((Pg.dCnt l.length).app (Pg.dCat Pg.Ex.dl (l.take (k + 1))) = ((Pg.dCnt l.length).app (Pg.dCat Pg.Ex.dl (l.take k))).app (Pg.Ex.dl l[k])) := by
      show _ = _
      rw [Pg.dCat_succ _ hkn, ← Pg.Dl.app_assoc]
    obtain ⟨a1, k1, he⟩ := hx.row
    have c0 := he.c0
    have c1 := he.c1
    have c2 := he.c2
    have c3 := he.c3
    have c4 := he.c4
    have HC : Hid (Calls Try.prog 88 #[.pointer (some ⟨B, 0, none⟩), .agg #[.int .i64 l[k].op, .int .i64 l[k].t, .int .i64 l[k].n, .string l[k].s, .slice a1 l[k].args.length k1]] (wr.alloc (.cells #[.int .i64 l[k].op, .int .i64 l[k].t, .int .i64 l[k].n, .string l[k].s, .slice a1 l[k].args.length k1] 94)) fun e w' => e = .returned (.tuple #[]) ∧ WrP base w B s bs (((Pg.dCnt l.length).app (Pg.dCat Pg.Ex.dl (l.take k))).app (Pg.Ex.dl l[k])) w') := (hp.grow (World.grownBy_alloc _ _ _)).call HR1.out (fun s' bs' hw hr => HI.out l[k] (List.getElem_mem hkn) base _ B s' bs' a1 k1 hw hr he.rg (ExL.grow he.args (World.grownBy_alloc _ _ _)))
    clear he
    clear hp hx hrow
    generalize l[k] = x at *
    go_wp2_with (go_at_call 88; refine HC.out.mono ?_; rintro e w5 ⟨rfl, h5⟩; have H5 : Hid (WrP base w B s bs (((Pg.dCnt l.length).app (Pg.dCat Pg.Ex.dl (l.take k))).app (Pg.Ex.dl x)) w5) := h5; clear h5)
    go_roundw
    case rel => exact ⟨k + 1, by go_num, by omega, by rw [HS.out]; exact H5.out⟩
    case measure => simp [intOf]; omega
theorem wNumL {base : Nat} {w : World} {B : Nat} {s : Ws} {bs : List Int} (h : Wr base w B s bs) {l : List Int} (hr : Rm s bs (Pg.dNumL l)) {a : Option Addr} {c : Nat} (hL : NumL (fun k => k < base) w a c l) :
    Calls Try.prog 69 #[.pointer (some ⟨B, 0, none⟩), .slice a l.length c, .func (.func 68) #[.pointer (some ⟨B, 0, none⟩)] #[]] w fun e w' => e = .returned (.tuple #[]) ∧ WrP base w B s bs (Pg.dNumL l) w' := by
  rw [Pg.dNumL, Pg.dNums_cat] at hr ⊢
  exact wNums h hr hL
theorem wExL {base : Nat} {w : World} {B : Nat} {s : Ws} {bs : List Int} (h : Wr base w B s bs) {l : List Pg.Ex} (hr : Rm s bs (Pg.dExL l)) {a : Option Addr} {c : Nat} (hL : ExL (fun k => k < base) w a c l) (ih : ∀ x, x ∈ l → TermOk x) :
    Calls Try.prog 87 #[.pointer (some ⟨B, 0, none⟩), .slice a l.length c, .func (.func 88) #[.pointer (some ⟨B, 0, none⟩)] #[]] w fun e w' => e = .returned (.tuple #[]) ∧ WrP base w B s bs (Pg.dExL l) w' := by
  rw [Pg.dExL, Pg.dEs_cat] at hr ⊢
  exact wEs_list h hr hL ih
set_option maxRecDepth 100000 in
set_option maxHeartbeats 8000000 in
theorem term_one (x : Pg.Ex) (ih : ∀ y, y ∈ x.args → TermOk y) : TermOk x := by
  intro base w B s bs a1 k1 h hr hn ha
  have HN : Hid (R64 x.n) := hn
  have HI : Hid (∀ y, y ∈ x.args → TermOk y) := ih
  clear hn ih
  have hg1 : w.grownBy (w.alloc (.cells #[.int .i64 x.op, .int .i64 x.t, .int .i64 x.n, .string x.s, .slice a1 x.args.length k1] 94)) none := World.grownBy_alloc _ _ _
  have HDL : Hid (x.dl = (((((Pg.dCnt x.op).app (Pg.dCnt x.t)).app (Pg.dNum x.n)).app (Pg.dTxt x.s)).app (Pg.dExL x.args)).node) := by
    show _ = _
    rw [Pg.Ex.dl_eq]; simp only [Pg.Dl.app_assoc]
  rw [HDL.out] at hr ⊢
  have hd1 : s.dp + 1 < 65536 := by have := hr.2.1; simp only [Pg.Dl.node] at this; omega
  have hn1 : s.nd + 1 < 33554432 := by have := hr.1; simp only [Pg.Dl.node] at this; omega
  have hr := hr.into
  have R4 : Hid (Rm s.into bs (((((Pg.dCnt x.op).app (Pg.dCnt x.t)).app (Pg.dNum x.n)).app (Pg.dTxt x.s)).app (Pg.dExL x.args))) := hr
  have R3 : Hid (Rm s.into bs ((((Pg.dCnt x.op).app (Pg.dCnt x.t)).app (Pg.dNum x.n)).app (Pg.dTxt x.s))) := R4.out.pre
  have R2 : Hid (Rm s.into bs (((Pg.dCnt x.op).app (Pg.dCnt x.t)).app (Pg.dNum x.n))) := R3.out.pre
  have R1 : Hid (Rm s.into bs ((Pg.dCnt x.op).app (Pg.dCnt x.t))) := R2.out.pre
  have R0 : Hid (Rm s.into bs (Pg.dCnt x.op)) := R1.out.pre
  have HK : Hid (∀ W, Kp base (w.alloc (.cells #[.int .i64 x.op, .int .i64 x.t, .int .i64 x.n, .string x.s, .slice a1 x.args.length k1] 94)) W → ∀ j v, (#[.int .i64 x.op, .int .i64 x.t, .int .i64 x.n, .string x.s, .slice a1 x.args.length k1] : Array Value)[j]? = some v → W.cell? ⟨w.heap.size, j, none⟩ = some v) := fun W k j v hv => by rw [Kp.cell k (heap_alloc_new w _) ⟨by decide, by decide⟩ j]; exact hv
  have HA : Hid (∀ W, Kp base (w.alloc (.cells #[.int .i64 x.op, .int .i64 x.t, .int .i64 x.n, .string x.s, .slice a1 x.args.length k1] 94)) W → ExL (fun k => k < base) W a1 k1 x.args) := fun W k => ExL.ch ha ((Kp.of hg1).trans k).ch (fun k hk => not_range hk) (fun _ h => h)
  have HB : Hid (Calls Try.prog 85 #[.pointer (some ⟨B, 0, none⟩)] (w.alloc (.cells #[.int .i64 x.op, .int .i64 x.t, .int .i64 x.n, .string x.s, .slice a1 x.args.length k1] 94)) fun e w' => e = .returned (.bool true) ∧ Kp base (w.alloc (.cells #[.int .i64 x.op, .int .i64 x.t, .int .i64 x.n, .string x.s, .slice a1 x.args.length k1] 94)) w' ∧ Wr base w' B s.into bs) := begin_any (h.grow hg1) hn1 hd1
  clear h hr ha hn1
  go_enter Try.func88, Try.ntmps88
  go_wp2_with (first
    | (go_at_call 85; refine HB.out.mono ?_; rintro e w1 ⟨rfl, kk, hh⟩; have K0 : Hid (Kp base (w.alloc (.cells #[.int .i64 x.op, .int .i64 x.t, .int .i64 x.n, .string x.s, .slice a1 x.args.length k1] 94)) w1) := kk; have m0 := HK.out w1 K0.out 0 _ rfl; have HC0 : Hid (Calls Try.prog 68 #[.pointer (some ⟨B, 0, none⟩), .int .i64 x.op] w1 fun e w' => e = .returned (.tuple #[]) ∧ WrP base w1 B s.into bs (Pg.dCnt x.op) w') := (fun hw hr => count_any hw hr) hh R0.out; clear kk hh HB)
    | (go_at_call 68; refine HC0.out.mono ?_; rintro e w2 ⟨rfl, hh⟩; have A1 : Hid (WrP base w1 B s.into bs (Pg.dCnt x.op) w2) := hh; have K1 : Hid (Kp base (w.alloc (.cells #[.int .i64 x.op, .int .i64 x.t, .int .i64 x.n, .string x.s, .slice a1 x.args.length k1] 94)) w2) := K0.out.trans hh.1; have m1 := HK.out w2 K1.out 1 _ rfl; have HC1 : Hid (Calls Try.prog 68 #[.pointer (some ⟨B, 0, none⟩), .int .i64 x.t] w2 fun e w' => e = .returned (.tuple #[]) ∧ WrP base w1 B s.into bs ((Pg.dCnt x.op).app (Pg.dCnt x.t)) w') := A1.out.call R1.out (fun s' bs' hw hr => count_any hw hr); clear hh HC0 m0)
    | (go_at_call 68; refine HC1.out.mono ?_; rintro e w3 ⟨rfl, hh⟩; have A2 : Hid (WrP base w1 B s.into bs ((Pg.dCnt x.op).app (Pg.dCnt x.t)) w3) := hh; have K2 : Hid (Kp base (w.alloc (.cells #[.int .i64 x.op, .int .i64 x.t, .int .i64 x.n, .string x.s, .slice a1 x.args.length k1] 94)) w3) := K0.out.trans hh.1; have m2 := HK.out w3 K2.out 2 _ rfl; have HC2 : Hid (Calls Try.prog 84 #[.pointer (some ⟨B, 0, none⟩), .int .u64 (Pg.zig x.n : Nat)] w3 fun e w' => e = .returned (.tuple #[]) ∧ WrP base w1 B s.into bs (((Pg.dCnt x.op).app (Pg.dCnt x.t)).app (Pg.dNum x.n)) w') := A2.out.call R2.out (fun s' bs' hw hr => groups_any hw (Pg.zig_lt HN.out) hr); clear hh HC1 m1)
    | (go_at_call 84; refine HC2.out.mono ?_; rintro e w4 ⟨rfl, hh⟩; have A3 : Hid (WrP base w1 B s.into bs (((Pg.dCnt x.op).app (Pg.dCnt x.t)).app (Pg.dNum x.n)) w4) := hh; have K3 : Hid (Kp base (w.alloc (.cells #[.int .i64 x.op, .int .i64 x.t, .int .i64 x.n, .string x.s, .slice a1 x.args.length k1] 94)) w4) := K0.out.trans hh.1; have m3 := HK.out w4 K3.out 3 _ rfl; have HC3 : Hid (Calls Try.prog 98 #[.pointer (some ⟨B, 0, none⟩), .string x.s] w4 fun e w' => e = .returned (.tuple #[]) ∧ WrP base w1 B s.into bs ((((Pg.dCnt x.op).app (Pg.dCnt x.t)).app (Pg.dNum x.n)).app (Pg.dTxt x.s)) w') := A3.out.call R3.out (fun s' bs' hw hr => text_any hw hr); clear hh HC2 m2)
    | (go_at_call 98; refine HC3.out.mono ?_; rintro e w5 ⟨rfl, hh⟩; have A4 : Hid (WrP base w1 B s.into bs ((((Pg.dCnt x.op).app (Pg.dCnt x.t)).app (Pg.dNum x.n)).app (Pg.dTxt x.s)) w5) := hh; have K4 : Hid (Kp base (w.alloc (.cells #[.int .i64 x.op, .int .i64 x.t, .int .i64 x.n, .string x.s, .slice a1 x.args.length k1] 94)) w5) := K0.out.trans hh.1; have m4 := HK.out w5 K4.out 4 _ rfl; have HC4 : Hid (Calls Try.prog 87 #[.pointer (some ⟨B, 0, none⟩), .slice a1 x.args.length k1, .func (.func 88) #[.pointer (some ⟨B, 0, none⟩)] #[]] w5 fun e w' => e = .returned (.tuple #[]) ∧ WrP base w1 B s.into bs (((((Pg.dCnt x.op).app (Pg.dCnt x.t)).app (Pg.dNum x.n)).app (Pg.dTxt x.s)).app (Pg.dExL x.args)) w') := A4.out.call R4.out (fun s' bs' hw hr => wExL hw hr (HA.out w5 (K4.out)) HI.out); clear hh HC3 m3)
    | (go_at_call 87; refine HC4.out.mono ?_; rintro e w6 ⟨rfl, hh⟩; have A5 : Hid (WrP base w1 B s.into bs (((((Pg.dCnt x.op).app (Pg.dCnt x.t)).app (Pg.dNum x.n)).app (Pg.dTxt x.s)).app (Pg.dExL x.args)) w6) := hh; have K5 : Hid (Kp base (w.alloc (.cells #[.int .i64 x.op, .int .i64 x.t, .int .i64 x.n, .string x.s, .slice a1 x.args.length k1] 94)) w6) := K0.out.trans hh.1; clear hh HC4 m4)
    | (go_at_call 86; refine (fold_any HN.out _).mono ?_; rintro e w99 ⟨rfl, hw⟩; rw [hw]; clear hw w99)
    | (go_at_call 89; refine (WrP.finish ((Kp.of hg1).trans K0.out) A5.out hd1).mono ?_; rintro e w98 ⟨rfl, hh⟩; have AE := hh; clear hh))
  first | go_end0 | go_returns
  exact ⟨rfl, AE⟩
theorem term_any (x : Pg.Ex) : TermOk x := Pg.Ex.ind (P := TermOk) (fun op t n s args ih => term_one (.mk op t n s args) ih) x
def StmtOk (x : Pg.St) : Prop := ∀ (base : Nat) (w : World) (B : Nat) (s : Ws) (bs : List Int) (a1 : Option Addr) (k1 : Nat) (a2 : Option Addr) (k2 : Nat) (a3 : Option Addr) (k3 : Nat) (a4 : Option Addr) (k4 : Nat), Wr base w B s bs → Rm s bs x.dl → R64 x.n → ExL (fun k => k < base) w a1 k1 x.args → NumL (fun k => k < base) w a2 k2 x.dst → StL (fun k => k < base) w a3 k3 x.a → StL (fun k => k < base) w a4 k4 x.b →
  Calls Try.prog 71 #[.pointer (some ⟨B, 0, none⟩), .agg #[.int .i64 x.op, .int .i64 x.n, .slice a1 x.args.length k1, .slice a2 x.dst.length k2, .slice a3 x.a.length k3, .slice a4 x.b.length k4]] w fun e w' => e = .returned (.tuple #[]) ∧ WrP base w B s bs x.dl w'
set_option maxRecDepth 100000 in
set_option maxHeartbeats 8000000 in
theorem wSs_list {base : Nat} {w : World} {B : Nat} {s : Ws} {bs : List Int} (h : Wr base w B s bs) {l : List Pg.St} (hr : Rm s bs ((Pg.dCnt l.length).app (Pg.dCat Pg.St.dl l))) {a : Option Addr} {c : Nat} (hL : StL (fun k => k < base) w a c l) (ih : ∀ x, x ∈ l → StmtOk x) :
    Calls Try.prog 70 #[.pointer (some ⟨B, 0, none⟩), .slice a l.length c, .func (.func 71) #[.pointer (some ⟨B, 0, none⟩)] #[]] w fun e w' => e = .returned (.tuple #[]) ∧ WrP base w B s bs ((Pg.dCnt l.length).app (Pg.dCat Pg.St.dl l)) w' := by
  have hle := hL.le
  have hmx := hL.max
  unfold maxLen at hmx
  have HL : Hid (StL (fun k => k < base) w a c l) := hL
  have HR : Hid (∀ k, k ≤ l.length → Rm s bs ((Pg.dCnt l.length).app (Pg.dCat Pg.St.dl (l.take k)))) := by
    intro k _
    obtain ⟨r1, r2, r3⟩ := hr
    obtain ⟨q1, q2, q3, _⟩ := Pg.dCat_le Pg.St.dl l k
    simp only [Pg.Dl.app, List.length_append] at r1 r2 r3
    refine ⟨?_, ?_, ?_⟩
    · show s.nd + ((Pg.dCnt l.length).nd + _) < _; omega
    · show s.dp + max (Pg.dCnt l.length).dp _ < _; omega
    · show bs.length + ((Pg.dCnt l.length).en ++ _).length ≤ _
      rw [List.length_append]; omega
  have HI : Hid (∀ x, x ∈ l → StmtOk x) := ih
  have HC := count_any h (n := (l.length : Int)) (by
    have := HR.out 0 (Nat.zero_le _)
    rw [List.take_zero, Pg.dCat, Pg.Dl.app_nil] at this
    exact this)
  clear h hr hL ih
  go_enter Try.func70, Try.ntmps70
  go_wp2_with (go_at_call 68; refine HC.mono ?_; rintro e w4 ⟨rfl, h4⟩; have H4 : Hid (WrP base w B s bs (Pg.dCnt (l.length : Int)) w4) := h4; clear h4)
  clear HC
  go_loopw [14] (fun ix wr => ∃ k : Nat, ix = .int .i64 k ∧ k ≤ l.length ∧ WrP base w B s bs ((Pg.dCnt l.length).app (Pg.dCat Pg.St.dl (l.take k))) wr) (fun ix _ => l.length - (intOf ix).toNat)
  case atStart => exact ⟨0, rfl, Nat.zero_le _, by rw [List.take_zero, Pg.dCat, Pg.Dl.app_nil]; exact H4.out⟩
  case round =>
    obtain ⟨k, rfl, hk, hp⟩ := hrel
    have HP : Hid (WrP base w B s bs ((Pg.dCnt l.length).app (Pg.dCat Pg.St.dl (l.take k))) wr) := hp
    by_cases hkn : k < l.length
    case neg =>
      obtain rfl : k = l.length := by omega
      clear hp
      go_wp2
      first | go_end0 | go_returns
      have := HP.out
      rw [List.take_length] at this
      exact ⟨rfl, this⟩
    have hkn' : (k : Int) < l.length := by omega
    have hrow : StL (fun k => k < base) wr a c l := StL.ch HL.out hp.1.ch (fun k hk => not_range hk) (fun _ h => h)
    obtain ⟨b, o, rfl, hb, hx⟩ := hrow.at hkn
    have HR1 : Hid (Rm s bs (((Pg.dCnt l.length).app (Pg.dCat Pg.St.dl (l.take k))).app (Pg.St.dl l[k]))) := by
      have := HR.out (k + 1) (by omega)
      rw [Pg.dCat_succ _ hkn, ← Pg.Dl.app_assoc] at this
      exact this
    have HS : Hid ((Pg.dCnt l.length).app (Pg.dCat Pg.St.dl (l.take (k + 1))) = ((Pg.dCnt l.length).app (Pg.dCat Pg.St.dl (l.take k))).app (Pg.St.dl l[k])) := by
      show _ = _
      rw [Pg.dCat_succ _ hkn, ← Pg.Dl.app_assoc]
    obtain ⟨a1, a2, a3, a4, k1, k2, k3, k4, he⟩ := hx.row
    have c0 := he.c0
    have c1 := he.c1
    have c2 := he.c2
    have c3 := he.c3
    have c4 := he.c4
    have c5 := he.c5
    have HC : Hid (Calls Try.prog 71 #[.pointer (some ⟨B, 0, none⟩), .agg #[.int .i64 l[k].op, .int .i64 l[k].n, .slice a1 l[k].args.length k1, .slice a2 l[k].dst.length k2, .slice a3 l[k].a.length k3, .slice a4 l[k].b.length k4]] (wr.alloc (.cells #[.int .i64 l[k].op, .int .i64 l[k].n, .slice a1 l[k].args.length k1, .slice a2 l[k].dst.length k2, .slice a3 l[k].a.length k3, .slice a4 l[k].b.length k4] 81)) fun e w' => e = .returned (.tuple #[]) ∧ WrP base w B s bs (((Pg.dCnt l.length).app (Pg.dCat Pg.St.dl (l.take k))).app (Pg.St.dl l[k])) w') := (hp.grow (World.grownBy_alloc _ _ _)).call HR1.out (fun s' bs' hw hr => HI.out l[k] (List.getElem_mem hkn) base _ B s' bs' a1 k1 a2 k2 a3 k3 a4 k4 hw hr he.rg (ExL.grow he.args (World.grownBy_alloc _ _ _)) (NumL.grow he.dst (World.grownBy_alloc _ _ _)) (StL.grow he.a (World.grownBy_alloc _ _ _)) (StL.grow he.b (World.grownBy_alloc _ _ _)))
    clear he
    clear hp hx hrow
    generalize l[k] = x at *
    go_wp2_with (go_at_call 71; refine HC.out.mono ?_; rintro e w5 ⟨rfl, h5⟩; have H5 : Hid (WrP base w B s bs (((Pg.dCnt l.length).app (Pg.dCat Pg.St.dl (l.take k))).app (Pg.St.dl x)) w5) := h5; clear h5)
    go_roundw
    case rel => exact ⟨k + 1, by go_num, by omega, by rw [HS.out]; exact H5.out⟩
    case measure => simp [intOf]; omega
theorem wStL {base : Nat} {w : World} {B : Nat} {s : Ws} {bs : List Int} (h : Wr base w B s bs) {l : List Pg.St} (hr : Rm s bs (Pg.dStL l)) {a : Option Addr} {c : Nat} (hL : StL (fun k => k < base) w a c l) (ih : ∀ x, x ∈ l → StmtOk x) :
    Calls Try.prog 70 #[.pointer (some ⟨B, 0, none⟩), .slice a l.length c, .func (.func 71) #[.pointer (some ⟨B, 0, none⟩)] #[]] w fun e w' => e = .returned (.tuple #[]) ∧ WrP base w B s bs (Pg.dStL l) w' := by
  rw [Pg.dStL, Pg.dSs_cat] at hr ⊢
  exact wSs_list h hr hL ih
set_option maxRecDepth 100000 in
set_option maxHeartbeats 8000000 in
theorem stmt_one (x : Pg.St) (ih : (∀ y, y ∈ x.a → StmtOk y) ∧ (∀ y, y ∈ x.b → StmtOk y)) : StmtOk x := by
  intro base w B s bs a1 k1 a2 k2 a3 k3 a4 k4 h hr hn ha hd hx hy
  have HN : Hid (R64 x.n) := hn
  have HI : Hid ((∀ y, y ∈ x.a → StmtOk y) ∧ (∀ y, y ∈ x.b → StmtOk y)) := ih
  clear hn ih
  have hg1 : w.grownBy (w.alloc (.cells #[.int .i64 x.op, .int .i64 x.n, .slice a1 x.args.length k1, .slice a2 x.dst.length k2, .slice a3 x.a.length k3, .slice a4 x.b.length k4] 81)) none := World.grownBy_alloc _ _ _
  have HDL : Hid (x.dl = ((((((Pg.dCnt x.op).app (Pg.dNum x.n)).app (Pg.dExL x.args)).app (Pg.dNumL x.dst)).app (Pg.dStL x.a)).app (Pg.dStL x.b)).node) := by
    show _ = _
    rw [Pg.St.dl_eq]; simp only [Pg.Dl.app_assoc]
  rw [HDL.out] at hr ⊢
  have hd1 : s.dp + 1 < 65536 := by have := hr.2.1; simp only [Pg.Dl.node] at this; omega
  have hn1 : s.nd + 1 < 33554432 := by have := hr.1; simp only [Pg.Dl.node] at this; omega
  have hr := hr.into
  have R5 : Hid (Rm s.into bs ((((((Pg.dCnt x.op).app (Pg.dNum x.n)).app (Pg.dExL x.args)).app (Pg.dNumL x.dst)).app (Pg.dStL x.a)).app (Pg.dStL x.b))) := hr
  have R4 : Hid (Rm s.into bs (((((Pg.dCnt x.op).app (Pg.dNum x.n)).app (Pg.dExL x.args)).app (Pg.dNumL x.dst)).app (Pg.dStL x.a))) := R5.out.pre
  have R3 : Hid (Rm s.into bs ((((Pg.dCnt x.op).app (Pg.dNum x.n)).app (Pg.dExL x.args)).app (Pg.dNumL x.dst))) := R4.out.pre
  have R2 : Hid (Rm s.into bs (((Pg.dCnt x.op).app (Pg.dNum x.n)).app (Pg.dExL x.args))) := R3.out.pre
  have R1 : Hid (Rm s.into bs ((Pg.dCnt x.op).app (Pg.dNum x.n))) := R2.out.pre
  have R0 : Hid (Rm s.into bs (Pg.dCnt x.op)) := R1.out.pre
  have HK : Hid (∀ W, Kp base (w.alloc (.cells #[.int .i64 x.op, .int .i64 x.n, .slice a1 x.args.length k1, .slice a2 x.dst.length k2, .slice a3 x.a.length k3, .slice a4 x.b.length k4] 81)) W → ∀ j v, (#[.int .i64 x.op, .int .i64 x.n, .slice a1 x.args.length k1, .slice a2 x.dst.length k2, .slice a3 x.a.length k3, .slice a4 x.b.length k4] : Array Value)[j]? = some v → W.cell? ⟨w.heap.size, j, none⟩ = some v) := fun W k j v hv => by rw [Kp.cell k (heap_alloc_new w _) ⟨by decide, by decide⟩ j]; exact hv
  have HA : Hid (∀ W, Kp base (w.alloc (.cells #[.int .i64 x.op, .int .i64 x.n, .slice a1 x.args.length k1, .slice a2 x.dst.length k2, .slice a3 x.a.length k3, .slice a4 x.b.length k4] 81)) W → ExL (fun k => k < base) W a1 k1 x.args) := fun W k => ExL.ch ha ((Kp.of hg1).trans k).ch (fun k hk => not_range hk) (fun _ h => h)
  have HD : Hid (∀ W, Kp base (w.alloc (.cells #[.int .i64 x.op, .int .i64 x.n, .slice a1 x.args.length k1, .slice a2 x.dst.length k2, .slice a3 x.a.length k3, .slice a4 x.b.length k4] 81)) W → NumL (fun k => k < base) W a2 k2 x.dst) := fun W k => NumL.ch hd ((Kp.of hg1).trans k).ch (fun k hk => not_range hk) (fun _ h => h)
  have HX : Hid (∀ W, Kp base (w.alloc (.cells #[.int .i64 x.op, .int .i64 x.n, .slice a1 x.args.length k1, .slice a2 x.dst.length k2, .slice a3 x.a.length k3, .slice a4 x.b.length k4] 81)) W → StL (fun k => k < base) W a3 k3 x.a) := fun W k => StL.ch hx ((Kp.of hg1).trans k).ch (fun k hk => not_range hk) (fun _ h => h)
  have HY : Hid (∀ W, Kp base (w.alloc (.cells #[.int .i64 x.op, .int .i64 x.n, .slice a1 x.args.length k1, .slice a2 x.dst.length k2, .slice a3 x.a.length k3, .slice a4 x.b.length k4] 81)) W → StL (fun k => k < base) W a4 k4 x.b) := fun W k => StL.ch hy ((Kp.of hg1).trans k).ch (fun k hk => not_range hk) (fun _ h => h)
  have HB : Hid (Calls Try.prog 85 #[.pointer (some ⟨B, 0, none⟩)] (w.alloc (.cells #[.int .i64 x.op, .int .i64 x.n, .slice a1 x.args.length k1, .slice a2 x.dst.length k2, .slice a3 x.a.length k3, .slice a4 x.b.length k4] 81)) fun e w' => e = .returned (.bool true) ∧ Kp base (w.alloc (.cells #[.int .i64 x.op, .int .i64 x.n, .slice a1 x.args.length k1, .slice a2 x.dst.length k2, .slice a3 x.a.length k3, .slice a4 x.b.length k4] 81)) w' ∧ Wr base w' B s.into bs) := begin_any (h.grow hg1) hn1 hd1
  clear h hr ha hd hx hy hn1
  go_enter Try.func71, Try.ntmps71
  go_wp2_with (first
    | (go_at_call 85; refine HB.out.mono ?_; rintro e w1 ⟨rfl, kk, hh⟩; have K0 : Hid (Kp base (w.alloc (.cells #[.int .i64 x.op, .int .i64 x.n, .slice a1 x.args.length k1, .slice a2 x.dst.length k2, .slice a3 x.a.length k3, .slice a4 x.b.length k4] 81)) w1) := kk; have m0 := HK.out w1 K0.out 0 _ rfl; have HC0 : Hid (Calls Try.prog 68 #[.pointer (some ⟨B, 0, none⟩), .int .i64 x.op] w1 fun e w' => e = .returned (.tuple #[]) ∧ WrP base w1 B s.into bs (Pg.dCnt x.op) w') := (fun hw hr => count_any hw hr) hh R0.out; clear kk hh HB)
    | (go_at_call 68; refine HC0.out.mono ?_; rintro e w2 ⟨rfl, hh⟩; have A1 : Hid (WrP base w1 B s.into bs (Pg.dCnt x.op) w2) := hh; have K1 : Hid (Kp base (w.alloc (.cells #[.int .i64 x.op, .int .i64 x.n, .slice a1 x.args.length k1, .slice a2 x.dst.length k2, .slice a3 x.a.length k3, .slice a4 x.b.length k4] 81)) w2) := K0.out.trans hh.1; have m1 := HK.out w2 K1.out 1 _ rfl; have HC1 : Hid (Calls Try.prog 84 #[.pointer (some ⟨B, 0, none⟩), .int .u64 (Pg.zig x.n : Nat)] w2 fun e w' => e = .returned (.tuple #[]) ∧ WrP base w1 B s.into bs ((Pg.dCnt x.op).app (Pg.dNum x.n)) w') := A1.out.call R1.out (fun s' bs' hw hr => groups_any hw (Pg.zig_lt HN.out) hr); clear hh HC0 m0)
    | (go_at_call 84; refine HC1.out.mono ?_; rintro e w3 ⟨rfl, hh⟩; have A2 : Hid (WrP base w1 B s.into bs ((Pg.dCnt x.op).app (Pg.dNum x.n)) w3) := hh; have K2 : Hid (Kp base (w.alloc (.cells #[.int .i64 x.op, .int .i64 x.n, .slice a1 x.args.length k1, .slice a2 x.dst.length k2, .slice a3 x.a.length k3, .slice a4 x.b.length k4] 81)) w3) := K0.out.trans hh.1; have m2 := HK.out w3 K2.out 2 _ rfl; have HC2 : Hid (Calls Try.prog 87 #[.pointer (some ⟨B, 0, none⟩), .slice a1 x.args.length k1, .func (.func 88) #[.pointer (some ⟨B, 0, none⟩)] #[]] w3 fun e w' => e = .returned (.tuple #[]) ∧ WrP base w1 B s.into bs (((Pg.dCnt x.op).app (Pg.dNum x.n)).app (Pg.dExL x.args)) w') := A2.out.call R2.out (fun s' bs' hw hr => wExL hw hr (HA.out w3 (K2.out)) (fun y _ => term_any y)); clear hh HC1 m1)
    | (go_at_call 87; refine HC2.out.mono ?_; rintro e w4 ⟨rfl, hh⟩; have A3 : Hid (WrP base w1 B s.into bs (((Pg.dCnt x.op).app (Pg.dNum x.n)).app (Pg.dExL x.args)) w4) := hh; have K3 : Hid (Kp base (w.alloc (.cells #[.int .i64 x.op, .int .i64 x.n, .slice a1 x.args.length k1, .slice a2 x.dst.length k2, .slice a3 x.a.length k3, .slice a4 x.b.length k4] 81)) w4) := K0.out.trans hh.1; have m3 := HK.out w4 K3.out 3 _ rfl; have HC3 : Hid (Calls Try.prog 69 #[.pointer (some ⟨B, 0, none⟩), .slice a2 x.dst.length k2, .func (.func 68) #[.pointer (some ⟨B, 0, none⟩)] #[]] w4 fun e w' => e = .returned (.tuple #[]) ∧ WrP base w1 B s.into bs ((((Pg.dCnt x.op).app (Pg.dNum x.n)).app (Pg.dExL x.args)).app (Pg.dNumL x.dst)) w') := A3.out.call R3.out (fun s' bs' hw hr => wNumL hw hr (HD.out w4 (K3.out))); clear hh HC2 m2)
    | (go_at_call 69; refine HC3.out.mono ?_; rintro e w5 ⟨rfl, hh⟩; have A4 : Hid (WrP base w1 B s.into bs ((((Pg.dCnt x.op).app (Pg.dNum x.n)).app (Pg.dExL x.args)).app (Pg.dNumL x.dst)) w5) := hh; have K4 : Hid (Kp base (w.alloc (.cells #[.int .i64 x.op, .int .i64 x.n, .slice a1 x.args.length k1, .slice a2 x.dst.length k2, .slice a3 x.a.length k3, .slice a4 x.b.length k4] 81)) w5) := K0.out.trans hh.1; have m4 := HK.out w5 K4.out 4 _ rfl; have HC4 : Hid (Calls Try.prog 70 #[.pointer (some ⟨B, 0, none⟩), .slice a3 x.a.length k3, .func (.func 71) #[.pointer (some ⟨B, 0, none⟩)] #[]] w5 fun e w' => e = .returned (.tuple #[]) ∧ WrP base w1 B s.into bs (((((Pg.dCnt x.op).app (Pg.dNum x.n)).app (Pg.dExL x.args)).app (Pg.dNumL x.dst)).app (Pg.dStL x.a)) w') := A4.out.call R4.out (fun s' bs' hw hr => wStL hw hr (HX.out w5 (K4.out)) HI.out.1); clear hh HC3 m3)
    | (go_at_call 70; refine HC4.out.mono ?_; rintro e w6 ⟨rfl, hh⟩; have A5 : Hid (WrP base w1 B s.into bs (((((Pg.dCnt x.op).app (Pg.dNum x.n)).app (Pg.dExL x.args)).app (Pg.dNumL x.dst)).app (Pg.dStL x.a)) w6) := hh; have K5 : Hid (Kp base (w.alloc (.cells #[.int .i64 x.op, .int .i64 x.n, .slice a1 x.args.length k1, .slice a2 x.dst.length k2, .slice a3 x.a.length k3, .slice a4 x.b.length k4] 81)) w6) := K0.out.trans hh.1; have m5 := HK.out w6 K5.out 5 _ rfl; have HC5 : Hid (Calls Try.prog 70 #[.pointer (some ⟨B, 0, none⟩), .slice a4 x.b.length k4, .func (.func 71) #[.pointer (some ⟨B, 0, none⟩)] #[]] w6 fun e w' => e = .returned (.tuple #[]) ∧ WrP base w1 B s.into bs ((((((Pg.dCnt x.op).app (Pg.dNum x.n)).app (Pg.dExL x.args)).app (Pg.dNumL x.dst)).app (Pg.dStL x.a)).app (Pg.dStL x.b)) w') := A5.out.call R5.out (fun s' bs' hw hr => wStL hw hr (HY.out w6 (K5.out)) HI.out.2); clear hh HC4 m4)
    | (go_at_call 70; refine HC5.out.mono ?_; rintro e w7 ⟨rfl, hh⟩; have A6 : Hid (WrP base w1 B s.into bs ((((((Pg.dCnt x.op).app (Pg.dNum x.n)).app (Pg.dExL x.args)).app (Pg.dNumL x.dst)).app (Pg.dStL x.a)).app (Pg.dStL x.b)) w7) := hh; have K6 : Hid (Kp base (w.alloc (.cells #[.int .i64 x.op, .int .i64 x.n, .slice a1 x.args.length k1, .slice a2 x.dst.length k2, .slice a3 x.a.length k3, .slice a4 x.b.length k4] 81)) w7) := K0.out.trans hh.1; clear hh HC5 m5)
    | (go_at_call 86; refine (fold_any HN.out _).mono ?_; rintro e w99 ⟨rfl, hw⟩; rw [hw]; clear hw w99)
    | (go_at_call 89; refine (WrP.finish ((Kp.of hg1).trans K0.out) A6.out hd1).mono ?_; rintro e w98 ⟨rfl, hh⟩; have AE := hh; clear hh))
  first | go_end0 | go_returns
  exact ⟨rfl, AE⟩
theorem stmt_any (x : Pg.St) : StmtOk x := Pg.St.ind (P := StmtOk) (fun op n args dst a b ia ib => stmt_one (.mk op n args dst a b) ⟨ia, ib⟩) x
end Go.Proofs.Ytljdjkiejppenaa
