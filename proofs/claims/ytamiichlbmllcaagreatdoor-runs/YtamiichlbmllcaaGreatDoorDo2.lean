/-
  What each instruction does: the contracts of the methods 'do' of package machine (those that reckon, and those that may fail).
-/
import Derived.Test.YtamiichlbmllcaaGreatDoorDo1
import Derived.Deep.RegionHeld3
namespace Go.Proofs.YtamiichlbmllcaaGreatDoor
open Go.RowKit
theorem wrap_is (x : Int) : IntKind.i64.wrap x = wrap64 x := by
  have h1 : (2 ^ IntKind.i64.bits : Int) = 18446744073709551616 := by decide
  have h2 : (2 ^ (IntKind.i64.bits - 1) : Int) = 9223372036854775808 := by decide
  have h3 : IntKind.i64.signed = true := rfl
  unfold IntKind.wrap wrap64
  simp only [h1, h2, h3, Bool.true_and, decide_eq_true_eq, ge_iff_le]
  split <;> omega
theorem box3 {w1 : World} {N : Nat} {A B C : Value} {T : TypeId} (hH : w1.heap[N]? = some (.cells #[A, B, C] T (0, 0))) : w1.cell? ⟨N, 0, none⟩ = some A ∧ w1.cell? ⟨N, 1, none⟩ = some B ∧ w1.cell? ⟨N, 2, none⟩ = some C := by
  refine ⟨?_, ?_, ?_⟩ <;> rw [cell_of_row _ _ _ _ _ _ hH] <;> rfl
theorem box_keep {g : Nat} {w : World} {pv : Value} {s : MS} {F : Int} {o : O4} (h : MRow w g pv s F o) (x : Obj) (w2 : World) (hb2 : Below (w.alloc x).drew.heap.size (w.alloc x).drew w2) : w2.heap[w.heap.size]? = some x ∧ MRow w2 g pv s F o ∧ But g w w2 := by
  have hb1 := belAD w x
  have hlt : w.heap.size < (w.alloc x).drew.heap.size := lt_of_block (w := (w.alloc x).drew) (heap_alloc_new w x)
  exact ⟨(hb2.block _ hlt).trans (heap_alloc_new w x), (h.bel hb1).bel hb2, (But.ofBelow hb1).trans (But.ofBelow hb2)⟩
set_option maxHeartbeats 1000000 in
theorem add_do (a b c : Nat) (ha : a < 8) (hb : b < 8) (hc : c < 8) (g : Nat) (pv : Value) (s : MS) (F : Int) (o : O4) (w : World) (h : MRow w g pv s F o) :
    Calls Tryz.prog 169 #[.agg #[.int .i64 a, .int .i64 b, .int .i64 c], .pointer (some ⟨g, 0, none⟩)] w fun e w' => e = .returned (.int .i64 0) ∧ MRow w' g pv { s with r := upd s.r a (wrap64 (s.r b + s.r c)) } F o ∧ But g w w' := by
  have hg := RowF.lt h
  have HX : Hid (∀ w2, Below (w.alloc (.cells #[.int .i64 a, .int .i64 b, .int .i64 c] 187)).drew.heap.size (w.alloc (.cells #[.int .i64 a, .int .i64 b, .int .i64 c] 187)).drew w2 → w2.heap[w.heap.size]? = some (.cells #[.int .i64 a, .int .i64 b, .int .i64 c] 187 (0, 0)) ∧ MRow w2 g pv s F o ∧ But g w w2) := hide (box_keep h _)
  have H1 : Hid (MRow (w.alloc (.cells #[.int .i64 a, .int .i64 b, .int .i64 c] 187)).drew g pv s F o) := hide (h.bel (belAD _ _))
  go_enter Tryz.func169, Tryz.ntmps169
  go_wp2_with fail
  go_region_held3 (fun w' => w'.cell? ⟨w.heap.size, 0, none⟩ = some (.int .i64 a) ∧ w'.cell? ⟨w.heap.size, 1, none⟩ = some (.int .i64 b) ∧ w'.cell? ⟨w.heap.size, 2, none⟩ = some (.int .i64 c)) (go_keep) (first
    | (go_at_call 161; refine (left_do _ _ _ b rfl hb g pv s F o _ H1.out).mono ?_; rintro e w2 ⟨rfl, hb2⟩; obtain ⟨hx, h2, bu2⟩ := HX.out w2 hb2; obtain ⟨q0, q1, q2⟩ := box3 hx; have HX2 := hide hx; have H2 := hide h2; have B2 := hide bu2; clear hb2 hx h2 bu2)
    | (go_at_call 172; refine (right_do _ _ _ c rfl hc g pv s F o _ H2.out).mono ?_; rintro e w3 ⟨rfl, hb3⟩; have H3 := hide (H2.out.bel hb3); have B3 := hide (B2.out.trans (But.ofBelow hb3)); have HX3 := hide ((hb3.block _ (lt_of_block HX2.out)).trans HX2.out); obtain ⟨z0, z1, z2⟩ := box3 HX3.out; clear hb3)
    | (go_at_call 171; refine (put_do _ _ a _ ha g pv s F o _ H3.out).mono ?_; rintro e w4 ⟨rfl, h4, hb4⟩; have B4 := hide (B3.out.trans hb4); have H4 := hide h4; obtain ⟨y0, y1, y2⟩ := box3 ((hb4.block _ (lt_of_block HX3.out) (by omega)).trans HX3.out); clear hb4 h4))
  go_wp2
  go_ret
  exact ⟨rfl, by rw [← wrap_is]; exact H4.out, B4.out⟩
set_option maxHeartbeats 1000000 in
theorem sub_do (a b c : Nat) (ha : a < 8) (hb : b < 8) (hc : c < 8) (g : Nat) (pv : Value) (s : MS) (F : Int) (o : O4) (w : World) (h : MRow w g pv s F o) :
    Calls Tryz.prog 180 #[.agg #[.int .i64 a, .int .i64 b, .int .i64 c], .pointer (some ⟨g, 0, none⟩)] w fun e w' => e = .returned (.int .i64 0) ∧ MRow w' g pv { s with r := upd s.r a (wrap64 (s.r b - s.r c)) } F o ∧ But g w w' := by
  have hg := RowF.lt h
  have HX : Hid (∀ w2, Below (w.alloc (.cells #[.int .i64 a, .int .i64 b, .int .i64 c] 188)).drew.heap.size (w.alloc (.cells #[.int .i64 a, .int .i64 b, .int .i64 c] 188)).drew w2 → w2.heap[w.heap.size]? = some (.cells #[.int .i64 a, .int .i64 b, .int .i64 c] 188 (0, 0)) ∧ MRow w2 g pv s F o ∧ But g w w2) := hide (box_keep h _)
  have H1 : Hid (MRow (w.alloc (.cells #[.int .i64 a, .int .i64 b, .int .i64 c] 188)).drew g pv s F o) := hide (h.bel (belAD _ _))
  go_enter Tryz.func180, Tryz.ntmps180
  go_wp2_with fail
  go_region_held3 (fun w' => w'.cell? ⟨w.heap.size, 0, none⟩ = some (.int .i64 a) ∧ w'.cell? ⟨w.heap.size, 1, none⟩ = some (.int .i64 b) ∧ w'.cell? ⟨w.heap.size, 2, none⟩ = some (.int .i64 c)) (go_keep) (first
    | (go_at_call 161; refine (left_do _ _ _ b rfl hb g pv s F o _ H1.out).mono ?_; rintro e w2 ⟨rfl, hb2⟩; obtain ⟨hx, h2, bu2⟩ := HX.out w2 hb2; obtain ⟨q0, q1, q2⟩ := box3 hx; have HX2 := hide hx; have H2 := hide h2; have B2 := hide bu2; clear hb2 hx h2 bu2)
    | (go_at_call 172; refine (right_do _ _ _ c rfl hc g pv s F o _ H2.out).mono ?_; rintro e w3 ⟨rfl, hb3⟩; have H3 := hide (H2.out.bel hb3); have B3 := hide (B2.out.trans (But.ofBelow hb3)); have HX3 := hide ((hb3.block _ (lt_of_block HX2.out)).trans HX2.out); obtain ⟨z0, z1, z2⟩ := box3 HX3.out; clear hb3)
    | (go_at_call 171; refine (put_do _ _ a _ ha g pv s F o _ H3.out).mono ?_; rintro e w4 ⟨rfl, h4, hb4⟩; have B4 := hide (B3.out.trans hb4); have H4 := hide h4; obtain ⟨y0, y1, y2⟩ := box3 ((hb4.block _ (lt_of_block HX3.out) (by omega)).trans HX3.out); clear hb4 h4))
  go_wp2
  go_ret
  exact ⟨rfl, by rw [← wrap_is]; exact H4.out, B4.out⟩
set_option maxHeartbeats 1000000 in
theorem mul_do (a b c : Nat) (ha : a < 8) (hb : b < 8) (hc : c < 8) (g : Nat) (pv : Value) (s : MS) (F : Int) (o : O4) (w : World) (h : MRow w g pv s F o) :
    Calls Tryz.prog 184 #[.agg #[.int .i64 a, .int .i64 b, .int .i64 c], .pointer (some ⟨g, 0, none⟩)] w fun e w' => e = .returned (.int .i64 0) ∧ MRow w' g pv { s with r := upd s.r a (wrap64 (s.r b * s.r c)) } F o ∧ But g w w' := by
  have hg := RowF.lt h
  have HX : Hid (∀ w2, Below (w.alloc (.cells #[.int .i64 a, .int .i64 b, .int .i64 c] 189)).drew.heap.size (w.alloc (.cells #[.int .i64 a, .int .i64 b, .int .i64 c] 189)).drew w2 → w2.heap[w.heap.size]? = some (.cells #[.int .i64 a, .int .i64 b, .int .i64 c] 189 (0, 0)) ∧ MRow w2 g pv s F o ∧ But g w w2) := hide (box_keep h _)
  have H1 : Hid (MRow (w.alloc (.cells #[.int .i64 a, .int .i64 b, .int .i64 c] 189)).drew g pv s F o) := hide (h.bel (belAD _ _))
  go_enter Tryz.func184, Tryz.ntmps184
  go_wp2_with fail
  go_region_held3 (fun w' => w'.cell? ⟨w.heap.size, 0, none⟩ = some (.int .i64 a) ∧ w'.cell? ⟨w.heap.size, 1, none⟩ = some (.int .i64 b) ∧ w'.cell? ⟨w.heap.size, 2, none⟩ = some (.int .i64 c)) (go_keep) (first
    | (go_at_call 161; refine (left_do _ _ _ b rfl hb g pv s F o _ H1.out).mono ?_; rintro e w2 ⟨rfl, hb2⟩; obtain ⟨hx, h2, bu2⟩ := HX.out w2 hb2; obtain ⟨q0, q1, q2⟩ := box3 hx; have HX2 := hide hx; have H2 := hide h2; have B2 := hide bu2; clear hb2 hx h2 bu2)
    | (go_at_call 172; refine (right_do _ _ _ c rfl hc g pv s F o _ H2.out).mono ?_; rintro e w3 ⟨rfl, hb3⟩; have H3 := hide (H2.out.bel hb3); have B3 := hide (B2.out.trans (But.ofBelow hb3)); have HX3 := hide ((hb3.block _ (lt_of_block HX2.out)).trans HX2.out); obtain ⟨z0, z1, z2⟩ := box3 HX3.out; clear hb3)
    | (go_at_call 171; refine (put_do _ _ a _ ha g pv s F o _ H3.out).mono ?_; rintro e w4 ⟨rfl, h4, hb4⟩; have B4 := hide (B3.out.trans hb4); have H4 := hide h4; obtain ⟨y0, y1, y2⟩ := box3 ((hb4.block _ (lt_of_block HX3.out) (by omega)).trans HX3.out); clear hb4 h4))
  go_wp2
  go_ret
  exact ⟨rfl, by rw [← wrap_is]; exact H4.out, B4.out⟩
set_option maxHeartbeats 1000000 in
theorem div_do (a b c : Nat) (ha : a < 8) (hb : b < 8) (hc : c < 8) (g : Nat) (pv : Value) (s : MS) (F : Int) (o : O4) (w : World) (h : MRow w g pv s F o) (hz : (s.r c == 0) = false) :
    Calls Tryz.prog 188 #[.agg #[.int .i64 a, .int .i64 b, .int .i64 c], .pointer (some ⟨g, 0, none⟩)] w fun e w' => e = .returned (.int .i64 0) ∧ MRow w' g pv { s with r := upd s.r a (wrap64 ((s.r b).tdiv (s.r c))) } F o ∧ But g w w' := by
  obtain ⟨c1, f1⟩ := h.reg a ha
  obtain ⟨c2, f2⟩ := h.reg b hb
  obtain ⟨c3, f3⟩ := h.reg c hc
  have hg := RowF.lt h
  have hz2 : ¬ s.r c = 0 := by simpa using hz
  go_enter Tryz.func188, Tryz.ntmps188
  go_wp2_with fail
  go_region
  go_wp2_with fail
  go_region
  go_wp2
  go_ret
  exact ⟨rfl, fin2 (h.setReg a ha _) (But.set _ _ _ _) ((belAD _ _).drew)⟩
set_option maxHeartbeats 400000 in
theorem div_zero (a b : Int) (c : Nat) (hc : c < 8) (g : Nat) (pv : Value) (s : MS) (F : Int) (o : O4) (w : World) (h : MRow w g pv s F o) (hz : (s.r c == 0) = true) :
    Calls Tryz.prog 188 #[.agg #[.int .i64 a, .int .i64 b, .int .i64 c], .pointer (some ⟨g, 0, none⟩)] w fun e w' => e = .returned (.int .i64 3) ∧ MRow w' g pv s F o ∧ But g w w' := by
  obtain ⟨c3, f3⟩ := h.reg c hc
  have hg := RowF.lt h
  go_enter Tryz.func188, Tryz.ntmps188
  go_wp2_with fail
  go_region
  go_wp2
  go_ret
  exact ⟨rfl, fin2 h (But.refl _ _) (belAD _ _)⟩
set_option maxHeartbeats 400000 in
theorem isWord_any (n : Int) (w : World) :
    Calls Tryz.prog 193 #[.int .i64 n] w fun e w' => e = .returned (.bool (decide (0 ≤ n ∧ n < 16))) ∧ w = w' := by
  by_cases h0 : 0 ≤ n <;> by_cases h1 : n < 16
  all_goals
    go_enter Tryz.func193, Tryz.ntmps193
    go_wp2
    go_ret
    exact ⟨by simp [h0, h1], rfl⟩
set_option maxHeartbeats 1000000 in
theorem load_do (a b n : Nat) (ha : a < 8) (hb : b < 8) (hn : n < 16) (g : Nat) (pv : Value) (s : MS) (F : Int) (o : O4) (w : World) (h : MRow w g pv s F o) (hr : Hid (s.r b = n)) :
    Calls Tryz.prog 191 #[.agg #[.int .i64 a, .int .i64 b], .pointer (some ⟨g, 0, none⟩)] w fun e w' => e = .returned (.int .i64 0) ∧ MRow w' g pv { s with r := upd s.r a (s.m n) } F o ∧ But g w w' := by
  obtain ⟨c1, f1⟩ := h.reg a ha
  obtain ⟨c2, f2⟩ := h.reg b hb
  rw [hr.out] at c2
  obtain ⟨c3, f3⟩ := h.word n hn
  have hg := RowF.lt h
  have hd : decide (0 ≤ (n : Int) ∧ (n : Int) < 16) = true := by simp; omega
  go_enter Tryz.func191, Tryz.ntmps191
  go_wp2_with fail
  go_region
  go_wp2_with (go_at_call 193; refine (isWord_any _ _).mono ?_; rintro e w' ⟨rfl, rfl⟩; rw [hd])
  go_region
  go_wp2
  go_ret
  exact ⟨rfl, fin2 (h.setReg a ha _) (But.set _ _ _ _) ((belAD _ _).drew)⟩
set_option maxHeartbeats 400000 in
theorem load_bad (a : Int) (b : Nat) (hb : b < 8) (g : Nat) (pv : Value) (s : MS) (F : Int) (o : O4) (w : World) (h : MRow w g pv s F o) (hr : decide (0 ≤ s.r b ∧ s.r b < 16) = false) :
    Calls Tryz.prog 191 #[.agg #[.int .i64 a, .int .i64 b], .pointer (some ⟨g, 0, none⟩)] w fun e w' => e = .returned (.int .i64 4) ∧ MRow w' g pv s F o ∧ But g w w' := by
  obtain ⟨c2, f2⟩ := h.reg b hb
  have hg := RowF.lt h
  have HD := hide hr
  clear hr
  go_enter Tryz.func191, Tryz.ntmps191
  go_wp2_with fail
  go_region
  go_wp2_with (go_at_call 193; refine (isWord_any _ _).mono ?_; rintro e w' ⟨rfl, rfl⟩; rw [HD.out])
  go_ret
  exact ⟨rfl, fin2 h (But.refl _ _) (belAD _ _)⟩
set_option maxHeartbeats 1000000 in
theorem store_do (a b n : Nat) (ha : a < 8) (hb : b < 8) (hn : n < 16) (g : Nat) (pv : Value) (s : MS) (F : Int) (o : O4) (w : World) (h : MRow w g pv s F o) (hr : Hid (s.r a = n)) :
    Calls Tryz.prog 194 #[.agg #[.int .i64 a, .int .i64 b], .pointer (some ⟨g, 0, none⟩)] w fun e w' => e = .returned (.int .i64 0) ∧ MRow w' g pv { s with m := upd s.m n (s.r b) } F o ∧ But g w w' := by
  obtain ⟨c1, f1⟩ := h.reg a ha
  obtain ⟨c2, f2⟩ := h.reg b hb
  rw [hr.out] at c1
  obtain ⟨c3, f3⟩ := h.word n hn
  have hg := RowF.lt h
  have hd : decide (0 ≤ (n : Int) ∧ (n : Int) < 16) = true := by simp; omega
  by_cases hab : a = b
  · subst hab
    have HR := hide hr.out
    clear c2 f2 hr
    rw [HR.out]
    go_enter Tryz.func194, Tryz.ntmps194
    go_wp2_with fail
    go_region
    go_wp2_with (go_at_call 193; refine (isWord_any _ _).mono ?_; rintro e w' ⟨rfl, rfl⟩; rw [hd])
    go_region
    go_wp2
    go_ret
    exact ⟨rfl, fin2 (h.setWord n hn _) (But.set _ _ _ _) ((belAD _ _).drew)⟩
  · go_enter Tryz.func194, Tryz.ntmps194
    go_wp2_with fail
    go_region
    go_wp2_with (go_at_call 193; refine (isWord_any _ _).mono ?_; rintro e w' ⟨rfl, rfl⟩; rw [hd])
    go_region
    go_wp2
    go_ret
    exact ⟨rfl, fin2 (h.setWord n hn _) (But.set _ _ _ _) ((belAD _ _).drew)⟩
set_option maxHeartbeats 400000 in
theorem store_bad (a : Nat) (b : Int) (ha : a < 8) (g : Nat) (pv : Value) (s : MS) (F : Int) (o : O4) (w : World) (h : MRow w g pv s F o) (hr : decide (0 ≤ s.r a ∧ s.r a < 16) = false) :
    Calls Tryz.prog 194 #[.agg #[.int .i64 a, .int .i64 b], .pointer (some ⟨g, 0, none⟩)] w fun e w' => e = .returned (.int .i64 4) ∧ MRow w' g pv s F o ∧ But g w w' := by
  obtain ⟨c2, f2⟩ := h.reg a ha
  have hg := RowF.lt h
  have HD := hide hr
  clear hr
  go_enter Tryz.func194, Tryz.ntmps194
  go_wp2_with fail
  go_region
  go_wp2_with (go_at_call 193; refine (isWord_any _ _).mono ?_; rintro e w' ⟨rfl, rfl⟩; rw [HD.out])
  go_ret
  exact ⟨rfl, fin2 h (But.refl _ _) (belAD _ _)⟩
end Go.Proofs.YtamiichlbmllcaaGreatDoor
