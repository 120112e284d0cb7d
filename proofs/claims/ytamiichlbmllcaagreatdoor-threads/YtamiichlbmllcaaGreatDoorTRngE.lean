import Derived.Test.YtamiichlbmllcaaGreatDoorTStA
import Derived.Test.YtamiichlbmllcaaGreatDoorTRowF
/-
  States: contracts of ranges.stateLiesIn and With.
-/
namespace Go.Proofs.YtamiichlbmllcaaGreatDoor
open Go.RowKit
theorem stC_get (s : Nat → R2) (n : Nat) (hn : n < 8) : (stC s)[n * 2]? = some (.int .i64 (s n).lo) ∧ (stC s)[n * 2 + 1]? = some (.int .i64 (s n).hi) := by
  match n, hn with
  | 0, _ => exact ⟨rfl, rfl⟩
  | 1, _ => exact ⟨rfl, rfl⟩
  | 2, _ => exact ⟨rfl, rfl⟩
  | 3, _ => exact ⟨rfl, rfl⟩
  | 4, _ => exact ⟨rfl, rfl⟩
  | 5, _ => exact ⟨rfl, rfl⟩
  | 6, _ => exact ⟨rfl, rfl⟩
  | 7, _ => exact ⟨rfl, rfl⟩
  | n + 8, h => omega
def liesR (s t : Nat → R2) : Bool := (List.range 8).all fun i => inRg (s i) (t i)
theorem liesR_yes {s t : Nat → R2} (h : ∀ i, i < 8 → inRg (s i) (t i) = true) : liesR s t = true := by
  unfold liesR; rw [List.all_eq_true]; intro i hi; exact h i (List.mem_range.1 hi)
theorem liesR_no {s t : Nat → R2} {n : Nat} (hn : n < 8) (h : inRg (s n) (t n) = false) : liesR s t = false := by
  unfold liesR; rw [List.all_eq_false]; exact ⟨n, List.mem_range.2 hn, by simp [h]⟩
set_option maxHeartbeats 8000000 in
set_option maxRecDepth 100000 in
theorem stateLies_any (s t : Nat → R2) (w : World) : Calls Tryz.prog 151 #[.agg (stC s), .agg (stC t)] w fun e w' => e = .returned (.bool (liesR s t)) ∧ Below w.heap.size w w' := by
  have HI := hide (idx_st s)
  have HST : Hid (stC s = #[.int .i64 (s 0).lo, .int .i64 (s 0).hi, .int .i64 (s 1).lo, .int .i64 (s 1).hi, .int .i64 (s 2).lo, .int .i64 (s 2).hi, .int .i64 (s 3).lo, .int .i64 (s 3).hi, .int .i64 (s 4).lo, .int .i64 (s 4).hi, .int .i64 (s 5).lo, .int .i64 (s 5).hi, .int .i64 (s 6).lo, .int .i64 (s 6).hi, .int .i64 (s 7).lo, .int .i64 (s 7).hi]) := hide rfl
  have HTT : Hid (stC t = #[.int .i64 (t 0).lo, .int .i64 (t 0).hi, .int .i64 (t 1).lo, .int .i64 (t 1).hi, .int .i64 (t 2).lo, .int .i64 (t 2).hi, .int .i64 (t 3).lo, .int .i64 (t 3).hi, .int .i64 (t 4).lo, .int .i64 (t 4).hi, .int .i64 (t 5).lo, .int .i64 (t 5).hi, .int .i64 (t 6).lo, .int .i64 (t 6).hi, .int .i64 (t 7).lo, .int .i64 (t 7).hi]) := hide rfl
  rw [HST.out, HTT.out]
  go_enter Tryz.func151, Tryz.ntmps151
  go_wp2_with fail
  rw [← HST.out, ← HTT.out]
  have hH : ((w.alloc (.cells (stC s) 30)).alloc (.cells (stC t) 30)).heap[w.heap.size + 1]? = some (.cells (stC t) 30 (0, 0)) := by
    have := heap_alloc_new (w.alloc (.cells (stC s) 30)) (.cells (stC t) 30)
    simpa using this
  have hb0 : Below w.heap.size w ((w.alloc (.cells (stC s) 30)).alloc (.cells (stC t) 30)) := (belA1 _ _).alloc (by simp) _
  generalize (w.alloc (.cells (stC s) 30)).alloc (.cells (stC t) 30) = w1 at *
  have hlt1 := lt_of_block hH
  have HH := hide hH
  have HB0 := hide hb0
  clear hH hb0
  go_loopw [8] (fun j wr => ∃ n : Nat, n ≤ 8 ∧ j = .int .i64 n ∧ (∀ i, i < n → inRg (s i) (t i) = true) ∧ Below w1.heap.size w1 wr) (fun j _ => 8 - (intOf j).toNat)
  case atStart => exact ⟨0, by omega, rfl, fun i hi => by omega, Below.refl _ _⟩
  case round =>
    obtain ⟨n, hn, rfl, hall, hbl⟩ := hrel
    have HA := hide hall
    have hzr := hbl.size
    clear hall
    by_cases hlt : n < 8
    · have hx := HI.out n hlt
      have c0 : wr.cell? ⟨w.heap.size + 1, n * 2, none⟩ = some (.int .i64 (t n).lo) := by rw [hbl.cell (p := ⟨w.heap.size + 1, _, none⟩) hlt1, cell_of_row _ _ _ _ _ _ HH.out]; exact (stC_get t n hlt).1
      have c1 : wr.cell? ⟨w.heap.size + 1, n * 2 + 1, none⟩ = some (.int .i64 (t n).hi) := by rw [hbl.cell (p := ⟨w.heap.size + 1, _, none⟩) hlt1, cell_of_row _ _ _ _ _ _ HH.out]; exact (stC_get t n hlt).2
      have hltr : w.heap.size + 1 < wr.heap.size := by omega
      have HBR := hide (HB0.out.trans (hbl.mono HB0.out.size))
      have HBL := hide hbl
      clear hbl
      have HL : Hid (∀ wx, Calls Tryz.prog 152 #[.agg #[.int .i64 (s n).lo, .int .i64 (s n).hi], .agg #[.int .i64 (t n).lo, .int .i64 (t n).hi]] wx fun e w' => e = .returned (.bool (inRg (s n) (t n))) ∧ Below wx.heap.size wx w') := hide (fun wx => liesIn_any (s n) (t n) wx)
      have HX : Hid (∀ w2, Below (wr.alloc (.cells #[.int .i64 (s n).lo, .int .i64 (s n).hi] 28)).drew.heap.size (wr.alloc (.cells #[.int .i64 (s n).lo, .int .i64 (s n).hi] 28)).drew w2 → w2.cell? ⟨wr.heap.size, 0, none⟩ = some (.int .i64 (s n).lo) ∧ w2.cell? ⟨wr.heap.size, 1, none⟩ = some (.int .i64 (s n).hi) ∧ w2.cell? ⟨w.heap.size + 1, n * 2, none⟩ = some (.int .i64 (t n).lo) ∧ w2.cell? ⟨w.heap.size + 1, n * 2 + 1, none⟩ = some (.int .i64 (t n).hi) ∧ Below w1.heap.size w1 w2) := hide (fun w2 hb => by
        have hb3 : Below wr.heap.size wr w2 := ((belA1 _ _).drew).trans (hb.mono (by simp))
        refine ⟨?_, ?_, ?_, ?_, HBL.out.trans (hb3.mono hzr)⟩
        · rw [hb.cell (p := ⟨wr.heap.size, 0, none⟩) (by simp)]; simp [go_sem]
        · rw [hb.cell (p := ⟨wr.heap.size, 1, none⟩) (by simp)]; simp [go_sem]
        · rw [hb3.cell (p := ⟨w.heap.size + 1, _, none⟩) hltr]; exact c0
        · rw [hb3.cell (p := ⟨w.heap.size + 1, _, none⟩) hltr]; exact c1)
      have hni : (0 : Int) ≤ (n : Int) := by omega
      have hnj : (n : Int) < 8 := by omega
      cases he : inRg (s n) (t n)
      · have HE : Hid (liesR s t = false) := hide (liesR_no hlt he)
        have HEE := hide he
        clear he
        go_wp2_with fail
        go_region_held3 (fun w' => w'.cell? ⟨wr.heap.size, 0, none⟩ = some (.int .i64 (s n).lo) ∧ w'.cell? ⟨wr.heap.size, 1, none⟩ = some (.int .i64 (s n).hi) ∧ w'.cell? ⟨w.heap.size + 1, n * 2, none⟩ = some (.int .i64 (t n).lo) ∧ w'.cell? ⟨w.heap.size + 1, n * 2 + 1, none⟩ = some (.int .i64 (t n).hi)) (go_keep) (first
          | (go_at_call 152; refine (HL.out _).mono ?_; rintro e w2 ⟨rfl, hb2⟩; rw [HEE.out]; obtain ⟨p0, p1, p2, p3, hb4⟩ := HX.out w2 hb2; have HB4 := hide hb4; clear hb2 hb4))
        go_wp2
        go_ret
        exact ⟨ret_bool HE.out.symm, HB0.out.trans (HB4.out.mono HB0.out.size)⟩
      · have HEE := hide he
        clear he
        go_wp2_with fail
        go_region_held3 (fun w' => w'.cell? ⟨wr.heap.size, 0, none⟩ = some (.int .i64 (s n).lo) ∧ w'.cell? ⟨wr.heap.size, 1, none⟩ = some (.int .i64 (s n).hi) ∧ w'.cell? ⟨w.heap.size + 1, n * 2, none⟩ = some (.int .i64 (t n).lo) ∧ w'.cell? ⟨w.heap.size + 1, n * 2 + 1, none⟩ = some (.int .i64 (t n).hi)) (go_keep) (first
          | (go_at_call 152; refine (HL.out _).mono ?_; rintro e w2 ⟨rfl, hb2⟩; rw [HEE.out]; obtain ⟨p0, p1, p2, p3, hb4⟩ := HX.out w2 hb2; have HB4 := hide hb4; clear hb2 hb4))
        go_wp2
        exact ⟨⟨n + 1, by omega, by go_num, fun i hi => by rcases Nat.lt_succ_iff_lt_or_eq.1 hi with h | h; exact HA.out i h; subst h; exact HEE.out, HB4.out⟩, by simp [intOf]; omega⟩
    · have HE : Hid (liesR s t = true) := hide (liesR_yes fun i hi => HA.out i (by omega))
      go_wp2
      go_ret
      exact ⟨ret_bool HE.out.symm, HB0.out.trans (hbl.mono HB0.out.size)⟩
end Go.Proofs.YtamiichlbmllcaaGreatDoor
/-
  Reckoning with ranges: contracts of ranges.Sum, Difference, Product, Quotient.
-/
namespace Go.Proofs.YtamiichlbmllcaaGreatDoor
open Go.RowKit
def inI (x : Int) : Bool := decide (-9223372036854775808 ≤ x) && decide (x ≤ 9223372036854775807)
def R2.in64 (r : R2) : Prop := I64 r.lo ∧ I64 r.hi
def fitR (lo hi : Int) (ok : Bool) : R2 := if ok then ⟨lo, hi⟩ else allR
def sumR (b c : R2) : R2 := fitR (b.lo + c.lo) (b.hi + c.hi) (inI (b.lo + c.lo) && inI (b.hi + c.hi))
def difR (b c : R2) : R2 := fitR (b.lo - c.hi) (b.hi - c.lo) (inI (b.lo - c.hi) && inI (b.hi - c.lo))
def min4 (a b c d : Int) : Int := min (min a b) (min c d)
def max4 (a b c d : Int) : Int := max (max a b) (max c d)
def spanR (a b c d : Int) : R2 := ⟨min4 a b c d, max4 a b c d⟩
theorem wrap_in {x : Int} (h : inI x = true) : wrap64 x = x := by unfold inI at h; simp at h; unfold wrap64; omega
set_option maxHeartbeats 1600000 in
theorem all_any (w : World) : Calls Tryz.prog 179 #[] w fun e w' => e = .returned allR.val ∧ Below w.heap.size w w' := by
  go_enter Tryz.func179, Tryz.ntmps179
  go_wp2
  exact bodyPost_ret (v := allR.val) (by simp [results, Tryz.results179, go_sem, allR, R2.val]) rfl ⟨rfl, belA1 _ _⟩
set_option maxHeartbeats 1600000 in
theorem only_any (n : Int) (w : World) : Calls Tryz.prog 165 #[.int .i64 n] w fun e w' => e = .returned (R2.mk n n).val ∧ Below w.heap.size w w' := by
  go_enter Tryz.func165, Tryz.ntmps165
  go_wp2
  exact bodyPost_ret (v := (R2.mk n n).val) (by simp [results, Tryz.results165, go_sem, R2.val]) rfl ⟨rfl, belA1 _ _⟩
theorem ret_ib {a b : Int} {c d : Bool} (h : a = b) (k : c = d) : Ending.returned (.tuple #[.int .i64 a, .bool c]) = .returned (.tuple #[.int .i64 b, .bool d]) := by rw [h, k]
theorem add_fits {b c : Int} (hb : I64 b) (hc : I64 c) : (decide (wrap64 (b + c) < b) == decide (c < 0)) = inI (b + c) := by
  unfold I64 at hb hc
  have h1 : wrap64 (b + c) = b + c ∨ wrap64 (b + c) = b + c - 18446744073709551616 ∨ wrap64 (b + c) = b + c + 18446744073709551616 := by unfold wrap64; omega
  have h2 : -9223372036854775808 ≤ wrap64 (b + c) ∧ wrap64 (b + c) < 9223372036854775808 := by unfold wrap64; omega
  unfold inI
  rw [← Bool.decide_and]
  by_cases p : wrap64 (b + c) < b <;> by_cases q : c < 0
  all_goals simp only [p, q, decide_true, decide_false, beq_self_eq_true]
  all_goals symm
  all_goals first | (rw [decide_eq_true_eq]; omega) | (simp only [show (true == false) = false from rfl, show (false == true) = false from rfl]; rw [decide_eq_false_iff_not]; omega)
theorem sub_fits {b c : Int} (hb : I64 b) (hc : I64 c) : (decide (wrap64 (b - c) < b) == decide (0 < c)) = inI (b - c) := by
  unfold I64 at hb hc
  have h1 : wrap64 (b - c) = b - c ∨ wrap64 (b - c) = b - c - 18446744073709551616 ∨ wrap64 (b - c) = b - c + 18446744073709551616 := by unfold wrap64; omega
  have h2 : -9223372036854775808 ≤ wrap64 (b - c) ∧ wrap64 (b - c) < 9223372036854775808 := by unfold wrap64; omega
  unfold inI
  rw [← Bool.decide_and]
  by_cases p : wrap64 (b - c) < b <;> by_cases q : 0 < c
  all_goals simp only [p, q, decide_true, decide_false, beq_self_eq_true]
  all_goals symm
  all_goals first | (rw [decide_eq_true_eq]; omega) | (simp only [show (true == false) = false from rfl, show (false == true) = false from rfl]; rw [decide_eq_false_iff_not]; omega)
set_option maxHeartbeats 1600000 in
theorem rangesAdd_any (b c : Int) (w : World) (hb : I64 b) (hc : I64 c) : Calls Tryz.prog 177 #[.int .i64 b, .int .i64 c] w fun e w' => e = .returned (.tuple #[.int .i64 (wrap64 (b + c)), .bool (inI (b + c))]) ∧ w = w' := by
  have HF := hide (add_fits hb hc)
  go_enter Tryz.func177, Tryz.ntmps177
  go_wp2
  go_ret2
  exact ⟨ret_ib rfl HF.out, rfl⟩
set_option maxHeartbeats 1600000 in
theorem rangesSub_any (b c : Int) (w : World) (hb : I64 b) (hc : I64 c) : Calls Tryz.prog 183 #[.int .i64 b, .int .i64 c] w fun e w' => e = .returned (.tuple #[.int .i64 (wrap64 (b - c)), .bool (inI (b - c))]) ∧ w = w' := by
  have HF := hide (sub_fits hb hc)
  go_enter Tryz.func183, Tryz.ntmps183
  go_wp2
  go_ret2
  exact ⟨ret_ib rfl HF.out, rfl⟩
set_option maxHeartbeats 1600000 in
theorem fitting_any (lo hi : Int) (ok : Bool) (w : World) : Calls Tryz.prog 178 #[.int .i64 lo, .int .i64 hi, .bool ok] w fun e w' => e = .returned (fitR lo hi ok).val ∧ Below w.heap.size w w' := by
  cases ok
  · go_enter Tryz.func178, Tryz.ntmps178
    go_wp2_with fail
    refine (all_any _).mono ?_
    rintro e w2 ⟨rfl, hb2⟩
    unfold allR R2.val
    have q0 : w2.cell? ⟨w.heap.size, 0, none⟩ = some (.int .i64 0) := by rw [hb2.cell (p := ⟨w.heap.size, 0, none⟩) (by simp)]; simp [go_sem]
    have q1 : w2.cell? ⟨w.heap.size, 1, none⟩ = some (.int .i64 0) := by rw [hb2.cell (p := ⟨w.heap.size, 1, none⟩) (by simp)]; simp [go_sem]
    have f0 : w2.frozen? ⟨w.heap.size, 0, none⟩ = false := by rw [hb2.frozen (p := ⟨w.heap.size, 0, none⟩) (by simp)]; simp [go_sem]
    have f1 : w2.frozen? ⟨w.heap.size, 1, none⟩ = false := by rw [hb2.frozen (p := ⟨w.heap.size, 1, none⟩) (by simp)]; simp [go_sem]
    have HB := hide ((belA1 w (.cells #[.int .i64 0, .int .i64 0] 28)).trans (hb2.mono (by simp)))
    clear hb2
    go_wp2
    exact bodyPost_ret (v := allR.val) (by simp [results, Tryz.results178, go_sem, allR, R2.val, q0, q1]) rfl ⟨rfl, (HB.out.setCell (by simp) _).setCell (by simp) _⟩
  · go_enter Tryz.func178, Tryz.ntmps178
    go_wp2
    exact bodyPost_ret (v := (R2.mk lo hi).val) (by simp [results, Tryz.results178, go_sem, R2.val]) rfl ⟨rfl, belA1 _ _⟩
end Go.Proofs.YtamiichlbmllcaaGreatDoor
/-
  Contracts of ranges.span, Sum, Difference, Product, Quotient.
-/
namespace Go.Proofs.YtamiichlbmllcaaGreatDoor
open Go.RowKit
theorem run_min4 (ts : Array TypeId) (t : TypeId) (n o p q : Int) (w : World) : (Builtin.min_ ts t #[.int .i64 n, .int .i64 o, .int .i64 p, .int .i64 q]).run Tryz.prog w = .ok (.int .i64 (min4 n o p q)) w := by
  have : min4 n o p q = (if q < (if p < (if o < n then o else n) then p else (if o < n then o else n)) then q else (if p < (if o < n then o else n) then p else (if o < n then o else n))) := by unfold min4; repeat' split <;> omega
  rw [this]
  simp [Builtin.min_, Builtin.min2]
theorem run_max4 (ts : Array TypeId) (t : TypeId) (n o p q : Int) (w : World) : (Builtin.max_ ts t #[.int .i64 n, .int .i64 o, .int .i64 p, .int .i64 q]).run Tryz.prog w = .ok (.int .i64 (max4 n o p q)) w := by
  have : max4 n o p q = (if q > (if p > (if o > n then o else n) then p else (if o > n then o else n)) then q else (if p > (if o > n then o else n) then p else (if o > n then o else n))) := by unfold max4; repeat' split <;> omega
  rw [this]
  simp [Builtin.max_, Builtin.max2]
set_option maxHeartbeats 4000000 in
theorem span_any (n o p q : Int) (w : World) : Calls Tryz.prog 187 #[.int .i64 n, .int .i64 o, .int .i64 p, .int .i64 q] w fun e w' => e = .returned (spanR n o p q).val ∧ Below w.heap.size w w' := by
  have h1 := fun ts t w => run_min4 ts t n o p q w
  have h2 := fun ts t w => run_max4 ts t n o p q w
  go_enter Tryz.func187, Tryz.ntmps187
  go_wp2
  exact bodyPost_ret (v := (spanR n o p q).val) (by simp [results, Tryz.results187, go_sem, spanR, R2.val]) rfl ⟨rfl, belA1 _ _⟩
/-- a range's block that the call has made, below what is made later -/
theorem two_of {w : World} {N : Nat} {A B : Value} {T : TypeId} (hH : w.heap[N]? = some (.cells #[A, B] T (0, 0))) : w.cell? ⟨N, 0, none⟩ = some A ∧ w.cell? ⟨N, 1, none⟩ = some B ∧ w.frozen? ⟨N, 0, none⟩ = false ∧ w.frozen? ⟨N, 1, none⟩ = false := by
  refine ⟨?_, ?_, ?_, ?_⟩ <;> first | (rw [cell_of_row _ _ _ _ _ _ hH]; rfl) | simp [World.frozen?, hH]
/-- two ranges that came in and one that goes out, in three blocks -/
theorem three_boxes (w : World) (r o : R2) : ∃ w1, (((w.alloc (.cells #[.int .i64 r.lo, .int .i64 r.hi] 28)).alloc (.cells #[.int .i64 o.lo, .int .i64 o.hi] 28)).alloc (.cells #[.int .i64 0, .int .i64 0] 28)) = w1 ∧ Below w.heap.size w w1 ∧ w.heap.size + 1 + 1 < w1.heap.size ∧
    w1.heap[w.heap.size]? = some (.cells #[.int .i64 r.lo, .int .i64 r.hi] 28 (0, 0)) ∧ w1.heap[w.heap.size + 1]? = some (.cells #[.int .i64 o.lo, .int .i64 o.hi] 28 (0, 0)) ∧ w1.heap[w.heap.size + 1 + 1]? = some (.cells #[.int .i64 0, .int .i64 0] 28 (0, 0)) := by
  refine ⟨_, rfl, ((belA1 _ _).alloc (by simp) _).alloc (by simp; omega) _, by simp, ?_, ?_, ?_⟩
  · rw [Below.heap_alloc _ _ _ (by simp; omega), Below.heap_alloc _ _ _ (by simp)]; exact heap_alloc_new _ _
  · rw [Below.heap_alloc _ _ _ (by simp)]
    have := heap_alloc_new (w.alloc (.cells #[.int .i64 r.lo, .int .i64 r.hi] 28)) (.cells #[.int .i64 o.lo, .int .i64 o.hi] 28)
    simpa using this
  · have := heap_alloc_new ((w.alloc (.cells #[.int .i64 r.lo, .int .i64 r.hi] 28)).alloc (.cells #[.int .i64 o.lo, .int .i64 o.hi] 28)) (.cells #[.int .i64 0, .int .i64 0] 28)
    simpa using this
set_option maxHeartbeats 8000000 in
theorem sum_any (b c : R2) (w : World) (hb : b.in64) (hc : c.in64) : Calls Tryz.prog 174 #[b.val, c.val] w fun e w' => e = .returned (sumR b c).val ∧ Below w.heap.size w w' := by
  obtain ⟨hb0, hb1⟩ := hb
  obtain ⟨hc0, hc1⟩ := hc
  have HS : Hid (sumR b c = fitR (b.lo + c.lo) (b.hi + c.hi) (inI (b.lo + c.lo) && inI (b.hi + c.hi))) := hide rfl
  have HI : Hid (I64 b.lo ∧ I64 b.hi ∧ I64 c.lo ∧ I64 c.hi) := hide ⟨hb0, hb1, hc0, hc1⟩
  have HF : Hid (∀ w' ok, ok = (inI (b.lo + c.lo) && inI (b.hi + c.hi)) → Calls Tryz.prog 178 #[.int .i64 (wrap64 (b.lo + c.lo)), .int .i64 (wrap64 (b.hi + c.hi)), .bool ok] w' fun e w2 => e = .returned (.agg #[.int .i64 (sumR b c).lo, .int .i64 (sumR b c).hi]) ∧ Below w'.heap.size w' w2) := hide (fun w' ok hok => by
    refine (fitting_any _ _ ok w').mono ?_
    rintro e w2 ⟨rfl, hb⟩
    refine ⟨?_, hb⟩
    rw [HS.out, hok]
    cases h : (inI (b.lo + c.lo) && inI (b.hi + c.hi))
    · rfl
    · simp only [Bool.and_eq_true] at h
      rw [wrap_in h.1, wrap_in h.2]; rfl)
  generalize sumR b c = S at HF
  clear HS hb0 hb1 hc0 hc1
  unfold R2.val
  obtain ⟨w1, hw1, bw1, hsz1, x0, x1, x2⟩ := three_boxes w b c
  obtain ⟨y0, y1, _, _⟩ := two_of x0
  obtain ⟨z0, z1, _, _⟩ := two_of x1
  obtain ⟨v0, v1, f0, f1⟩ := two_of x2
  have HX := hide x2
  clear x0 x1 x2
  go_enter Tryz.func174, Tryz.ntmps174
  go_wp2_with fail
  clear hw1
  refine (rangesAdd_any _ _ _ HI.out.1 HI.out.2.2.1).mono ?_
  rintro e w' ⟨rfl, rfl⟩
  generalize hi1 : inI (b.lo + c.lo) = I1
  generalize hi2 : inI (b.hi + c.hi) = I2
  have HI1 := hide hi1
  have HI2 := hide hi2
  clear hi1 hi2
  go_wp2_with fail
  refine (rangesAdd_any _ _ _ HI.out.2.1 HI.out.2.2.2).mono ?_
  rintro e w' ⟨rfl, rfl⟩
  rw [HI2.out]
  cases I1 <;> cases I2
  all_goals
    go_wp2_with (go_at_call 178; refine (HF.out _ _ (by rw [HI1.out, HI2.out]; rfl)).mono ?_; rintro e w2 ⟨rfl, hb2⟩; obtain ⟨p0, p1, p2, p3⟩ := two_of ((hb2.block _ hsz1).trans HX.out); have HB := hide (bw1.trans (hb2.mono bw1.size)); clear hb2)
    exact bodyPost_ret (v := S.val) (by simp [results, Tryz.results174, go_sem, p0, p1, R2.val]) rfl ⟨rfl, (HB.out.setCell (by simp; omega) _).setCell (by simp; omega) _⟩
set_option maxHeartbeats 8000000 in
theorem dif_any (b c : R2) (w : World) (hb : b.in64) (hc : c.in64) : Calls Tryz.prog 182 #[b.val, c.val] w fun e w' => e = .returned (difR b c).val ∧ Below w.heap.size w w' := by
  obtain ⟨hb0, hb1⟩ := hb
  obtain ⟨hc0, hc1⟩ := hc
  have HS : Hid (difR b c = fitR (b.lo - c.hi) (b.hi - c.lo) (inI (b.lo - c.hi) && inI (b.hi - c.lo))) := hide rfl
  have HI : Hid (I64 b.lo ∧ I64 b.hi ∧ I64 c.hi ∧ I64 c.lo) := hide ⟨hb0, hb1, hc1, hc0⟩
  have HF : Hid (∀ w' ok, ok = (inI (b.lo - c.hi) && inI (b.hi - c.lo)) → Calls Tryz.prog 178 #[.int .i64 (wrap64 (b.lo - c.hi)), .int .i64 (wrap64 (b.hi - c.lo)), .bool ok] w' fun e w2 => e = .returned (.agg #[.int .i64 (difR b c).lo, .int .i64 (difR b c).hi]) ∧ Below w'.heap.size w' w2) := hide (fun w' ok hok => by
    refine (fitting_any _ _ ok w').mono ?_
    rintro e w2 ⟨rfl, hb⟩
    refine ⟨?_, hb⟩
    rw [HS.out, hok]
    cases h : (inI (b.lo - c.hi) && inI (b.hi - c.lo))
    · rfl
    · simp only [Bool.and_eq_true] at h
      rw [wrap_in h.1, wrap_in h.2]; rfl)
  generalize difR b c = S at HF
  clear HS hb0 hb1 hc0 hc1
  unfold R2.val
  obtain ⟨w1, hw1, bw1, hsz1, x0, x1, x2⟩ := three_boxes w b c
  obtain ⟨y0, y1, _, _⟩ := two_of x0
  obtain ⟨z0, z1, _, _⟩ := two_of x1
  obtain ⟨v0, v1, f0, f1⟩ := two_of x2
  have HX := hide x2
  clear x0 x1 x2
  go_enter Tryz.func182, Tryz.ntmps182
  go_wp2_with fail
  clear hw1
  refine (rangesSub_any _ _ _ HI.out.1 HI.out.2.2.1).mono ?_
  rintro e w' ⟨rfl, rfl⟩
  generalize hi1 : inI (b.lo - c.hi) = I1
  generalize hi2 : inI (b.hi - c.lo) = I2
  have HI1 := hide hi1
  have HI2 := hide hi2
  clear hi1 hi2
  go_wp2_with fail
  refine (rangesSub_any _ _ _ HI.out.2.1 HI.out.2.2.2).mono ?_
  rintro e w' ⟨rfl, rfl⟩
  rw [HI2.out]
  cases I1 <;> cases I2
  all_goals
    go_wp2_with (go_at_call 178; refine (HF.out _ _ (by rw [HI1.out, HI2.out]; rfl)).mono ?_; rintro e w2 ⟨rfl, hb2⟩; obtain ⟨p0, p1, p2, p3⟩ := two_of ((hb2.block _ hsz1).trans HX.out); have HB := hide (bw1.trans (hb2.mono bw1.size)); clear hb2)
    exact bodyPost_ret (v := S.val) (by simp [results, Tryz.results182, go_sem, p0, p1, R2.val]) rfl ⟨rfl, (HB.out.setCell (by simp; omega) _).setCell (by simp; omega) _⟩
end Go.Proofs.YtamiichlbmllcaaGreatDoor
/-
  Contracts of ranges.Product and Quotient.
-/
namespace Go.Proofs.YtamiichlbmllcaaGreatDoor
open Go.RowKit
structure Box3 (w wx : World) (b c : R2) : Prop where
  bel : Below w.heap.size w wx
  sz : w.heap.size + 1 + 1 < wx.heap.size
  x0 : wx.heap[w.heap.size]? = some (.cells #[.int .i64 b.lo, .int .i64 b.hi] 28 (0, 0))
  x1 : wx.heap[w.heap.size + 1]? = some (.cells #[.int .i64 c.lo, .int .i64 c.hi] 28 (0, 0))
  x2 : wx.heap[w.heap.size + 1 + 1]? = some (.cells #[.int .i64 0, .int .i64 0] 28 (0, 0))
theorem Box3.below {w wx wy : World} {b c : R2} (h : Box3 w wx b c) (hb : Below wx.heap.size wx wy) : Box3 w wy b c := by
  have := h.sz
  exact ⟨h.bel.trans (hb.mono h.bel.size), by have := hb.size; omega, (hb.block _ (by omega)).trans h.x0, (hb.block _ (by omega)).trans h.x1, (hb.block _ (by omega)).trans h.x2⟩
theorem Box3.cells {w wx : World} {b c : R2} (h : Box3 w wx b c) : wx.cell? ⟨w.heap.size, 0, none⟩ = some (.int .i64 b.lo) ∧ wx.cell? ⟨w.heap.size, 1, none⟩ = some (.int .i64 b.hi) ∧ wx.cell? ⟨w.heap.size + 1, 0, none⟩ = some (.int .i64 c.lo) ∧ wx.cell? ⟨w.heap.size + 1, 1, none⟩ = some (.int .i64 c.hi) ∧ wx.cell? ⟨w.heap.size + 1 + 1, 0, none⟩ = some (.int .i64 0) ∧ wx.cell? ⟨w.heap.size + 1 + 1, 1, none⟩ = some (.int .i64 0) ∧ wx.frozen? ⟨w.heap.size + 1 + 1, 0, none⟩ = false ∧ wx.frozen? ⟨w.heap.size + 1 + 1, 1, none⟩ = false :=
  ⟨(two_of h.x0).1, (two_of h.x0).2.1, (two_of h.x1).1, (two_of h.x1).2.1, (two_of h.x2).1, (two_of h.x2).2.1, (two_of h.x2).2.2.1, (two_of h.x2).2.2.2⟩
theorem Box3.set {w wx : World} {b c : R2} (h : Box3 w wx b c) (u v : Value) : Below w.heap.size w ((wx.setCell ⟨w.heap.size + 1 + 1, 0, none⟩ u).setCell ⟨w.heap.size + 1 + 1, 1, none⟩ v) := (h.bel.setCell (by simp; omega) _).setCell (by simp; omega) _
theorem box3_new (w : World) (b c : R2) : ∃ w1, (((w.alloc (.cells #[.int .i64 b.lo, .int .i64 b.hi] 28)).alloc (.cells #[.int .i64 c.lo, .int .i64 c.hi] 28)).alloc (.cells #[.int .i64 0, .int .i64 0] 28)) = w1 ∧ Box3 w w1 b c := by
  obtain ⟨w1, h, h1, h2, h3, h4, h5⟩ := three_boxes w b c
  exact ⟨w1, h, h1, h2, h3, h4, h5⟩
def smallR : R2 := ⟨-2147483648, 2147483648⟩
def prodR (b c : R2) : R2 := if inRg b smallR && inRg c smallR then spanR (wrap64 (b.lo * c.lo)) (wrap64 (b.lo * c.hi)) (wrap64 (b.hi * c.lo)) (wrap64 (b.hi * c.hi)) else allR
def hasR (r : R2) (n : Int) : Bool := decide (r.lo ≤ n ∧ n ≤ r.hi)
def quoAll (b c : R2) : Bool := hasR c 0 || (hasR c (-1) && hasR b (-9223372036854775808))
def quoR (b c : R2) : R2 := if quoAll b c then allR else spanR (wrap64 (b.lo.tdiv c.lo)) (wrap64 (b.lo.tdiv c.hi)) (wrap64 (b.hi.tdiv c.lo)) (wrap64 (b.hi.tdiv c.hi))
set_option maxHeartbeats 8000000 in
theorem prod_any (b c : R2) (w : World) : Calls Tryz.prog 186 #[b.val, c.val] w fun e w' => e = .returned (prodR b c).val ∧ Below w.heap.size w w' := by
  have HL : Hid (∀ (r : R2) wx, Calls Tryz.prog 152 #[.agg #[.int .i64 r.lo, .int .i64 r.hi], .agg #[.int .i64 (-2147483648), .int .i64 2147483648]] wx fun e w' => e = .returned (.bool (inRg r smallR)) ∧ Below wx.heap.size wx w') := hide (fun r wx => liesIn_any r smallR wx)
  have HALL : Hid (∀ wx, Calls Tryz.prog 179 #[] wx fun e w' => e = .returned (.agg #[.int .i64 (-9223372036854775808), .int .i64 9223372036854775807]) ∧ Below wx.heap.size wx w') := hide (fun wx => all_any wx)
  have HSP : Hid (∀ n o p q wx, Calls Tryz.prog 187 #[.int .i64 n, .int .i64 o, .int .i64 p, .int .i64 q] wx fun e w' => e = .returned (.agg #[.int .i64 (spanR n o p q).lo, .int .i64 (spanR n o p q).hi]) ∧ Below wx.heap.size wx w') := hide (fun n o p q wx => span_any n o p q wx)
  generalize hS : prodR b c = S
  have HS := hide hS
  clear hS
  unfold R2.val
  obtain ⟨w1, hw1, B1⟩ := box3_new w b c
  obtain ⟨y0, y1, z0, z1, v0, v1, f0, f1⟩ := B1.cells
  have hsz1 := B1.sz
  have hsa : w.heap.size < w1.heap.size := by omega
  have hsb : w.heap.size + 1 < w1.heap.size := by omega
  have HB1 := hide B1
  clear B1
  cases hi1 : inRg b smallR <;> cases hi2 : inRg c smallR
  all_goals
    have HI1 := hide hi1
    have HI2 := hide hi2
    clear hi1 hi2
    go_enter Tryz.func186, Tryz.ntmps186
    go_wp2_with fail
    refine (HL.out b _).mono ?_
    rintro e w2 ⟨rfl, hb2⟩
    rw [HI1.out]
    have B2 := (HB1.out.below (belA1 _ _)).below hb2
    have s0 : w2.cell? ⟨w1.heap.size, 0, none⟩ = some (.int .i64 (-2147483648)) := by rw [hb2.cell (p := ⟨w1.heap.size, 0, none⟩) (by simp)]; simp [go_sem]
    have s1 : w2.cell? ⟨w1.heap.size, 1, none⟩ = some (.int .i64 2147483648) := by rw [hb2.cell (p := ⟨w1.heap.size, 1, none⟩) (by simp)]; simp [go_sem]
    clear y0 y1 z0 z1 v0 v1 f0 f1 hw1
    obtain ⟨y0, y1, z0, z1, v0, v1, f0, f1⟩ := B2.cells
    have HB2 := hide B2
    clear B2 hb2
  · go_wp2_with fail
    refine (HALL.out _).mono ?_
    rintro e w3 ⟨rfl, hb3⟩
    have HB3 := hide (HB2.out.below hb3)
    clear y0 y1 z0 z1 v0 v1 f0 f1
    obtain ⟨y0, y1, z0, z1, v0, v1, f0, f1⟩ := HB3.out.cells
    clear hb3
    go_wp2
    exact bodyPost_ret (v := allR.val) (by simp [results, Tryz.results186, go_sem, v0, v1, allR, R2.val]) rfl ⟨by rw [← HS.out]; unfold prodR; rw [HI1.out, HI2.out]; rfl, HB3.out.set _ _⟩
  · go_wp2_with fail
    refine (HALL.out _).mono ?_
    rintro e w3 ⟨rfl, hb3⟩
    have HB3 := hide (HB2.out.below hb3)
    clear y0 y1 z0 z1 v0 v1 f0 f1
    obtain ⟨y0, y1, z0, z1, v0, v1, f0, f1⟩ := HB3.out.cells
    clear hb3
    go_wp2
    exact bodyPost_ret (v := allR.val) (by simp [results, Tryz.results186, go_sem, v0, v1, allR, R2.val]) rfl ⟨by rw [← HS.out]; unfold prodR; rw [HI1.out, HI2.out]; rfl, HB3.out.set _ _⟩
  · go_wp2_with (go_at_call 152; refine (HL.out c _).mono ?_; rintro e w3 ⟨rfl, hb3⟩; rw [HI2.out]; have HB3 := hide (HB2.out.below hb3); clear hb3)
    refine (HALL.out _).mono ?_
    rintro e w4 ⟨rfl, hb4⟩
    have HB4 := hide (HB3.out.below hb4)
    clear y0 y1 z0 z1 v0 v1 f0 f1
    obtain ⟨y0, y1, z0, z1, v0, v1, f0, f1⟩ := HB4.out.cells
    clear hb4
    go_wp2
    exact bodyPost_ret (v := allR.val) (by simp [results, Tryz.results186, go_sem, v0, v1, allR, R2.val]) rfl ⟨by rw [← HS.out]; unfold prodR; rw [HI1.out, HI2.out]; rfl, HB4.out.set _ _⟩
  · go_wp2_with (go_at_call 152; refine (HL.out c _).mono ?_; rintro e w3 ⟨rfl, hb3⟩; rw [HI2.out]; have HB3 := hide (HB2.out.below hb3); clear hb3; obtain ⟨p0, p1, p2, p3, p4, p5, p6, p7⟩ := HB3.out.cells)
    refine (HSP.out _ _ _ _ _).mono ?_
    rintro e w4 ⟨rfl, hb4⟩
    have HB4 := hide (HB3.out.below hb4)
    clear y0 y1 z0 z1 v0 v1 f0 f1 p0 p1 p2 p3 p4 p5 p6 p7
    obtain ⟨y0, y1, z0, z1, v0, v1, f0, f1⟩ := HB4.out.cells
    clear hb4
    have HS2 : Hid (S = spanR (wrap64 (b.lo * c.lo)) (wrap64 (b.lo * c.hi)) (wrap64 (b.hi * c.lo)) (wrap64 (b.hi * c.hi))) := hide (by rw [← HS.out]; unfold prodR; rw [HI1.out, HI2.out]; rfl)
    rw [← HS2.out]
    go_wp2
    exact bodyPost_ret (v := S.val) (by simp [results, Tryz.results186, go_sem, v0, v1, R2.val]) rfl ⟨rfl, HB4.out.set _ _⟩
end Go.Proofs.YtamiichlbmllcaaGreatDoor
/-
  The contract of ranges.Quotient.
-/
namespace Go.Proofs.YtamiichlbmllcaaGreatDoor
open Go.RowKit
theorem wrap_is64 (x : Int) : IntKind.i64.wrap x = wrap64 x := by
  have h1 : (2 ^ IntKind.i64.bits : Int) = 18446744073709551616 := by decide
  have h2 : (2 ^ (IntKind.i64.bits - 1) : Int) = 9223372036854775808 := by decide
  have h3 : IntKind.i64.signed = true := rfl
  unfold IntKind.wrap wrap64
  simp only [h1, h2, h3, Bool.true_and, decide_eq_true_eq, ge_iff_le]
  split <;> omega
theorem Box3.drew {w wx : World} {b c : R2} (h : Box3 w wx b c) : Box3 w wx.drew b c := h.below ((Below.refl _ _).drew)
set_option maxHeartbeats 8000000 in
set_option maxRecDepth 100000 in
theorem quo_any (b c : R2) (w : World) (hne : c.lo ≤ c.hi) : Calls Tryz.prog 190 #[b.val, c.val] w fun e w' => e = .returned (quoR b c).val ∧ Below w.heap.size w w' := by
  have HH : Hid (∀ (r : R2) n wx, Calls Tryz.prog 75 #[.agg #[.int .i64 r.lo, .int .i64 r.hi], .int .i64 n] wx fun e w' => e = .returned (.bool (hasR r n)) ∧ Below wx.heap.size wx w') := hide (fun r n wx => has_any r n wx)
  have HALL : Hid (∀ wx, Calls Tryz.prog 179 #[] wx fun e w' => e = .returned (.agg #[.int .i64 (-9223372036854775808), .int .i64 9223372036854775807]) ∧ Below wx.heap.size wx w') := hide (fun wx => all_any wx)
  have HSP : Hid (∀ n o p q wx, Calls Tryz.prog 187 #[.int .i64 n, .int .i64 o, .int .i64 p, .int .i64 q] wx fun e w' => e = .returned (.agg #[.int .i64 (spanR n o p q).lo, .int .i64 (spanR n o p q).hi]) ∧ Below wx.heap.size wx w') := hide (fun n o p q wx => span_any n o p q wx)
  generalize hS : quoR b c = S
  have HS := hide hS
  clear hS
  have HZ : Hid (hasR c 0 = false → ¬ c.lo = 0 ∧ ¬ c.hi = 0) := hide (fun h => by unfold hasR at h; rw [decide_eq_false_iff_not] at h; omega)
  unfold R2.val
  obtain ⟨w1, hw1, B1⟩ := box3_new w b c
  obtain ⟨y0, y1, z0, z1, v0, v1, f0, f1⟩ := B1.cells
  have hsz1 := B1.sz
  have HB1 := hide B1
  have na : ¬ (w.heap.size = w.heap.size + 1 + 1) := by omega
  have nb : ¬ (w.heap.size + 1 + 1 = w.heap.size) := by omega
  have nc : ¬ (w.heap.size + 1 = w.heap.size + 1 + 1) := by omega
  have nd : ¬ (w.heap.size + 1 + 1 = w.heap.size + 1) := by omega
  clear B1 hne
  cases h0 : hasR c 0
  · have HI0 := hide h0
    obtain ⟨n0, n1⟩ := HZ.out h0
    have m0 : (c.lo == 0) = false := by simpa using n0
    have m1 : (c.hi == 0) = false := by simpa using n1
    clear h0
    go_enter Tryz.func190, Tryz.ntmps190
    go_wp2_with fail
    refine (HH.out c 0 _).mono ?_
    rintro e w2 ⟨rfl, hb2⟩
    rw [HI0.out]
    have HB2 := hide (HB1.out.below hb2)
    clear y0 y1 z0 z1 v0 v1 f0 f1 hw1 hb2
    obtain ⟨y0, y1, z0, z1, v0, v1, f0, f1⟩ := HB2.out.cells
    cases h1 : hasR c (-1)
    · have HQ : Hid (quoAll b c = false) := hide (by unfold quoAll; rw [HI0.out, h1]; rfl)
      have HI1 := hide h1
      clear h1
      go_wp2_with (go_at_call 75; refine (HH.out c (-1) _).mono ?_; rintro e w3 ⟨rfl, hb3⟩; rw [HI1.out]; have HB3 := hide (HB2.out.below hb3); clear hb3)
      clear y0 y1 z0 z1 v0 v1 f0 f1
      obtain ⟨y0, y1, z0, z1, v0, v1, f0, f1⟩ := HB3.out.cells
      have HS2 : Hid (S = spanR (wrap64 (b.lo.tdiv c.lo)) (wrap64 (b.lo.tdiv c.hi)) (wrap64 (b.hi.tdiv c.lo)) (wrap64 (b.hi.tdiv c.hi))) := hide (by rw [← HS.out]; unfold quoR; rw [HQ.out]; rfl)
      go_region_held3 (fun w' => w'.cell? ⟨w.heap.size, 0, none⟩ = some (.int .i64 b.lo) ∧ w'.cell? ⟨w.heap.size, 1, none⟩ = some (.int .i64 b.hi) ∧ w'.cell? ⟨w.heap.size + 1, 0, none⟩ = some (.int .i64 c.lo) ∧ w'.cell? ⟨w.heap.size + 1, 1, none⟩ = some (.int .i64 c.hi)) (go_keep) (first
        | (go_at_call 187; refine (HSP.out _ _ _ _ _).mono ?_; rintro e w4 ⟨rfl, hb4⟩; have HB4 := hide (HB3.out.drew.below hb4); obtain ⟨p0, p1, p2, p3, p4, p5, p6, p7⟩ := HB4.out.cells; clear hb4))
      go_wp2
      exact bodyPost_ret (v := S.val) (by rw [HS2.out]; simp [results, Tryz.results190, go_sem, p4, p5, R2.val, wrap_is64]) rfl ⟨rfl, HB4.out.set _ _⟩
    · have HI1 := hide h1
      clear h1
      cases h2 : hasR b (-9223372036854775808)
      · have HQ : Hid (quoAll b c = false) := hide (by unfold quoAll; rw [HI0.out, HI1.out, h2]; rfl)
        have HI2 := hide h2
        clear h2
        go_wp2_with fail
        refine (HH.out c (-1) _).mono ?_
        rintro e w3 ⟨rfl, hb3⟩
        rw [HI1.out]
        have HB3 := hide (HB2.out.below hb3)
        clear hb3 y0 y1 z0 z1 v0 v1 f0 f1
        obtain ⟨y0, y1, z0, z1, v0, v1, f0, f1⟩ := HB3.out.cells
        go_wp2_with fail
        refine (HH.out b (-9223372036854775808) _).mono ?_
        rintro e w5 ⟨rfl, hb5⟩
        rw [HI2.out]
        have HB5 := hide (HB3.out.below hb5)
        clear hb5
        go_wp2_with fail
        clear y0 y1 z0 z1 v0 v1 f0 f1
        obtain ⟨y0, y1, z0, z1, v0, v1, f0, f1⟩ := HB5.out.cells
        have HS2 : Hid (S = spanR (wrap64 (b.lo.tdiv c.lo)) (wrap64 (b.lo.tdiv c.hi)) (wrap64 (b.hi.tdiv c.lo)) (wrap64 (b.hi.tdiv c.hi))) := hide (by rw [← HS.out]; unfold quoR; rw [HQ.out]; rfl)
        go_region_held3 (fun w' => w'.cell? ⟨w.heap.size, 0, none⟩ = some (.int .i64 b.lo) ∧ w'.cell? ⟨w.heap.size, 1, none⟩ = some (.int .i64 b.hi) ∧ w'.cell? ⟨w.heap.size + 1, 0, none⟩ = some (.int .i64 c.lo) ∧ w'.cell? ⟨w.heap.size + 1, 1, none⟩ = some (.int .i64 c.hi)) (go_keep) (first
          | (go_at_call 187; refine (HSP.out _ _ _ _ _).mono ?_; rintro e w4 ⟨rfl, hb4⟩; have HB4 := hide (HB5.out.drew.below hb4); obtain ⟨p0, p1, p2, p3, p4, p5, p6, p7⟩ := HB4.out.cells; clear hb4))
        go_wp2
        exact bodyPost_ret (v := S.val) (by rw [HS2.out]; simp [results, Tryz.results190, go_sem, p4, p5, R2.val, wrap_is64]) rfl ⟨rfl, HB4.out.set _ _⟩
      · have HQ : Hid (quoAll b c = true) := hide (by unfold quoAll; rw [HI0.out, HI1.out, h2]; rfl)
        have HI2 := hide h2
        clear h2
        go_wp2_with fail
        refine (HH.out c (-1) _).mono ?_
        rintro e w3 ⟨rfl, hb3⟩
        rw [HI1.out]
        have HB3 := hide (HB2.out.below hb3)
        clear hb3 y0 y1 z0 z1 v0 v1 f0 f1
        obtain ⟨y0, y1, z0, z1, v0, v1, f0, f1⟩ := HB3.out.cells
        go_wp2_with fail
        refine (HH.out b (-9223372036854775808) _).mono ?_
        rintro e w5 ⟨rfl, hb5⟩
        rw [HI2.out]
        have HB5 := hide (HB3.out.below hb5)
        clear hb5
        go_wp2_with fail
        refine (HALL.out _).mono ?_
        rintro e w6 ⟨rfl, hb6⟩
        have HB6 := hide (HB5.out.below hb6)
        clear y0 y1 z0 z1 v0 v1 f0 f1
        obtain ⟨y0, y1, z0, z1, v0, v1, f0, f1⟩ := HB6.out.cells
        clear hb6
        go_wp2
        exact bodyPost_ret (v := allR.val) (by simp [results, Tryz.results190, go_sem, v0, v1, allR, R2.val]) rfl ⟨by rw [← HS.out]; unfold quoR; rw [HQ.out]; rfl, HB6.out.set _ _⟩
  · have HQ : Hid (quoAll b c = true) := hide (by unfold quoAll; rw [h0]; rfl)
    have HI0 := hide h0
    clear h0
    go_enter Tryz.func190, Tryz.ntmps190
    go_wp2_with fail
    refine (HH.out c 0 _).mono ?_
    rintro e w2 ⟨rfl, hb2⟩
    rw [HI0.out]
    have HB2 := hide (HB1.out.below hb2)
    clear y0 y1 z0 z1 v0 v1 f0 f1 hw1 hb2
    go_wp2_with fail
    refine (HALL.out _).mono ?_
    rintro e w3 ⟨rfl, hb3⟩
    have HB3 := hide (HB2.out.below hb3)
    obtain ⟨y0, y1, z0, z1, v0, v1, f0, f1⟩ := HB3.out.cells
    clear hb3
    go_wp2
    exact bodyPost_ret (v := allR.val) (by simp [results, Tryz.results190, go_sem, v0, v1, allR, R2.val]) rfl ⟨by rw [← HS.out]; unfold quoR; rw [HQ.out]; rfl, HB3.out.set _ _⟩
end Go.Proofs.YtamiichlbmllcaaGreatDoor
