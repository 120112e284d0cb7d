import Derived.Test.YtamiichlbmllcabGreatDoorQStA
import Derived.Test.YtamiichlbmllcabGreatDoorQKn
set_option maxRecDepth 100000
set_option maxHeartbeats 32000000
namespace Go.Proofs.YtamiichlbmllcabGreatDoor
open Go.RowKit
theorem stC_get (s : Nat -> R2) (n : Nat) (hn : n < 8) : (stC s)[n * 2]? = some (.int .i64 (s n).lo) /\ (stC s)[n * 2 + 1]? = some (.int .i64 (s n).hi) := by
 match n, hn with
 | 0, _ => exact ⟨rfl, rfl⟩
 | 1, _ => exact ⟨rfl, rfl⟩
 | 2, _ => exact ⟨rfl, rfl⟩
 | 3, _ => exact ⟨rfl, rfl⟩
 | 4, _ => exact ⟨rfl, rfl⟩
 | 5, _ => exact ⟨rfl, rfl⟩
 | 6, _ => exact ⟨rfl, rfl⟩
 | 7, _ => exact ⟨rfl, rfl⟩
 | n + 8, h => omega
def liesR (s t : Nat -> R2) : Bool := (List.range 8).all fun i => inRg (s i) (t i)
theorem liesR_yes {s t : Nat -> R2} (h : ∀ i, i < 8 -> inRg (s i) (t i) = true) : liesR s t = true := by
 unfold liesR; rw [List.all_eq_true]; intro i hi; exact h i (List.mem_range.1 hi)
theorem liesR_no {s t : Nat -> R2} {n : Nat} (hn : n < 8) (h : inRg (s n) (t n) = false) : liesR s t = false := by
 unfold liesR; rw [List.all_eq_false]; exact ⟨n, List.mem_range.2 hn, by simp [h]⟩
theorem stateLies_any (s t : Nat -> R2) (w : World) : Calls Tryz.prog 130 #[.agg (stC s), .agg (stC t)] w fun e w' => e = .returned (.bool (liesR s t)) /\ Below w.heap.size w w' := by
 have HI := hide (idx_st s)
 have HST : Hid (stC s = #[.int .i64 (s 0).lo, .int .i64 (s 0).hi, .int .i64 (s 1).lo, .int .i64 (s 1).hi, .int .i64 (s 2).lo, .int .i64 (s 2).hi, .int .i64 (s 3).lo, .int .i64 (s 3).hi, .int .i64 (s 4).lo, .int .i64 (s 4).hi, .int .i64 (s 5).lo, .int .i64 (s 5).hi, .int .i64 (s 6).lo, .int .i64 (s 6).hi, .int .i64 (s 7).lo, .int .i64 (s 7).hi]) := hide rfl
 have HTT : Hid (stC t = #[.int .i64 (t 0).lo, .int .i64 (t 0).hi, .int .i64 (t 1).lo, .int .i64 (t 1).hi, .int .i64 (t 2).lo, .int .i64 (t 2).hi, .int .i64 (t 3).lo, .int .i64 (t 3).hi, .int .i64 (t 4).lo, .int .i64 (t 4).hi, .int .i64 (t 5).lo, .int .i64 (t 5).hi, .int .i64 (t 6).lo, .int .i64 (t 6).hi, .int .i64 (t 7).lo, .int .i64 (t 7).hi]) := hide rfl
 rw [HST.out, HTT.out]
 go_enter Tryz.func130, Tryz.ntmps130
 go_wp2_with fail
 rw [<- HST.out, <- HTT.out]
 have hH : ((w.alloc (.cells (stC s) 29)).alloc (.cells (stC t) 29)).heap[w.heap.size + 1]? = some (.cells (stC t) 29 (0, 0)) := by
  have := heap_alloc_new (w.alloc (.cells (stC s) 29)) (.cells (stC t) 29)
  simpa using this
 have hb0 : Below w.heap.size w ((w.alloc (.cells (stC s) 29)).alloc (.cells (stC t) 29)) := (belA1 _ _).alloc (by simp) _
 generalize (w.alloc (.cells (stC s) 29)).alloc (.cells (stC t) 29) = w1 at *
 have hlt1 := lt_of_block hH
 have HH := hide hH
 have HB0 := hide hb0
 clear hH hb0
 go_loopw [8] (fun j wr => ∃ n : Nat, n <= 8 /\ j = .int .i64 n /\ (∀ i, i < n -> inRg (s i) (t i) = true) /\ Below w1.heap.size w1 wr) (fun j _ => 8 - (intOf j).toNat)
 case atStart => exact ⟨0, by omega, rfl, fun i hi => by omega, Below.refl _ _⟩
 case round =>
  obtain ⟨n, hn, rfl, hall, hbl⟩ := hrel
  have HA := hide hall
  have hzr := hbl.size
  clear hall
  by_cases hlt : n < 8
  · have hx := HI.out n hlt
    have c0 : wr.cell? ⟨w.heap.size + 1, n * 2, none⟩ = some (.int .i64 (t n).lo) := by rw [hbl.cell (p := ⟨w.heap.size + 1, _, none⟩) hlt1, cell_of_row _ _ _ _ _ _ HH.out]; exact (stC_get t n hlt).1
    have c1 : wr.cell? ⟨w.heap.size + 1, n * 2 + 1, none⟩ = some (.int .i64 (t n).hi) := by rw [hbl.cell (p := ⟨w.heap.size + 1, _, none⟩) hlt1, cell_of_row _ _ _ _ _ _ HH.out]; exact (stC_get t n hlt).2
    have hltr : w.heap.size + 1 < wr.heap.size := by omega
    have HBR := hide (HB0.out.trans (hbl.mono HB0.out.size))
    have HBL := hide hbl
    clear hbl
    have HL : Hid (∀ wx, Calls Tryz.prog 131 #[.agg #[.int .i64 (s n).lo, .int .i64 (s n).hi], .agg #[.int .i64 (t n).lo, .int .i64 (t n).hi]] wx fun e w' => e = .returned (.bool (inRg (s n) (t n))) /\ Below wx.heap.size wx w') := hide (fun wx => liesIn_any (s n) (t n) wx)
    have HX : Hid (∀ w2, Below (wr.alloc (.cells #[.int .i64 (s n).lo, .int .i64 (s n).hi] 27)).drew.heap.size (wr.alloc (.cells #[.int .i64 (s n).lo, .int .i64 (s n).hi] 27)).drew w2 -> w2.cell? ⟨wr.heap.size, 0, none⟩ = some (.int .i64 (s n).lo) /\ w2.cell? ⟨wr.heap.size, 1, none⟩ = some (.int .i64 (s n).hi) /\ w2.cell? ⟨w.heap.size + 1, n * 2, none⟩ = some (.int .i64 (t n).lo) /\ w2.cell? ⟨w.heap.size + 1, n * 2 + 1, none⟩ = some (.int .i64 (t n).hi) /\ Below w1.heap.size w1 w2) := hide (fun w2 hb => by
     have hb3 : Below wr.heap.size wr w2 := ((belA1 _ _).drew).trans (hb.mono (by simp))
     refine ⟨?_, ?_, ?_, ?_, HBL.out.trans (hb3.mono hzr)⟩
     · rw [hb.cell (p := ⟨wr.heap.size, 0, none⟩) (by simp)]; simp [go_sem]
     · rw [hb.cell (p := ⟨wr.heap.size, 1, none⟩) (by simp)]; simp [go_sem]
     · rw [hb3.cell (p := ⟨w.heap.size + 1, _, none⟩) hltr]; exact c0
     · rw [hb3.cell (p := ⟨w.heap.size + 1, _, none⟩) hltr]; exact c1)
    have hni : (0 : Int) <= (n : Int) := by omega
    have hnj : (n : Int) < 8 := by omega
    cases he : inRg (s n) (t n)
    · have HE : Hid (liesR s t = false) := hide (liesR_no hlt he)
      have HEE := hide he
      clear he
      go_wp2_with fail
      go_region_held3 (fun w' => w'.cell? ⟨wr.heap.size, 0, none⟩ = some (.int .i64 (s n).lo) /\ w'.cell? ⟨wr.heap.size, 1, none⟩ = some (.int .i64 (s n).hi) /\ w'.cell? ⟨w.heap.size + 1, n * 2, none⟩ = some (.int .i64 (t n).lo) /\ w'.cell? ⟨w.heap.size + 1, n * 2 + 1, none⟩ = some (.int .i64 (t n).hi)) (go_keep) (first
       | (go_at_call 131; refine (HL.out _).mono ?_; rintro e w2 ⟨rfl, hb2⟩; rw [HEE.out]; obtain ⟨p0, p1, p2, p3, hb4⟩ := HX.out w2 hb2; have HB4 := hide hb4; clear hb2 hb4))
      go_wp2
      go_ret
      exact ⟨ret_bool HE.out.symm, HB0.out.trans (HB4.out.mono HB0.out.size)⟩
    · have HEE := hide he
      clear he
      go_wp2_with fail
      go_region_held3 (fun w' => w'.cell? ⟨wr.heap.size, 0, none⟩ = some (.int .i64 (s n).lo) /\ w'.cell? ⟨wr.heap.size, 1, none⟩ = some (.int .i64 (s n).hi) /\ w'.cell? ⟨w.heap.size + 1, n * 2, none⟩ = some (.int .i64 (t n).lo) /\ w'.cell? ⟨w.heap.size + 1, n * 2 + 1, none⟩ = some (.int .i64 (t n).hi)) (go_keep) (first
       | (go_at_call 131; refine (HL.out _).mono ?_; rintro e w2 ⟨rfl, hb2⟩; rw [HEE.out]; obtain ⟨p0, p1, p2, p3, hb4⟩ := HX.out w2 hb2; have HB4 := hide hb4; clear hb2 hb4))
      go_wp2
      exact ⟨⟨n + 1, by omega, by go_num, fun i hi => by rcases Nat.lt_succ_iff_lt_or_eq.1 hi with h | h; exact HA.out i h; subst h; exact HEE.out, HB4.out⟩, by simp [intOf]; omega⟩
  · have HE : Hid (liesR s t = true) := hide (liesR_yes fun i hi => HA.out i (by omega))
    go_wp2
    go_ret
    exact ⟨ret_bool HE.out.symm, HB0.out.trans (hbl.mono HB0.out.size)⟩
def inI (x : Int) : Bool := decide (-9223372036854775808 <= x) && decide (x <= 9223372036854775807)
def R2.in64 (r : R2) : Prop := I64 r.lo /\ I64 r.hi
def fitR (lo hi : Int) (ok : Bool) : R2 := if ok then ⟨lo, hi⟩ else allR
def sumR (b c : R2) : R2 := fitR (b.lo + c.lo) (b.hi + c.hi) (inI (b.lo + c.lo) && inI (b.hi + c.hi))
def difR (b c : R2) : R2 := fitR (b.lo - c.hi) (b.hi - c.lo) (inI (b.lo - c.hi) && inI (b.hi - c.lo))
def min4 (a b c d : Int) : Int := min (min a b) (min c d)
def max4 (a b c d : Int) : Int := max (max a b) (max c d)
def spanR (a b c d : Int) : R2 := ⟨min4 a b c d, max4 a b c d⟩
theorem wrap_in {x : Int} (h : inI x = true) : wrap64 x = x := by unfold inI at h; simp at h; unfold wrap64; omega
theorem all_any (w : World) : Calls Tryz.prog 151 #[] w fun e w' => e = .returned allR.val /\ Below w.heap.size w w' := by
 go_enter Tryz.func151, Tryz.ntmps151
 go_wp2
 exact bodyPost_ret (v := allR.val) (by simp [results, Tryz.results151, go_sem, allR, R2.val]) rfl ⟨rfl, belA1 _ _⟩
theorem only_any (n : Int) (w : World) : Calls Tryz.prog 137 #[.int .i64 n] w fun e w' => e = .returned (R2.mk n n).val /\ Below w.heap.size w w' := by
 go_enter Tryz.func137, Tryz.ntmps137
 go_wp2
 exact bodyPost_ret (v := (R2.mk n n).val) (by simp [results, Tryz.results137, go_sem, R2.val]) rfl ⟨rfl, belA1 _ _⟩
theorem ret_ib {a b : Int} {c d : Bool} (h : a = b) (k : c = d) : Ending.returned (.tuple #[.int .i64 a, .bool c]) = .returned (.tuple #[.int .i64 b, .bool d]) := by rw [h, k]
theorem add_fits {b c : Int} (hb : I64 b) (hc : I64 c) : (decide (wrap64 (b + c) < b) == decide (c < 0)) = inI (b + c) := by
 unfold I64 at hb hc
 have h1 : wrap64 (b + c) = b + c \/ wrap64 (b + c) = b + c - 18446744073709551616 \/ wrap64 (b + c) = b + c + 18446744073709551616 := by unfold wrap64; omega
 have h2 : -9223372036854775808 <= wrap64 (b + c) /\ wrap64 (b + c) < 9223372036854775808 := by unfold wrap64; omega
 unfold inI
 rw [<- Bool.decide_and]
 by_cases p : wrap64 (b + c) < b <;> by_cases q : c < 0
 all_goals simp only [p, q, decide_true, decide_false, beq_self_eq_true]
 all_goals symm
 all_goals first | (rw [decide_eq_true_eq]; omega) | (simp only [show (true == false) = false from rfl, show (false == true) = false from rfl]; rw [decide_eq_false_iff_not]; omega)
theorem sub_fits {b c : Int} (hb : I64 b) (hc : I64 c) : (decide (wrap64 (b - c) < b) == decide (0 < c)) = inI (b - c) := by
 unfold I64 at hb hc
 have h1 : wrap64 (b - c) = b - c \/ wrap64 (b - c) = b - c - 18446744073709551616 \/ wrap64 (b - c) = b - c + 18446744073709551616 := by unfold wrap64; omega
 have h2 : -9223372036854775808 <= wrap64 (b - c) /\ wrap64 (b - c) < 9223372036854775808 := by unfold wrap64; omega
 unfold inI
 rw [<- Bool.decide_and]
 by_cases p : wrap64 (b - c) < b <;> by_cases q : 0 < c
 all_goals simp only [p, q, decide_true, decide_false, beq_self_eq_true]
 all_goals symm
 all_goals first | (rw [decide_eq_true_eq]; omega) | (simp only [show (true == false) = false from rfl, show (false == true) = false from rfl]; rw [decide_eq_false_iff_not]; omega)
theorem rangesAdd_any (b c : Int) (w : World) (hb : I64 b) (hc : I64 c) : Calls Tryz.prog 149 #[.int .i64 b, .int .i64 c] w fun e w' => e = .returned (.tuple #[.int .i64 (wrap64 (b + c)), .bool (inI (b + c))]) /\ w = w' := by
 have HF := hide (add_fits hb hc)
 go_enter Tryz.func149, Tryz.ntmps149
 go_wp2
 go_ret2
 exact ⟨ret_ib rfl HF.out, rfl⟩
theorem rangesSub_any (b c : Int) (w : World) (hb : I64 b) (hc : I64 c) : Calls Tryz.prog 155 #[.int .i64 b, .int .i64 c] w fun e w' => e = .returned (.tuple #[.int .i64 (wrap64 (b - c)), .bool (inI (b - c))]) /\ w = w' := by
 have HF := hide (sub_fits hb hc)
 go_enter Tryz.func155, Tryz.ntmps155
 go_wp2
 go_ret2
 exact ⟨ret_ib rfl HF.out, rfl⟩
theorem fitting_any (lo hi : Int) (ok : Bool) (w : World) : Calls Tryz.prog 150 #[.int .i64 lo, .int .i64 hi, .bool ok] w fun e w' => e = .returned (fitR lo hi ok).val /\ Below w.heap.size w w' := by
 cases ok
 · go_enter Tryz.func150, Tryz.ntmps150
   go_wp2_with fail
   refine (all_any _).mono ?_
   rintro e w2 ⟨rfl, hb2⟩
   unfold allR R2.val
   have q0 : w2.cell? ⟨w.heap.size, 0, none⟩ = some (.int .i64 0) := by rw [hb2.cell (p := ⟨w.heap.size, 0, none⟩) (by simp)]; simp [go_sem]
   have q1 : w2.cell? ⟨w.heap.size, 1, none⟩ = some (.int .i64 0) := by rw [hb2.cell (p := ⟨w.heap.size, 1, none⟩) (by simp)]; simp [go_sem]
   have f0 : w2.frozen? ⟨w.heap.size, 0, none⟩ = false := by rw [hb2.frozen (p := ⟨w.heap.size, 0, none⟩) (by simp)]; simp [go_sem]
   have f1 : w2.frozen? ⟨w.heap.size, 1, none⟩ = false := by rw [hb2.frozen (p := ⟨w.heap.size, 1, none⟩) (by simp)]; simp [go_sem]
   have HB := hide ((belA1 w (.cells #[.int .i64 0, .int .i64 0] 27)).trans (hb2.mono (by simp)))
   clear hb2
   go_wp2
   exact bodyPost_ret (v := allR.val) (by simp [results, Tryz.results150, go_sem, allR, R2.val, q0, q1]) rfl ⟨rfl, (HB.out.setCell (by simp) _).setCell (by simp) _⟩
 · go_enter Tryz.func150, Tryz.ntmps150
   go_wp2
   exact bodyPost_ret (v := (R2.mk lo hi).val) (by simp [results, Tryz.results150, go_sem, R2.val]) rfl ⟨rfl, belA1 _ _⟩
theorem run_min4 (ts : Array TypeId) (t : TypeId) (n o p q : Int) (w : World) : (Builtin.min_ ts t #[.int .i64 n, .int .i64 o, .int .i64 p, .int .i64 q]).run Tryz.prog w = .ok (.int .i64 (min4 n o p q)) w := by
 have : min4 n o p q = (if q < (if p < (if o < n then o else n) then p else (if o < n then o else n)) then q else (if p < (if o < n then o else n) then p else (if o < n then o else n))) := by unfold min4; repeat' split <;> omega
 rw [this]
 simp [Builtin.min_, Builtin.min2]
theorem run_max4 (ts : Array TypeId) (t : TypeId) (n o p q : Int) (w : World) : (Builtin.max_ ts t #[.int .i64 n, .int .i64 o, .int .i64 p, .int .i64 q]).run Tryz.prog w = .ok (.int .i64 (max4 n o p q)) w := by
 have : max4 n o p q = (if q > (if p > (if o > n then o else n) then p else (if o > n then o else n)) then q else (if p > (if o > n then o else n) then p else (if o > n then o else n))) := by unfold max4; repeat' split <;> omega
 rw [this]
 simp [Builtin.max_, Builtin.max2]
theorem span_any (n o p q : Int) (w : World) : Calls Tryz.prog 159 #[.int .i64 n, .int .i64 o, .int .i64 p, .int .i64 q] w fun e w' => e = .returned (spanR n o p q).val /\ Below w.heap.size w w' := by
 have h1 := fun ts t w => run_min4 ts t n o p q w
 have h2 := fun ts t w => run_max4 ts t n o p q w
 go_enter Tryz.func159, Tryz.ntmps159
 go_wp2
 exact bodyPost_ret (v := (spanR n o p q).val) (by simp [results, Tryz.results159, go_sem, spanR, R2.val]) rfl ⟨rfl, belA1 _ _⟩
theorem two_of {w : World} {N : Nat} {A B : Value} {T : TypeId} (hH : w.heap[N]? = some (.cells #[A, B] T (0, 0))) : w.cell? ⟨N, 0, none⟩ = some A /\ w.cell? ⟨N, 1, none⟩ = some B /\ w.frozen? ⟨N, 0, none⟩ = false /\ w.frozen? ⟨N, 1, none⟩ = false := by
 refine ⟨?_, ?_, ?_, ?_⟩ <;> first | (rw [cell_of_row _ _ _ _ _ _ hH]; rfl) | simp [World.frozen?, hH]
theorem three_boxes (w : World) (r o : R2) : ∃ w1, (((w.alloc (.cells #[.int .i64 r.lo, .int .i64 r.hi] 27)).alloc (.cells #[.int .i64 o.lo, .int .i64 o.hi] 27)).alloc (.cells #[.int .i64 0, .int .i64 0] 27)) = w1 /\ Below w.heap.size w w1 /\ w.heap.size + 1 + 1 < w1.heap.size /\
 w1.heap[w.heap.size]? = some (.cells #[.int .i64 r.lo, .int .i64 r.hi] 27 (0, 0)) /\ w1.heap[w.heap.size + 1]? = some (.cells #[.int .i64 o.lo, .int .i64 o.hi] 27 (0, 0)) /\ w1.heap[w.heap.size + 1 + 1]? = some (.cells #[.int .i64 0, .int .i64 0] 27 (0, 0)) := by
 refine ⟨_, rfl, ((belA1 _ _).alloc (by simp) _).alloc (by simp; omega) _, by simp, ?_, ?_, ?_⟩
 · rw [Below.heap_alloc _ _ _ (by simp; omega), Below.heap_alloc _ _ _ (by simp)]; exact heap_alloc_new _ _
 · rw [Below.heap_alloc _ _ _ (by simp)]
   have := heap_alloc_new (w.alloc (.cells #[.int .i64 r.lo, .int .i64 r.hi] 27)) (.cells #[.int .i64 o.lo, .int .i64 o.hi] 27)
   simpa using this
 · have := heap_alloc_new ((w.alloc (.cells #[.int .i64 r.lo, .int .i64 r.hi] 27)).alloc (.cells #[.int .i64 o.lo, .int .i64 o.hi] 27)) (.cells #[.int .i64 0, .int .i64 0] 27)
   simpa using this
theorem sum_any (b c : R2) (w : World) (hb : b.in64) (hc : c.in64) : Calls Tryz.prog 146 #[b.val, c.val] w fun e w' => e = .returned (sumR b c).val /\ Below w.heap.size w w' := by
 obtain ⟨hb0, hb1⟩ := hb
 obtain ⟨hc0, hc1⟩ := hc
 have HS : Hid (sumR b c = fitR (b.lo + c.lo) (b.hi + c.hi) (inI (b.lo + c.lo) && inI (b.hi + c.hi))) := hide rfl
 have HI : Hid (I64 b.lo /\ I64 b.hi /\ I64 c.lo /\ I64 c.hi) := hide ⟨hb0, hb1, hc0, hc1⟩
 have HF : Hid (∀ w' ok, ok = (inI (b.lo + c.lo) && inI (b.hi + c.hi)) -> Calls Tryz.prog 150 #[.int .i64 (wrap64 (b.lo + c.lo)), .int .i64 (wrap64 (b.hi + c.hi)), .bool ok] w' fun e w2 => e = .returned (.agg #[.int .i64 (sumR b c).lo, .int .i64 (sumR b c).hi]) /\ Below w'.heap.size w' w2) := hide (fun w' ok hok => by
  refine (fitting_any _ _ ok w').mono ?_
  rintro e w2 ⟨rfl, hb⟩
  refine ⟨?_, hb⟩
  rw [HS.out, hok]
  cases h : (inI (b.lo + c.lo) && inI (b.hi + c.hi))
  · rfl
  · simp only [Bool.and_eq_true] at h
    rw [wrap_in h.1, wrap_in h.2]; rfl)
 generalize sumR b c = S at HF
 clear HS hb0 hb1 hc0 hc1
 unfold R2.val
 obtain ⟨w1, hw1, bw1, hsz1, x0, x1, x2⟩ := three_boxes w b c
 obtain ⟨y0, y1, _, _⟩ := two_of x0
 obtain ⟨z0, z1, _, _⟩ := two_of x1
 obtain ⟨v0, v1, f0, f1⟩ := two_of x2
 have HX := hide x2
 clear x0 x1 x2
 go_enter Tryz.func146, Tryz.ntmps146
 go_wp2_with fail
 clear hw1
 refine (rangesAdd_any _ _ _ HI.out.1 HI.out.2.2.1).mono ?_
 rintro e w' ⟨rfl, rfl⟩
 generalize hi1 : inI (b.lo + c.lo) = I1
 generalize hi2 : inI (b.hi + c.hi) = I2
 have HI1 := hide hi1
 have HI2 := hide hi2
 clear hi1 hi2
 go_wp2_with fail
 refine (rangesAdd_any _ _ _ HI.out.2.1 HI.out.2.2.2).mono ?_
 rintro e w' ⟨rfl, rfl⟩
 rw [HI2.out]
 cases I1 <;> cases I2
 all_goals
  go_wp2_with (go_at_call 150; refine (HF.out _ _ (by rw [HI1.out, HI2.out]; rfl)).mono ?_; rintro e w2 ⟨rfl, hb2⟩; obtain ⟨p0, p1, p2, p3⟩ := two_of ((hb2.block _ hsz1).trans HX.out); have HB := hide (bw1.trans (hb2.mono bw1.size)); clear hb2)
  exact bodyPost_ret (v := S.val) (by simp [results, Tryz.results146, go_sem, p0, p1, R2.val]) rfl ⟨rfl, (HB.out.setCell (by simp; omega) _).setCell (by simp; omega) _⟩
theorem dif_any (b c : R2) (w : World) (hb : b.in64) (hc : c.in64) : Calls Tryz.prog 154 #[b.val, c.val] w fun e w' => e = .returned (difR b c).val /\ Below w.heap.size w w' := by
 obtain ⟨hb0, hb1⟩ := hb
 obtain ⟨hc0, hc1⟩ := hc
 have HS : Hid (difR b c = fitR (b.lo - c.hi) (b.hi - c.lo) (inI (b.lo - c.hi) && inI (b.hi - c.lo))) := hide rfl
 have HI : Hid (I64 b.lo /\ I64 b.hi /\ I64 c.hi /\ I64 c.lo) := hide ⟨hb0, hb1, hc1, hc0⟩
 have HF : Hid (∀ w' ok, ok = (inI (b.lo - c.hi) && inI (b.hi - c.lo)) -> Calls Tryz.prog 150 #[.int .i64 (wrap64 (b.lo - c.hi)), .int .i64 (wrap64 (b.hi - c.lo)), .bool ok] w' fun e w2 => e = .returned (.agg #[.int .i64 (difR b c).lo, .int .i64 (difR b c).hi]) /\ Below w'.heap.size w' w2) := hide (fun w' ok hok => by
  refine (fitting_any _ _ ok w').mono ?_
  rintro e w2 ⟨rfl, hb⟩
  refine ⟨?_, hb⟩
  rw [HS.out, hok]
  cases h : (inI (b.lo - c.hi) && inI (b.hi - c.lo))
  · rfl
  · simp only [Bool.and_eq_true] at h
    rw [wrap_in h.1, wrap_in h.2]; rfl)
 generalize difR b c = S at HF
 clear HS hb0 hb1 hc0 hc1
 unfold R2.val
 obtain ⟨w1, hw1, bw1, hsz1, x0, x1, x2⟩ := three_boxes w b c
 obtain ⟨y0, y1, _, _⟩ := two_of x0
 obtain ⟨z0, z1, _, _⟩ := two_of x1
 obtain ⟨v0, v1, f0, f1⟩ := two_of x2
 have HX := hide x2
 clear x0 x1 x2
 go_enter Tryz.func154, Tryz.ntmps154
 go_wp2_with fail
 clear hw1
 refine (rangesSub_any _ _ _ HI.out.1 HI.out.2.2.1).mono ?_
 rintro e w' ⟨rfl, rfl⟩
 generalize hi1 : inI (b.lo - c.hi) = I1
 generalize hi2 : inI (b.hi - c.lo) = I2
 have HI1 := hide hi1
 have HI2 := hide hi2
 clear hi1 hi2
 go_wp2_with fail
 refine (rangesSub_any _ _ _ HI.out.2.1 HI.out.2.2.2).mono ?_
 rintro e w' ⟨rfl, rfl⟩
 rw [HI2.out]
 cases I1 <;> cases I2
 all_goals
  go_wp2_with (go_at_call 150; refine (HF.out _ _ (by rw [HI1.out, HI2.out]; rfl)).mono ?_; rintro e w2 ⟨rfl, hb2⟩; obtain ⟨p0, p1, p2, p3⟩ := two_of ((hb2.block _ hsz1).trans HX.out); have HB := hide (bw1.trans (hb2.mono bw1.size)); clear hb2)
  exact bodyPost_ret (v := S.val) (by simp [results, Tryz.results154, go_sem, p0, p1, R2.val]) rfl ⟨rfl, (HB.out.setCell (by simp; omega) _).setCell (by simp; omega) _⟩
structure Box3 (w wx : World) (b c : R2) : Prop where
 bel : Below w.heap.size w wx
 sz : w.heap.size + 1 + 1 < wx.heap.size
 x0 : wx.heap[w.heap.size]? = some (.cells #[.int .i64 b.lo, .int .i64 b.hi] 27 (0, 0))
 x1 : wx.heap[w.heap.size + 1]? = some (.cells #[.int .i64 c.lo, .int .i64 c.hi] 27 (0, 0))
 x2 : wx.heap[w.heap.size + 1 + 1]? = some (.cells #[.int .i64 0, .int .i64 0] 27 (0, 0))
theorem Box3.below {w wx wy : World} {b c : R2} (h : Box3 w wx b c) (hb : Below wx.heap.size wx wy) : Box3 w wy b c := by
 have := h.sz
 exact ⟨h.bel.trans (hb.mono h.bel.size), by have := hb.size; omega, (hb.block _ (by omega)).trans h.x0, (hb.block _ (by omega)).trans h.x1, (hb.block _ (by omega)).trans h.x2⟩
theorem Box3.cells {w wx : World} {b c : R2} (h : Box3 w wx b c) : wx.cell? ⟨w.heap.size, 0, none⟩ = some (.int .i64 b.lo) /\ wx.cell? ⟨w.heap.size, 1, none⟩ = some (.int .i64 b.hi) /\ wx.cell? ⟨w.heap.size + 1, 0, none⟩ = some (.int .i64 c.lo) /\ wx.cell? ⟨w.heap.size + 1, 1, none⟩ = some (.int .i64 c.hi) /\ wx.cell? ⟨w.heap.size + 1 + 1, 0, none⟩ = some (.int .i64 0) /\ wx.cell? ⟨w.heap.size + 1 + 1, 1, none⟩ = some (.int .i64 0) /\ wx.frozen? ⟨w.heap.size + 1 + 1, 0, none⟩ = false /\ wx.frozen? ⟨w.heap.size + 1 + 1, 1, none⟩ = false :=
 ⟨(two_of h.x0).1, (two_of h.x0).2.1, (two_of h.x1).1, (two_of h.x1).2.1, (two_of h.x2).1, (two_of h.x2).2.1, (two_of h.x2).2.2.1, (two_of h.x2).2.2.2⟩
theorem Box3.set {w wx : World} {b c : R2} (h : Box3 w wx b c) (u v : Value) : Below w.heap.size w ((wx.setCell ⟨w.heap.size + 1 + 1, 0, none⟩ u).setCell ⟨w.heap.size + 1 + 1, 1, none⟩ v) := (h.bel.setCell (by simp; omega) _).setCell (by simp; omega) _
theorem box3_new (w : World) (b c : R2) : ∃ w1, (((w.alloc (.cells #[.int .i64 b.lo, .int .i64 b.hi] 27)).alloc (.cells #[.int .i64 c.lo, .int .i64 c.hi] 27)).alloc (.cells #[.int .i64 0, .int .i64 0] 27)) = w1 /\ Box3 w w1 b c := by
 obtain ⟨w1, h, h1, h2, h3, h4, h5⟩ := three_boxes w b c
 exact ⟨w1, h, h1, h2, h3, h4, h5⟩
def smallR : R2 := ⟨-2147483648, 2147483648⟩
def prodR (b c : R2) : R2 := if inRg b smallR && inRg c smallR then spanR (wrap64 (b.lo * c.lo)) (wrap64 (b.lo * c.hi)) (wrap64 (b.hi * c.lo)) (wrap64 (b.hi * c.hi)) else allR
def hasR (r : R2) (n : Int) : Bool := decide (r.lo <= n /\ n <= r.hi)
def quoAll (b c : R2) : Bool := hasR c 0 || (hasR c (-1) && hasR b (-9223372036854775808))
def quoR (b c : R2) : R2 := if quoAll b c then allR else spanR (wrap64 (b.lo.tdiv c.lo)) (wrap64 (b.lo.tdiv c.hi)) (wrap64 (b.hi.tdiv c.lo)) (wrap64 (b.hi.tdiv c.hi))
theorem prod_any (b c : R2) (w : World) : Calls Tryz.prog 158 #[b.val, c.val] w fun e w' => e = .returned (prodR b c).val /\ Below w.heap.size w w' := by
 have HL : Hid (∀ (r : R2) wx, Calls Tryz.prog 131 #[.agg #[.int .i64 r.lo, .int .i64 r.hi], .agg #[.int .i64 (-2147483648), .int .i64 2147483648]] wx fun e w' => e = .returned (.bool (inRg r smallR)) /\ Below wx.heap.size wx w') := hide (fun r wx => liesIn_any r smallR wx)
 have HALL : Hid (∀ wx, Calls Tryz.prog 151 #[] wx fun e w' => e = .returned (.agg #[.int .i64 (-9223372036854775808), .int .i64 9223372036854775807]) /\ Below wx.heap.size wx w') := hide (fun wx => all_any wx)
 have HSP : Hid (∀ n o p q wx, Calls Tryz.prog 159 #[.int .i64 n, .int .i64 o, .int .i64 p, .int .i64 q] wx fun e w' => e = .returned (.agg #[.int .i64 (spanR n o p q).lo, .int .i64 (spanR n o p q).hi]) /\ Below wx.heap.size wx w') := hide (fun n o p q wx => span_any n o p q wx)
 generalize hS : prodR b c = S
 have HS := hide hS
 clear hS
 unfold R2.val
 obtain ⟨w1, hw1, B1⟩ := box3_new w b c
 obtain ⟨y0, y1, z0, z1, v0, v1, f0, f1⟩ := B1.cells
 have hsz1 := B1.sz
 have hsa : w.heap.size < w1.heap.size := by omega
 have hsb : w.heap.size + 1 < w1.heap.size := by omega
 have HB1 := hide B1
 clear B1
 cases hi1 : inRg b smallR <;> cases hi2 : inRg c smallR
 all_goals
  have HI1 := hide hi1
  have HI2 := hide hi2
  clear hi1 hi2
  go_enter Tryz.func158, Tryz.ntmps158
  go_wp2_with fail
  refine (HL.out b _).mono ?_
  rintro e w2 ⟨rfl, hb2⟩
  rw [HI1.out]
  have B2 := (HB1.out.below (belA1 _ _)).below hb2
  have s0 : w2.cell? ⟨w1.heap.size, 0, none⟩ = some (.int .i64 (-2147483648)) := by rw [hb2.cell (p := ⟨w1.heap.size, 0, none⟩) (by simp)]; simp [go_sem]
  have s1 : w2.cell? ⟨w1.heap.size, 1, none⟩ = some (.int .i64 2147483648) := by rw [hb2.cell (p := ⟨w1.heap.size, 1, none⟩) (by simp)]; simp [go_sem]
  clear y0 y1 z0 z1 v0 v1 f0 f1 hw1
  obtain ⟨y0, y1, z0, z1, v0, v1, f0, f1⟩ := B2.cells
  have HB2 := hide B2
  clear B2 hb2
 · go_wp2_with fail
   refine (HALL.out _).mono ?_
   rintro e w3 ⟨rfl, hb3⟩
   have HB3 := hide (HB2.out.below hb3)
   clear y0 y1 z0 z1 v0 v1 f0 f1
   obtain ⟨y0, y1, z0, z1, v0, v1, f0, f1⟩ := HB3.out.cells
   clear hb3
   go_wp2
   exact bodyPost_ret (v := allR.val) (by simp [results, Tryz.results158, go_sem, v0, v1, allR, R2.val]) rfl ⟨by rw [<- HS.out]; unfold prodR; rw [HI1.out, HI2.out]; rfl, HB3.out.set _ _⟩
 · go_wp2_with fail
   refine (HALL.out _).mono ?_
   rintro e w3 ⟨rfl, hb3⟩
   have HB3 := hide (HB2.out.below hb3)
   clear y0 y1 z0 z1 v0 v1 f0 f1
   obtain ⟨y0, y1, z0, z1, v0, v1, f0, f1⟩ := HB3.out.cells
   clear hb3
   go_wp2
   exact bodyPost_ret (v := allR.val) (by simp [results, Tryz.results158, go_sem, v0, v1, allR, R2.val]) rfl ⟨by rw [<- HS.out]; unfold prodR; rw [HI1.out, HI2.out]; rfl, HB3.out.set _ _⟩
 · go_wp2_with (go_at_call 131; refine (HL.out c _).mono ?_; rintro e w3 ⟨rfl, hb3⟩; rw [HI2.out]; have HB3 := hide (HB2.out.below hb3); clear hb3)
   refine (HALL.out _).mono ?_
   rintro e w4 ⟨rfl, hb4⟩
   have HB4 := hide (HB3.out.below hb4)
   clear y0 y1 z0 z1 v0 v1 f0 f1
   obtain ⟨y0, y1, z0, z1, v0, v1, f0, f1⟩ := HB4.out.cells
   clear hb4
   go_wp2
   exact bodyPost_ret (v := allR.val) (by simp [results, Tryz.results158, go_sem, v0, v1, allR, R2.val]) rfl ⟨by rw [<- HS.out]; unfold prodR; rw [HI1.out, HI2.out]; rfl, HB4.out.set _ _⟩
 · go_wp2_with (go_at_call 131; refine (HL.out c _).mono ?_; rintro e w3 ⟨rfl, hb3⟩; rw [HI2.out]; have HB3 := hide (HB2.out.below hb3); clear hb3; obtain ⟨p0, p1, p2, p3, p4, p5, p6, p7⟩ := HB3.out.cells)
   refine (HSP.out _ _ _ _ _).mono ?_
   rintro e w4 ⟨rfl, hb4⟩
   have HB4 := hide (HB3.out.below hb4)
   clear y0 y1 z0 z1 v0 v1 f0 f1 p0 p1 p2 p3 p4 p5 p6 p7
   obtain ⟨y0, y1, z0, z1, v0, v1, f0, f1⟩ := HB4.out.cells
   clear hb4
   have HS2 : Hid (S = spanR (wrap64 (b.lo * c.lo)) (wrap64 (b.lo * c.hi)) (wrap64 (b.hi * c.lo)) (wrap64 (b.hi * c.hi))) := hide (by rw [<- HS.out]; unfold prodR; rw [HI1.out, HI2.out]; rfl)
   rw [<- HS2.out]
   go_wp2
   exact bodyPost_ret (v := S.val) (by simp [results, Tryz.results158, go_sem, v0, v1, R2.val]) rfl ⟨rfl, HB4.out.set _ _⟩
theorem wrap_is64 (x : Int) : IntKind.i64.wrap x = wrap64 x := by
 have h1 : (2 ^ IntKind.i64.bits : Int) = 18446744073709551616 := by decide
 have h2 : (2 ^ (IntKind.i64.bits - 1) : Int) = 9223372036854775808 := by decide
 have h3 : IntKind.i64.signed = true := rfl
 unfold IntKind.wrap wrap64
 simp only [h1, h2, h3, Bool.true_and, decide_eq_true_eq, ge_iff_le]
 split <;> omega
theorem Box3.drew {w wx : World} {b c : R2} (h : Box3 w wx b c) : Box3 w wx.drew b c := h.below ((Below.refl _ _).drew)
theorem quo_any (b c : R2) (w : World) (hne : c.lo <= c.hi) : Calls Tryz.prog 162 #[b.val, c.val] w fun e w' => e = .returned (quoR b c).val /\ Below w.heap.size w w' := by
 have HH : Hid (∀ (r : R2) n wx, Calls Tryz.prog 28 #[.agg #[.int .i64 r.lo, .int .i64 r.hi], .int .i64 n] wx fun e w' => e = .returned (.bool (hasR r n)) /\ Below wx.heap.size wx w') := hide (fun r n wx => has_any r n wx)
 have HALL : Hid (∀ wx, Calls Tryz.prog 151 #[] wx fun e w' => e = .returned (.agg #[.int .i64 (-9223372036854775808), .int .i64 9223372036854775807]) /\ Below wx.heap.size wx w') := hide (fun wx => all_any wx)
 have HSP : Hid (∀ n o p q wx, Calls Tryz.prog 159 #[.int .i64 n, .int .i64 o, .int .i64 p, .int .i64 q] wx fun e w' => e = .returned (.agg #[.int .i64 (spanR n o p q).lo, .int .i64 (spanR n o p q).hi]) /\ Below wx.heap.size wx w') := hide (fun n o p q wx => span_any n o p q wx)
 generalize hS : quoR b c = S
 have HS := hide hS
 clear hS
 have HZ : Hid (hasR c 0 = false -> ¬ c.lo = 0 /\ ¬ c.hi = 0) := hide (fun h => by unfold hasR at h; rw [decide_eq_false_iff_not] at h; omega)
 unfold R2.val
 obtain ⟨w1, hw1, B1⟩ := box3_new w b c
 obtain ⟨y0, y1, z0, z1, v0, v1, f0, f1⟩ := B1.cells
 have hsz1 := B1.sz
 have HB1 := hide B1
 have na : ¬ (w.heap.size = w.heap.size + 1 + 1) := by omega
 have nb : ¬ (w.heap.size + 1 + 1 = w.heap.size) := by omega
 have nc : ¬ (w.heap.size + 1 = w.heap.size + 1 + 1) := by omega
 have nd : ¬ (w.heap.size + 1 + 1 = w.heap.size + 1) := by omega
 clear B1 hne
 cases h0 : hasR c 0
 · have HI0 := hide h0
   obtain ⟨n0, n1⟩ := HZ.out h0
   have m0 : (c.lo == 0) = false := by simpa using n0
   have m1 : (c.hi == 0) = false := by simpa using n1
   clear h0
   go_enter Tryz.func162, Tryz.ntmps162
   go_wp2_with fail
   refine (HH.out c 0 _).mono ?_
   rintro e w2 ⟨rfl, hb2⟩
   rw [HI0.out]
   have HB2 := hide (HB1.out.below hb2)
   clear y0 y1 z0 z1 v0 v1 f0 f1 hw1 hb2
   obtain ⟨y0, y1, z0, z1, v0, v1, f0, f1⟩ := HB2.out.cells
   cases h1 : hasR c (-1)
   · have HQ : Hid (quoAll b c = false) := hide (by unfold quoAll; rw [HI0.out, h1]; rfl)
     have HI1 := hide h1
     clear h1
     go_wp2_with (go_at_call 28; refine (HH.out c (-1) _).mono ?_; rintro e w3 ⟨rfl, hb3⟩; rw [HI1.out]; have HB3 := hide (HB2.out.below hb3); clear hb3)
     clear y0 y1 z0 z1 v0 v1 f0 f1
     obtain ⟨y0, y1, z0, z1, v0, v1, f0, f1⟩ := HB3.out.cells
     have HS2 : Hid (S = spanR (wrap64 (b.lo.tdiv c.lo)) (wrap64 (b.lo.tdiv c.hi)) (wrap64 (b.hi.tdiv c.lo)) (wrap64 (b.hi.tdiv c.hi))) := hide (by rw [<- HS.out]; unfold quoR; rw [HQ.out]; rfl)
     go_region_held3 (fun w' => w'.cell? ⟨w.heap.size, 0, none⟩ = some (.int .i64 b.lo) /\ w'.cell? ⟨w.heap.size, 1, none⟩ = some (.int .i64 b.hi) /\ w'.cell? ⟨w.heap.size + 1, 0, none⟩ = some (.int .i64 c.lo) /\ w'.cell? ⟨w.heap.size + 1, 1, none⟩ = some (.int .i64 c.hi)) (go_keep) (first
      | (go_at_call 159; refine (HSP.out _ _ _ _ _).mono ?_; rintro e w4 ⟨rfl, hb4⟩; have HB4 := hide (HB3.out.drew.below hb4); obtain ⟨p0, p1, p2, p3, p4, p5, p6, p7⟩ := HB4.out.cells; clear hb4))
     go_wp2
     exact bodyPost_ret (v := S.val) (by rw [HS2.out]; simp [results, Tryz.results162, go_sem, p4, p5, R2.val, wrap_is64]) rfl ⟨rfl, HB4.out.set _ _⟩
   · have HI1 := hide h1
     clear h1
     cases h2 : hasR b (-9223372036854775808)
     · have HQ : Hid (quoAll b c = false) := hide (by unfold quoAll; rw [HI0.out, HI1.out, h2]; rfl)
       have HI2 := hide h2
       clear h2
       go_wp2_with fail
       refine (HH.out c (-1) _).mono ?_
       rintro e w3 ⟨rfl, hb3⟩
       rw [HI1.out]
       have HB3 := hide (HB2.out.below hb3)
       clear hb3 y0 y1 z0 z1 v0 v1 f0 f1
       obtain ⟨y0, y1, z0, z1, v0, v1, f0, f1⟩ := HB3.out.cells
       go_wp2_with fail
       refine (HH.out b (-9223372036854775808) _).mono ?_
       rintro e w5 ⟨rfl, hb5⟩
       rw [HI2.out]
       have HB5 := hide (HB3.out.below hb5)
       clear hb5
       go_wp2_with fail
       clear y0 y1 z0 z1 v0 v1 f0 f1
       obtain ⟨y0, y1, z0, z1, v0, v1, f0, f1⟩ := HB5.out.cells
       have HS2 : Hid (S = spanR (wrap64 (b.lo.tdiv c.lo)) (wrap64 (b.lo.tdiv c.hi)) (wrap64 (b.hi.tdiv c.lo)) (wrap64 (b.hi.tdiv c.hi))) := hide (by rw [<- HS.out]; unfold quoR; rw [HQ.out]; rfl)
       go_region_held3 (fun w' => w'.cell? ⟨w.heap.size, 0, none⟩ = some (.int .i64 b.lo) /\ w'.cell? ⟨w.heap.size, 1, none⟩ = some (.int .i64 b.hi) /\ w'.cell? ⟨w.heap.size + 1, 0, none⟩ = some (.int .i64 c.lo) /\ w'.cell? ⟨w.heap.size + 1, 1, none⟩ = some (.int .i64 c.hi)) (go_keep) (first
        | (go_at_call 159; refine (HSP.out _ _ _ _ _).mono ?_; rintro e w4 ⟨rfl, hb4⟩; have HB4 := hide (HB5.out.drew.below hb4); obtain ⟨p0, p1, p2, p3, p4, p5, p6, p7⟩ := HB4.out.cells; clear hb4))
       go_wp2
       exact bodyPost_ret (v := S.val) (by rw [HS2.out]; simp [results, Tryz.results162, go_sem, p4, p5, R2.val, wrap_is64]) rfl ⟨rfl, HB4.out.set _ _⟩
     · have HQ : Hid (quoAll b c = true) := hide (by unfold quoAll; rw [HI0.out, HI1.out, h2]; rfl)
       have HI2 := hide h2
       clear h2
       go_wp2_with fail
       refine (HH.out c (-1) _).mono ?_
       rintro e w3 ⟨rfl, hb3⟩
       rw [HI1.out]
       have HB3 := hide (HB2.out.below hb3)
       clear hb3 y0 y1 z0 z1 v0 v1 f0 f1
       obtain ⟨y0, y1, z0, z1, v0, v1, f0, f1⟩ := HB3.out.cells
       go_wp2_with fail
       refine (HH.out b (-9223372036854775808) _).mono ?_
       rintro e w5 ⟨rfl, hb5⟩
       rw [HI2.out]
       have HB5 := hide (HB3.out.below hb5)
       clear hb5
       go_wp2_with fail
       refine (HALL.out _).mono ?_
       rintro e w6 ⟨rfl, hb6⟩
       have HB6 := hide (HB5.out.below hb6)
       clear y0 y1 z0 z1 v0 v1 f0 f1
       obtain ⟨y0, y1, z0, z1, v0, v1, f0, f1⟩ := HB6.out.cells
       clear hb6
       go_wp2
       exact bodyPost_ret (v := allR.val) (by simp [results, Tryz.results162, go_sem, v0, v1, allR, R2.val]) rfl ⟨by rw [<- HS.out]; unfold quoR; rw [HQ.out]; rfl, HB6.out.set _ _⟩
 · have HQ : Hid (quoAll b c = true) := hide (by unfold quoAll; rw [h0]; rfl)
   have HI0 := hide h0
   clear h0
   go_enter Tryz.func162, Tryz.ntmps162
   go_wp2_with fail
   refine (HH.out c 0 _).mono ?_
   rintro e w2 ⟨rfl, hb2⟩
   rw [HI0.out]
   have HB2 := hide (HB1.out.below hb2)
   clear y0 y1 z0 z1 v0 v1 f0 f1 hw1 hb2
   go_wp2_with fail
   refine (HALL.out _).mono ?_
   rintro e w3 ⟨rfl, hb3⟩
   have HB3 := hide (HB2.out.below hb3)
   obtain ⟨y0, y1, z0, z1, v0, v1, f0, f1⟩ := HB3.out.cells
   clear hb3
   go_wp2
   exact bodyPost_ret (v := allR.val) (by simp [results, Tryz.results162, go_sem, v0, v1, allR, R2.val]) rfl ⟨by rw [<- HS.out]; unfold quoR; rw [HQ.out]; rfl, HB3.out.set _ _⟩
def plC (b : Bool) (s : Nat -> R2) : Array Value := #[.bool b, .int .i64 (s 0).lo, .int .i64 (s 0).hi, .int .i64 (s 1).lo, .int .i64 (s 1).hi, .int .i64 (s 2).lo, .int .i64 (s 2).hi, .int .i64 (s 3).lo, .int .i64 (s 3).hi, .int .i64 (s 4).lo, .int .i64 (s 4).hi, .int .i64 (s 5).lo, .int .i64 (s 5).hi, .int .i64 (s 6).lo, .int .i64 (s 6).hi, .int .i64 (s 7).lo, .int .i64 (s 7).hi]
def clC (a : Int) (s : Nat -> R2) : Array Value := #[.int .i64 a, .int .i64 (s 0).lo, .int .i64 (s 0).hi, .int .i64 (s 1).lo, .int .i64 (s 1).hi, .int .i64 (s 2).lo, .int .i64 (s 2).hi, .int .i64 (s 3).lo, .int .i64 (s 3).hi, .int .i64 (s 4).lo, .int .i64 (s 4).hi, .int .i64 (s 5).lo, .int .i64 (s 5).hi, .int .i64 (s 6).lo, .int .i64 (s 6).hi, .int .i64 (s 7).lo, .int .i64 (s 7).hi]
def rgC (r : R2) : Array Value := #[.int .i64 r.lo, .int .i64 r.hi]
def zeroS : Nat -> R2 := fun _ => ⟨0, 0⟩
def updS (s : Nat -> R2) (a : Nat) (r : R2) : Nat -> R2 := fun j => if j = a then r else s j
def stO (o : Option (Nat -> R2)) : Nat -> R2 := o.getD zeroS
theorem mixT : Tryz.prog.follows .mixedOrders = true := by kernel_rfl
theorem lt8 {n : Nat} (h : n < 8) : n = 0 \/ n = 1 \/ n = 2 \/ n = 3 \/ n = 4 \/ n = 5 \/ n = 6 \/ n = 7 := by omega
theorem ex_whole {A : Array Value} {n : Nat} (h : A.size = n) : A.extract 0 (0 + n) = A := by rw [Nat.zero_add, <- h]; exact Array.extract_size
theorem ex_plst (b : Bool) (s : Nat -> R2) : (plC b s).extract 1 (1 + 16) = stC s := by kernel_rfl
theorem ex_clst (a : Int) (s : Nat -> R2) : (clC a s).extract 1 (1 + 16) = stC s := by kernel_rfl
theorem ex_at (s : Nat -> R2) (n : Nat) (h : n < 8) : (stC s).extract (n * 2) (n * 2 + 2) = rgC (s n) := by
 rcases lt8 h with rfl | rfl | rfl | rfl | rfl | rfl | rfl | rfl <;> kernel_rfl
theorem put_st (s : Nat -> R2) (n : Nat) (r : R2) (h : n < 8) : putA (stC s) (n * 2) (rgC r).toList = stC (updS s n r) := by
 rcases lt8 h with rfl | rfl | rfl | rfl | rfl | rfl | rfl | rfl <;> kernel_rfl
def plsA (n : Nat) (W : Nat -> Option (Nat -> R2)) : Array Value := rowsA n 17 fun i => plC (W i).isSome (stO (W i))
def bosA (n : Nat) (f : Nat -> Bool) : Array Value := rowsA n 1 fun i => #[.bool (f i)]
def updW (W : Nat -> Option (Nat -> R2)) (i : Nat) (o : Option (Nat -> R2)) : Nat -> Option (Nat -> R2) := fun j => if j = i then o else W j
def updB (f : Nat -> Bool) (i : Nat) (b : Bool) : Nat -> Bool := fun j => if j = i then b else f j
theorem plsA_size (n : Nat) (W : Nat -> Option (Nat -> R2)) : (plsA n W).size = n * 17 := rows_size _ _ _
theorem bosA_size (n : Nat) (f : Nat -> Bool) : (bosA n f).size = n := by unfold bosA; rw [rows_size, Nat.mul_one]
theorem ex_pls (n : Nat) (W : Nat -> Option (Nat -> R2)) (i : Nat) (h : i < n) : (plsA n W).extract (i * 17) (i * 17 + 17) = plC (W i).isSome (stO (W i)) := rows_ex (g := fun i => plC (W i).isSome (stO (W i))) h rfl
theorem put_pls (n : Nat) (W : Nat -> Option (Nat -> R2)) (i : Nat) (o : Option (Nat -> R2)) : putA (plsA n W) (i * 17) (plC o.isSome (stO o)).toList = plsA n (updW W i o) := by
 unfold plsA
 rw [rows_put (n := n) (k := 17) (g := fun i => plC (W i).isSome (stO (W i))) (i := i) (c := plC o.isSome (stO o)) rfl]
 refine rows_congr fun j _ => ?_
 unfold updW
 split <;> rfl
theorem put_plsS (n : Nat) (W : Nat -> Option (Nat -> R2)) (i : Nat) (s : Nat -> R2) : putA (plsA n W) (i * 17) (plC true s).toList = plsA n (updW W i (some s)) := put_pls n W i (some s)
theorem get_bos (n : Nat) (f : Nat -> Bool) (i : Nat) (h : i < n) : (bosA n f)[i * 1]? = some (.bool (f i)) := by
 have := rows_at (n := n) (k := 1) (g := fun i => #[.bool (f i)]) (i := i) (q := 0) h (by omega) rfl
 rw [Nat.add_zero] at this
 exact this
theorem set_bos (n : Nat) (f : Nat -> Bool) (i : Nat) (b : Bool) : (bosA n f).setIfInBounds (i * 1) (.bool b) = bosA n (updB f i b) := by
 have h := rows_put (n := n) (k := 1) (g := fun i => #[.bool (f i)]) (i := i) (c := #[.bool b]) rfl
 have e : putA (rowsA n 1 fun i => #[.bool (f i)]) (i * 1) (#[Value.bool b]).toList = (bosA n f).setIfInBounds (i * 1) (.bool b) := rfl
 rw [<- e, h]
 refine rows_congr fun j _ => ?_
 unfold updB
 split <;> rfl
theorem rg_0 (r : R2) : (rgC r)[0]? = some (.int .i64 r.lo) := rfl
theorem rg_1 (r : R2) : (rgC r)[1]? = some (.int .i64 r.hi) := rfl
theorem pl_0 (b : Bool) (s : Nat -> R2) : (plC b s)[0]? = some (.bool b) := rfl
theorem cl_0 (a : Int) (s : Nat -> R2) : (clC a s)[0]? = some (.int .i64 a) := rfl
theorem l1_0 (x : Value) : (#[x] : Array Value)[0]? = some x := rfl
theorem l2_0 (x y : Value) : (#[x, y] : Array Value)[0]? = some x := rfl
theorem l2_1 (x y : Value) : (#[x, y] : Array Value)[1]? = some y := rfl
theorem l3_0 (x y z : Value) : (#[x, y, z] : Array Value)[0]? = some x := rfl
theorem l3_1 (x y z : Value) : (#[x, y, z] : Array Value)[1]? = some y := rfl
theorem l3_2 (x y z : Value) : (#[x, y, z] : Array Value)[2]? = some z := rfl
theorem build_pl (b : Bool) (s : Nat -> R2) (w : World) : (Instr.build 190 [(0, .bool b), (1, .agg (stC s))].toArray).run Tryz.prog w = .ok (.agg (plC b s)) w := run_build w _ _ _ (by kernel_rfl)
theorem build_pl0 (w : World) : (Instr.build 190 [].toArray).run Tryz.prog w = .ok (.agg (plC false zeroS)) w := run_build w _ _ _ (by kernel_rfl)
theorem build_rg (a b : Int) (w : World) : (Instr.build 27 [(0, .int .i64 a), (1, .int .i64 b)].toArray).run Tryz.prog w = .ok (.agg (rgC ⟨a, b⟩)) w := run_build w _ _ _ (by kernel_rfl)
theorem build_rt (p q r : Option Addr) (a b c e f g : Nat) (w : World) : (Instr.build 123 [(0, .slice p a b), (1, .slice q c e), (2, .slice r f g)].toArray).run Tryz.prog w = .ok (.agg #[.slice p a b, .slice q c e, .slice r f g]) w := run_build w _ _ _ (by kernel_rfl)
theorem build_ck (x y z : Value) (w : World) : (Instr.build 125 [(0, .agg #[x, y, z])].toArray).run Tryz.prog w = .ok (.agg #[x, y, z]) w := run_build w _ _ _ (by kernel_rfl)
def rgsC (r : Nat -> Int) : Array Value := #[.int .i64 (r 0), .int .i64 (r 1), .int .i64 (r 2), .int .i64 (r 3), .int .i64 (r 4), .int .i64 (r 5), .int .i64 (r 6), .int .i64 (r 7)]
def updI (r : Nat -> Int) (a : Nat) (v : Int) : Nat -> Int := fun j => if j = a then v else r j
theorem st_lo (s : Nat -> R2) (n : Nat) (h : n < 8) : (stC s)[n * 2]? = some (.int .i64 (s n).lo) := (stC_get s n h).1
theorem st_hi (s : Nat -> R2) (n : Nat) (h : n < 8) : (stC s)[n * 2 + 1]? = some (.int .i64 (s n).hi) := (stC_get s n h).2
theorem rgs_get (r : Nat -> Int) (n : Nat) (h : n < 8) : (rgsC r)[n * 1]? = some (.int .i64 (r n)) := by
 rcases lt8 h with rfl | rfl | rfl | rfl | rfl | rfl | rfl | rfl <;> rfl
theorem pl_lo (b : Bool) (s : Nat -> R2) (n : Nat) (h : n < 8) : (plC b s)[1 + n * 2]? = some (.int .i64 (s n).lo) := by
 rcases lt8 h with rfl | rfl | rfl | rfl | rfl | rfl | rfl | rfl <;> rfl
theorem pl_hi (b : Bool) (s : Nat -> R2) (n : Nat) (h : n < 8) : (plC b s)[1 + n * 2 + 1]? = some (.int .i64 (s n).hi) := by
 rcases lt8 h with rfl | rfl | rfl | rfl | rfl | rfl | rfl | rfl <;> rfl
theorem ex_plat (b : Bool) (s : Nat -> R2) (n : Nat) (h : n < 8) : (plC b s).extract (1 + n * 2) (1 + n * 2 + 2) = rgC (s n) := by
 rcases lt8 h with rfl | rfl | rfl | rfl | rfl | rfl | rfl | rfl <;> kernel_rfl
theorem put_plat (b : Bool) (s : Nat -> R2) (n : Nat) (r : R2) (h : n < 8) : putA (plC b s) (1 + n * 2) (rgC r).toList = plC b (updS s n r) := by
 rcases lt8 h with rfl | rfl | rfl | rfl | rfl | rfl | rfl | rfl <;> kernel_rfl
theorem set_pl0 (b : Bool) (s : Nat -> R2) (c : Bool) : (plC b s).setIfInBounds 0 (.bool c) = plC c s := by kernel_rfl
theorem set_pllo (b : Bool) (s : Nat -> R2) (n : Nat) (v : Int) (h : n < 8) : (plC b s).setIfInBounds (1 + n * 2) (.int .i64 v) = plC b (updS s n ⟨v, (s n).hi⟩) := by
 rcases lt8 h with rfl | rfl | rfl | rfl | rfl | rfl | rfl | rfl <;> kernel_rfl
theorem set_plhi (b : Bool) (s : Nat -> R2) (n : Nat) (v : Int) (h : n < 8) : (plC b s).setIfInBounds (1 + n * 2 + 1) (.int .i64 v) = plC b (updS s n ⟨(s n).lo, v⟩) := by
 rcases lt8 h with rfl | rfl | rfl | rfl | rfl | rfl | rfl | rfl <;> kernel_rfl
theorem set_stlo (s : Nat -> R2) (n : Nat) (v : Int) (h : n < 8) : (stC s).setIfInBounds (n * 2) (.int .i64 v) = stC (updS s n ⟨v, (s n).hi⟩) := by
 rcases lt8 h with rfl | rfl | rfl | rfl | rfl | rfl | rfl | rfl <;> kernel_rfl
theorem set_sthi (s : Nat -> R2) (n : Nat) (v : Int) (h : n < 8) : (stC s).setIfInBounds (n * 2 + 1) (.int .i64 v) = stC (updS s n ⟨(s n).lo, v⟩) := by
 rcases lt8 h with rfl | rfl | rfl | rfl | rfl | rfl | rfl | rfl <;> kernel_rfl
theorem set_rgs (r : Nat -> Int) (n : Nat) (v : Int) (h : n < 8) : (rgsC r).setIfInBounds (n * 1) (.int .i64 v) = rgsC (updI r n v) := by
 rcases lt8 h with rfl | rfl | rfl | rfl | rfl | rfl | rfl | rfl <;> kernel_rfl
theorem l4_0 (x y z u : Value) : (#[x, y, z, u] : Array Value)[0]? = some x := rfl
theorem l4_1 (x y z u : Value) : (#[x, y, z, u] : Array Value)[1]? = some y := rfl
theorem l4_2 (x y z u : Value) : (#[x, y, z, u] : Array Value)[2]? = some z := rfl
theorem l4_3 (x y z u : Value) : (#[x, y, z, u] : Array Value)[3]? = some u := rfl
theorem l5_0 (x y z u v : Value) : (#[x, y, z, u, v] : Array Value)[0]? = some x := rfl
theorem l5_1 (x y z u v : Value) : (#[x, y, z, u, v] : Array Value)[1]? = some y := rfl
theorem l5_2 (x y z u v : Value) : (#[x, y, z, u, v] : Array Value)[2]? = some z := rfl
theorem l5_3 (x y z u v : Value) : (#[x, y, z, u, v] : Array Value)[3]? = some u := rfl
theorem l5_4 (x y z u v : Value) : (#[x, y, z, u, v] : Array Value)[4]? = some v := rfl
theorem build_way (b : Bool) (s : Nat -> R2) (w : World) : (Instr.build 168 [(0, .bool b), (1, .agg (stC s))].toArray).run Tryz.prog w = .ok (.agg (plC b s)) w := run_build w _ _ _ (by kernel_rfl)
theorem build_way0 (w : World) : (Instr.build 168 [].toArray).run Tryz.prog w = .ok (.agg (plC false zeroS)) w := run_build w _ _ _ (by kernel_rfl)
theorem build_cl (a : Int) (s : Nat -> R2) (w : World) : (Instr.build 71 [(0, .int .i64 a), (1, .agg (stC s))].toArray).run Tryz.prog w = .ok (.agg (clC a s)) w := run_build w _ _ _ (by kernel_rfl)
theorem build_cla (a : Int) (w : World) : (Instr.build 71 [(0, .int .i64 a)].toArray).run Tryz.prog w = .ok (.agg (clC a zeroS)) w := run_build w _ _ _ (by kernel_rfl)
section ints
variable (ρ : Operand -> Value) (d : Option Tmp) (x y : Operand) (tt t' : TypeId) (pos : String) (aft : Array Edge) (g : Option (Nat × Bool)) (p q : Int) (w : World)
theorem cmp_lss (hx : ρ x = .int .i64 p) (hy : ρ y = .int .i64 q) : (execOp ρ ⟨d, .binOp .lss 3 x y t', tt, pos, aft, g⟩).run Tryz.prog w = .ok (.value (.bool (decide (p < q)))) w := by
 unfold execOp; simp only [hx, hy]; simp [go_sem]
theorem cmp_leq (hx : ρ x = .int .i64 p) (hy : ρ y = .int .i64 q) : (execOp ρ ⟨d, .binOp .leq 3 x y t', tt, pos, aft, g⟩).run Tryz.prog w = .ok (.value (.bool (decide (p <= q)))) w := by
 unfold execOp; simp only [hx, hy]; simp [go_sem]
theorem cmp_gtr (hx : ρ x = .int .i64 p) (hy : ρ y = .int .i64 q) : (execOp ρ ⟨d, .binOp .gtr 3 x y t', tt, pos, aft, g⟩).run Tryz.prog w = .ok (.value (.bool (decide (q < p)))) w := by
 unfold execOp; simp only [hx, hy]; simp [go_sem]
theorem cmp_geq (hx : ρ x = .int .i64 p) (hy : ρ y = .int .i64 q) : (execOp ρ ⟨d, .binOp .geq 3 x y t', tt, pos, aft, g⟩).run Tryz.prog w = .ok (.value (.bool (decide (q <= p)))) w := by
 unfold execOp; simp only [hx, hy]; simp [go_sem]
theorem cmp_eql (hx : ρ x = .int .i64 p) (hy : ρ y = .int .i64 q) : (execOp ρ ⟨d, .binOp .eql 3 x y t', tt, pos, aft, g⟩).run Tryz.prog w = .ok (.value (.bool (p == q))) w := by
 unfold execOp; simp only [hx, hy]; simp [go_sem]
theorem un_not (b : Bool) (hx : ρ x = .bool b) : (execOp ρ ⟨d, .unOp .not t' x, tt, pos, aft, g⟩).run Tryz.prog w = .ok (.value (.bool (!b))) w := by
 unfold execOp; simp only [hx]; simp [go_sem]
end ints
section tabs
variable {P : Program} {ty t n m f g k : Nat} {D : TypeDesc} {a b : Option Nat}
theorem ifI {α : Type} {c p : Prop} [Decidable c] {a b : Option α} {x : α} (h : (if c then a else b) = some x) (k : c -> a = some x -> p) (r : b = some x -> p) : p := by
 by_cases e : c
 · rw [if_pos e] at h; exact k e h
 · rw [if_neg e] at h; exact r h
theorem rwI (u : P.underlying t = some D) (h : (if ty = t then some m else b) = some n) (r : b = some n -> RowT P ty n) (q : D.isRow = true := by rfl) (z : (P.info? t).map (·.size) = some m := by kernel_rfl) : RowT P ty n :=
 ifI h (fun e q1 => by cases e; cases q1; exact ⟨⟨_, u, q⟩, z⟩) r
theorem onI (u : P.underlying t = some D) (h : (if ty = t then some m else b) = some n) (r : b = some n -> OneT P ty) (q : D.isRow = false := by rfl) (z : (P.info? t).map (·.size) = some 1 := by kernel_rfl) : OneT P ty :=
 ifI h (fun e _ => by cases e; exact ⟨⟨_, u, q⟩, z⟩) r
theorem zrI {z y : Array Value} {b : Option (Array Value)} (h : (if ty = t then some y else b) = some z) (r : b = some z -> (P.info? ty).map (·.zero) = some (some (.agg z))) (q : (P.info? t).map (·.zero) = some (some (.agg y)) := by kernel_rfl) : (P.info? ty).map (·.zero) = some (some (.agg z)) :=
 ifI h (fun e q1 => by cases e; cases q1; exact q) r
theorem fdF {fs : Array Field} {x : Field} (u : P.underlying t = some (.struct fs)) (h : (if f = g then some m else b) = some k) (r : b = some k -> FldT P t f k) (e : fs[g]? = some x := by rfl) (o : x.offset = m := by rfl)
 (p : ∀ (b j : Nat) (w : World), (fieldPlace ⟨b, j, none⟩ x).run P w = .ok (if m = 0 then ⟨b, j, none⟩ else ⟨b, j + m, none⟩) w := by intros; kernel_rfl) : FldT P t f k :=
 ifI h (fun e1 q1 => by cases e1; cases q1; exact ⟨⟨_, _, u, e, o, p⟩⟩) r
theorem slI {d : TypeId} (u : P.underlying t = some (.slice d)) (h : (if ty = t then some m else b) = some n) (r : b = some n -> SlcT P ty n) (q : (P.info? d).map (·.size) = some m := by kernel_rfl) : SlcT P ty n :=
 ifI h (fun e q1 => by cases e; cases q1; exact ⟨⟨_, u, q⟩⟩) r
end tabs
def rowTab (ty : Nat) : Option Nat :=
 if ty = 29 then some 16 else
 if ty = 190 then some 17 else
 if ty = 27 then some 2 else
 if ty = 71 then some 17 else
 if ty = 35 then some 5 else
 if ty = 168 then some 17 else
 if ty = 123 then some 3 else
 if ty = 125 then some 3 else
 if ty = 128 then some 3 else
 if ty = 146 then some 0 else
 if ty = 130 then some 2 else
 if ty = 132 then some 2 else
 if ty = 134 then some 3 else
 if ty = 135 then some 3 else
 if ty = 136 then some 3 else
 if ty = 137 then some 3 else
 if ty = 138 then some 2 else
 if ty = 139 then some 2 else
 if ty = 141 then some 1 else
 if ty = 143 then some 3 else
 if ty = 144 then some 3 else
 if ty = 38 then some 4 else
 if ty = 41 then some 8 else
 if ty = 69 then some 9 else
 if ty = 62 then some 17 else
 if ty = 209 then some 6 else
 if ty = 148 then some 3 else
 if ty = 150 then some 2 else
 if ty = 152 then some 2 else
 if ty = 178 then some 4 else
 if ty = 82 then some 32 else
 none
theorem rowT_of {ty n : Nat} (h : rowTab ty = some n) : RowT Tryz.prog ty n := by
 unfold rowTab at h
 refine rwI Tryz.underlying29 h fun h => ?_
 refine rwI Tryz.underlying190 h fun h => ?_
 refine rwI Tryz.underlying27 h fun h => ?_
 refine rwI Tryz.underlying71 h fun h => ?_
 refine rwI Tryz.underlying35 h fun h => ?_
 refine rwI Tryz.underlying168 h fun h => ?_
 refine rwI Tryz.underlying123 h fun h => ?_
 refine rwI Tryz.underlying125 h fun h => ?_
 refine rwI Tryz.underlying128 h fun h => ?_
 refine rwI Tryz.underlying146 h fun h => ?_
 refine rwI Tryz.underlying130 h fun h => ?_
 refine rwI Tryz.underlying132 h fun h => ?_
 refine rwI Tryz.underlying134 h fun h => ?_
 refine rwI Tryz.underlying135 h fun h => ?_
 refine rwI Tryz.underlying136 h fun h => ?_
 refine rwI Tryz.underlying137 h fun h => ?_
 refine rwI Tryz.underlying138 h fun h => ?_
 refine rwI Tryz.underlying139 h fun h => ?_
 refine rwI Tryz.underlying141 h fun h => ?_
 refine rwI Tryz.underlying143 h fun h => ?_
 refine rwI Tryz.underlying144 h fun h => ?_
 refine rwI Tryz.underlying38 h fun h => ?_
 refine rwI Tryz.underlying41 h fun h => ?_
 refine rwI Tryz.underlying69 h fun h => ?_
 refine rwI Tryz.underlying62 h fun h => ?_
 refine rwI Tryz.underlying209 h fun h => ?_
 refine rwI Tryz.underlying148 h fun h => ?_
 refine rwI Tryz.underlying150 h fun h => ?_
 refine rwI Tryz.underlying152 h fun h => ?_
 refine rwI Tryz.underlying178 h fun h => ?_
 refine rwI Tryz.underlying82 h fun h => ?_
 cases h
def oneTab (ty : Nat) : Option Nat :=
 if ty = 3 then some 1 else
 if ty = 4 then some 1 else
 if ty = 31 then some 1 else
 if ty = 58 then some 1 else
 if ty = 117 then some 1 else
 if ty = 120 then some 1 else
 if ty = 74 then some 1 else
 if ty = 36 then some 1 else
 if ty = 51 then some 1 else
 if ty = 193 then some 1 else
 if ty = 176 then some 1 else
 if ty = 175 then some 1 else
 if ty = 30 then some 1 else
 if ty = 204 then some 1 else
 if ty = 67 then some 1 else
 if ty = 46 then some 1 else
 if ty = 174 then some 1 else
 if ty = 78 then some 1 else
 none
theorem oneT_of {ty n : Nat} (h : oneTab ty = some n) : OneT Tryz.prog ty := by
 unfold oneTab at h
 refine onI Tryz.underlying3 h fun h => ?_
 refine onI Tryz.underlying4 h fun h => ?_
 refine onI Tryz.underlying31 h fun h => ?_
 refine onI Tryz.underlying58 h fun h => ?_
 refine onI Tryz.underlying117 h fun h => ?_
 refine onI Tryz.underlying120 h fun h => ?_
 refine onI Tryz.underlying74 h fun h => ?_
 refine onI Tryz.underlying36 h fun h => ?_
 refine onI Tryz.underlying51 h fun h => ?_
 refine onI Tryz.underlying193 h fun h => ?_
 refine onI Tryz.underlying176 h fun h => ?_
 refine onI Tryz.underlying175 h fun h => ?_
 refine onI Tryz.underlying30 h fun h => ?_
 refine onI Tryz.underlying204 h fun h => ?_
 refine onI Tryz.underlying67 h fun h => ?_
 refine onI Tryz.underlying46 h fun h => ?_
 refine onI Tryz.underlying174 h fun h => ?_
 refine onI Tryz.underlying78 h fun h => ?_
 cases h
def zeroTab (ty : Nat) : Option (Array Value) :=
 if ty = 29 then some (stC zeroS) else
 if ty = 190 then some (plC false zeroS) else
 if ty = 27 then some (rgC ⟨0, 0⟩) else
 if ty = 71 then some (clC 0 zeroS) else
 if ty = 35 then some (#[.int .i64 0, .int .i64 0, .int .i64 0, .int .i64 0, .int .i64 0]) else
 if ty = 168 then some (plC false zeroS) else
 if ty = 123 then some (#[.slice none 0 0, .slice none 0 0, .slice none 0 0]) else
 if ty = 125 then some (#[.slice none 0 0, .slice none 0 0, .slice none 0 0]) else
 if ty = 128 then some (#[.int .i64 0, .int .i64 0, .int .i64 0]) else
 if ty = 146 then some (#[]) else
 if ty = 130 then some (#[.int .i64 0, .int .i64 0]) else
 if ty = 132 then some (#[.int .i64 0, .int .i64 0]) else
 if ty = 134 then some (#[.int .i64 0, .int .i64 0, .int .i64 0]) else
 if ty = 135 then some (#[.int .i64 0, .int .i64 0, .int .i64 0]) else
 if ty = 136 then some (#[.int .i64 0, .int .i64 0, .int .i64 0]) else
 if ty = 137 then some (#[.int .i64 0, .int .i64 0, .int .i64 0]) else
 if ty = 138 then some (#[.int .i64 0, .int .i64 0]) else
 if ty = 139 then some (#[.int .i64 0, .int .i64 0]) else
 if ty = 141 then some (#[.int .i64 0]) else
 if ty = 143 then some (#[.int .i64 0, .int .i64 0, .int .i64 0]) else
 if ty = 144 then some (#[.int .i64 0, .int .i64 0, .int .i64 0]) else
 if ty = 38 then some (#[.int .i64 0, .int .i64 0, .int .i64 0, .int .i64 0]) else
 if ty = 41 then some (rgsC fun _ => 0) else
 if ty = 69 then some (#[.int .i64 0, .int .i64 0, .int .i64 0, .int .i64 0, .int .i64 0, .int .i64 0, .int .i64 0, .int .i64 0, .int .i64 0]) else
 if ty = 62 then some (#[.slice none 0 0, .int .i64 0, .int .i64 0, .int .i64 0, .int .i64 0, .int .i64 0, .int .i64 0, .int .i64 0, .int .i64 0, .int .i64 0, .int .i64 0, .int .i64 0, .int .i64 0, .int .i64 0, .int .i64 0, .int .i64 0, .int .i64 0]) else
 if ty = 209 then some (#[.slice none 0 0, .slice none 0 0, .slice none 0 0, .slice none 0 0, .slice none 0 0, .slice none 0 0]) else
 if ty = 148 then some (#[.int .i64 0, .int .i64 0, .int .i64 0]) else
 if ty = 150 then some (#[.int .i64 0, .int .i64 0]) else
 if ty = 152 then some (#[.int .i64 0, .int .i64 0]) else
 if ty = 178 then some (#[.slice none 0 0, .slice none 0 0, .slice none 0 0, .slice none 0 0]) else
 if ty = 82 then some (#[.slice none 0 0, .int .i64 0, .int .i64 0, .int .i64 0, .int .i64 0, .int .i64 0, .int .i64 0, .int .i64 0, .int .i64 0, .int .i64 0, .int .i64 0, .int .i64 0, .int .i64 0, .int .i64 0, .int .i64 0, .int .i64 0, .int .i64 0, .int .i64 0, .int .i64 0, .int .i64 0, .int .i64 0, .int .i64 0, .int .i64 0, .int .i64 0, .int .i64 0, .int .i64 0, .int .i64 0, .int .i64 0, .int .i64 0, .int .i64 0, .int .i64 0, .int .i64 0]) else
 none
theorem zeroT_of {ty : Nat} {z : Array Value} (h : zeroTab ty = some z) : (Tryz.prog.info? ty).map (·.zero) = some (some (.agg z)) := by
 unfold zeroTab at h
 repeat refine zrI h fun h => ?_
 cases h
def fldTab (ty f : Nat) : Option Nat :=
 if ty = 190 then (if f = 0 then some 0 else if f = 1 then some 1 else none) else
 if ty = 27 then (if f = 0 then some 0 else if f = 1 then some 1 else none) else
 if ty = 71 then (if f = 0 then some 0 else if f = 1 then some 1 else none) else
 if ty = 168 then (if f = 0 then some 0 else if f = 1 then some 1 else none) else
 if ty = 123 then (if f = 0 then some 0 else if f = 1 then some 1 else if f = 2 then some 2 else none) else
 if ty = 125 then (if f = 0 then some 0 else none) else
 if ty = 35 then (if f = 0 then some 0 else if f = 1 then some 1 else if f = 2 then some 2 else if f = 3 then some 3 else if f = 4 then some 4 else none) else
 if ty = 128 then (if f = 0 then some 0 else if f = 1 then some 1 else if f = 2 then some 2 else none) else
 if ty = 130 then (if f = 0 then some 0 else if f = 1 then some 1 else none) else
 if ty = 132 then (if f = 0 then some 0 else if f = 1 then some 1 else none) else
 if ty = 134 then (if f = 0 then some 0 else none) else
 if ty = 135 then (if f = 0 then some 0 else none) else
 if ty = 136 then (if f = 0 then some 0 else none) else
 if ty = 137 then (if f = 0 then some 0 else if f = 1 then some 1 else if f = 2 then some 2 else none) else
 if ty = 138 then (if f = 0 then some 0 else if f = 1 then some 1 else none) else
 if ty = 139 then (if f = 0 then some 0 else if f = 1 then some 1 else none) else
 if ty = 141 then (if f = 0 then some 0 else none) else
 if ty = 143 then (if f = 0 then some 0 else if f = 1 then some 1 else if f = 2 then some 2 else none) else
 if ty = 144 then (if f = 0 then some 0 else if f = 1 then some 1 else if f = 2 then some 2 else none) else
 if ty = 38 then (if f = 0 then some 0 else if f = 1 then some 1 else if f = 2 then some 2 else if f = 3 then some 3 else none) else
 if ty = 69 then (if f = 0 then some 0 else if f = 1 then some 1 else none) else
 if ty = 62 then (if f = 0 then some 0 else if f = 1 then some 1 else none) else
 if ty = 209 then (if f = 0 then some 0 else if f = 1 then some 3 else if f = 2 then some 4 else if f = 3 then some 5 else none) else
 if ty = 148 then (if f = 0 then some 0 else none) else
 if ty = 150 then (if f = 0 then some 0 else none) else
 if ty = 152 then (if f = 0 then some 0 else none) else
 if ty = 178 then (if f = 0 then some 0 else if f = 1 then some 1 else if f = 2 then some 2 else if f = 3 then some 3 else none) else
 if ty = 82 then (if f = 0 then some 0 else if f = 1 then some 1 else if f = 2 then some 9 else if f = 3 then some 25 else if f = 4 then some 26 else if f = 5 then some 27 else if f = 6 then some 28 else none) else
 none
theorem fldT_of {ty f k : Nat} (h : fldTab ty f = some k) : FldT Tryz.prog ty f k := by
 unfold fldTab at h
 refine ifI h (fun e q => ?_) fun h => ?_
 · subst e; clear h; repeat refine fdF Tryz.underlying190 q fun q => ?_
   cases q
 refine ifI h (fun e q => ?_) fun h => ?_
 · subst e; clear h; repeat refine fdF Tryz.underlying27 q fun q => ?_
   cases q
 refine ifI h (fun e q => ?_) fun h => ?_
 · subst e; clear h; repeat refine fdF Tryz.underlying71 q fun q => ?_
   cases q
 refine ifI h (fun e q => ?_) fun h => ?_
 · subst e; clear h; repeat refine fdF Tryz.underlying168 q fun q => ?_
   cases q
 refine ifI h (fun e q => ?_) fun h => ?_
 · subst e; clear h; repeat refine fdF Tryz.underlying123 q fun q => ?_
   cases q
 refine ifI h (fun e q => ?_) fun h => ?_
 · subst e; clear h; repeat refine fdF Tryz.underlying125 q fun q => ?_
   cases q
 refine ifI h (fun e q => ?_) fun h => ?_
 · subst e; clear h; repeat refine fdF Tryz.underlying35 q fun q => ?_
   cases q
 refine ifI h (fun e q => ?_) fun h => ?_
 · subst e; clear h; repeat refine fdF Tryz.underlying128 q fun q => ?_
   cases q
 refine ifI h (fun e q => ?_) fun h => ?_
 · subst e; clear h; repeat refine fdF Tryz.underlying130 q fun q => ?_
   cases q
 refine ifI h (fun e q => ?_) fun h => ?_
 · subst e; clear h; repeat refine fdF Tryz.underlying132 q fun q => ?_
   cases q
 refine ifI h (fun e q => ?_) fun h => ?_
 · subst e; clear h; repeat refine fdF Tryz.underlying134 q fun q => ?_
   cases q
 refine ifI h (fun e q => ?_) fun h => ?_
 · subst e; clear h; repeat refine fdF Tryz.underlying135 q fun q => ?_
   cases q
 refine ifI h (fun e q => ?_) fun h => ?_
 · subst e; clear h; repeat refine fdF Tryz.underlying136 q fun q => ?_
   cases q
 refine ifI h (fun e q => ?_) fun h => ?_
 · subst e; clear h; repeat refine fdF Tryz.underlying137 q fun q => ?_
   cases q
 refine ifI h (fun e q => ?_) fun h => ?_
 · subst e; clear h; repeat refine fdF Tryz.underlying138 q fun q => ?_
   cases q
 refine ifI h (fun e q => ?_) fun h => ?_
 · subst e; clear h; repeat refine fdF Tryz.underlying139 q fun q => ?_
   cases q
 refine ifI h (fun e q => ?_) fun h => ?_
 · subst e; clear h; repeat refine fdF Tryz.underlying141 q fun q => ?_
   cases q
 refine ifI h (fun e q => ?_) fun h => ?_
 · subst e; clear h; repeat refine fdF Tryz.underlying143 q fun q => ?_
   cases q
 refine ifI h (fun e q => ?_) fun h => ?_
 · subst e; clear h; repeat refine fdF Tryz.underlying144 q fun q => ?_
   cases q
 refine ifI h (fun e q => ?_) fun h => ?_
 · subst e; clear h; repeat refine fdF Tryz.underlying38 q fun q => ?_
   cases q
 refine ifI h (fun e q => ?_) fun h => ?_
 · subst e; clear h; repeat refine fdF Tryz.underlying69 q fun q => ?_
   cases q
 refine ifI h (fun e q => ?_) fun h => ?_
 · subst e; clear h; repeat refine fdF Tryz.underlying62 q fun q => ?_
   cases q
 refine ifI h (fun e q => ?_) fun h => ?_
 · subst e; clear h; repeat refine fdF Tryz.underlying209 q fun q => ?_
   cases q
 refine ifI h (fun e q => ?_) fun h => ?_
 · subst e; clear h; repeat refine fdF Tryz.underlying148 q fun q => ?_
   cases q
 refine ifI h (fun e q => ?_) fun h => ?_
 · subst e; clear h; repeat refine fdF Tryz.underlying150 q fun q => ?_
   cases q
 refine ifI h (fun e q => ?_) fun h => ?_
 · subst e; clear h; repeat refine fdF Tryz.underlying152 q fun q => ?_
   cases q
 refine ifI h (fun e q => ?_) fun h => ?_
 · subst e; clear h; repeat refine fdF Tryz.underlying178 q fun q => ?_
   cases q
 refine ifI h (fun e q => ?_) fun h => ?_
 · subst e; clear h; repeat refine fdF Tryz.underlying82 q fun q => ?_
   cases q
 cases h
def slcTab (ty : Nat) : Option Nat :=
 if ty = 58 then some 1 else
 if ty = 117 then some 1 else
 if ty = 120 then some 17 else
 if ty = 51 then some 17 else
 if ty = 36 then some 5 else
 if ty = 176 then some 1 else
 if ty = 175 then some 17 else
 if ty = 67 then some 9 else
 if ty = 46 then some 1 else
 none
theorem slcT_of {ty n : Nat} (h : slcTab ty = some n) : SlcT Tryz.prog ty n := by
 unfold slcTab at h
 refine slI Tryz.underlying58 h fun h => ?_
 refine slI Tryz.underlying117 h fun h => ?_
 refine slI Tryz.underlying120 h fun h => ?_
 refine slI Tryz.underlying51 h fun h => ?_
 refine slI Tryz.underlying36 h fun h => ?_
 refine slI Tryz.underlying176 h fun h => ?_
 refine slI Tryz.underlying175 h fun h => ?_
 refine slI Tryz.underlying67 h fun h => ?_
 refine slI Tryz.underlying46 h fun h => ?_
 cases h
def arrTab (ty : Nat) : Option (Nat × Nat) :=
 if ty = 29 then some (8, 2) else
 if ty = 41 then some (8, 1) else
 none
theorem arrT_of {ty len n : Nat} (h : arrTab ty = some (len, n)) : ArrT Tryz.prog ty len n := by
 unfold arrTab at h
 by_cases e : ty = 29
 · rw [if_pos e] at h; cases h; subst e; exact ⟨⟨_, Tryz.underlying29, by kernel_rfl⟩⟩
 rw [if_neg e] at h
 by_cases e : ty = 41
 · rw [if_pos e] at h; cases h; subst e; exact ⟨⟨_, Tryz.underlying41, by kernel_rfl⟩⟩
 rw [if_neg e] at h
 cases h
def mkTab (ty : Nat) : Option (Nat × Nat × Nat × Array Value) :=
 if ty = 117 then some (4, 1, 1, #[.bool false]) else
 if ty = 120 then some (190, 17, 136, plC false zeroS) else
 if ty = 51 then some (71, 17, 136, clC 0 zeroS) else
 if ty = 36 then some (35, 5, 40, #[.int .i64 0, .int .i64 0, .int .i64 0, .int .i64 0, .int .i64 0]) else
 if ty = 176 then some (3, 1, 8, #[.int .i64 0]) else
 if ty = 175 then some (168, 17, 136, plC false zeroS) else
 none
theorem mkT_of {ty e k b : Nat} {z : Array Value} (h : mkTab ty = some (e, k, b, z)) : MkT Tryz.prog ty e k b z := by
 unfold mkTab at h
 by_cases e : ty = 117
 · rw [if_pos e] at h; simp only [Option.some.injEq, Prod.mk.injEq] at h; obtain ⟨rfl, rfl, rfl, rfl⟩ := h; subst e; exact ⟨Tryz.underlying117, .bool false, by kernel_rfl, rfl, rfl⟩
 rw [if_neg e] at h
 by_cases e : ty = 120
 · rw [if_pos e] at h; simp only [Option.some.injEq, Prod.mk.injEq] at h; obtain ⟨rfl, rfl, rfl, rfl⟩ := h; subst e; exact ⟨Tryz.underlying120, .agg (plC false zeroS), by kernel_rfl, rfl, rfl⟩
 rw [if_neg e] at h
 by_cases e : ty = 51
 · rw [if_pos e] at h; simp only [Option.some.injEq, Prod.mk.injEq] at h; obtain ⟨rfl, rfl, rfl, rfl⟩ := h; subst e; exact ⟨Tryz.underlying51, .agg (clC 0 zeroS), by kernel_rfl, rfl, rfl⟩
 rw [if_neg e] at h
 by_cases e : ty = 36
 · rw [if_pos e] at h; simp only [Option.some.injEq, Prod.mk.injEq] at h; obtain ⟨rfl, rfl, rfl, rfl⟩ := h; subst e; exact ⟨Tryz.underlying36, .agg (#[.int .i64 0, .int .i64 0, .int .i64 0, .int .i64 0, .int .i64 0]), by kernel_rfl, rfl, rfl⟩
 rw [if_neg e] at h
 by_cases e : ty = 176
 · rw [if_pos e] at h; simp only [Option.some.injEq, Prod.mk.injEq] at h; obtain ⟨rfl, rfl, rfl, rfl⟩ := h; subst e; exact ⟨Tryz.underlying176, .int .i64 0, by kernel_rfl, rfl, rfl⟩
 rw [if_neg e] at h
 by_cases e : ty = 175
 · rw [if_pos e] at h; simp only [Option.some.injEq, Prod.mk.injEq] at h; obtain ⟨rfl, rfl, rfl, rfl⟩ := h; subst e; exact ⟨Tryz.underlying175, .agg (plC false zeroS), by kernel_rfl, rfl, rfl⟩
 rw [if_neg e] at h
 cases h
def asTab (ty : Nat) : Option Value :=
 if ty = 137 then some (.agg (#[.int .i64 0, .int .i64 0, .int .i64 0])) else
 if ty = 138 then some (.agg (#[.int .i64 0, .int .i64 0])) else
 if ty = 139 then some (.agg (#[.int .i64 0, .int .i64 0])) else
 if ty = 141 then some (.agg (#[.int .i64 0])) else
 if ty = 143 then some (.agg (#[.int .i64 0, .int .i64 0, .int .i64 0])) else
 if ty = 144 then some (.agg (#[.int .i64 0, .int .i64 0, .int .i64 0])) else
 none
theorem asI {P : Program} {ty t : Nat} {D : TypeDesc} {b : Option Value} {z y : Value} (u : P.underlying t = some D) (h : (if ty = t then some y else b) = some z) (r : b = some z -> AsT P ty z) (q : ∀ m, D ≠ .interface m := by intro m h; cases h) (k : (P.info? t).map (·.zero) = some (some y) := by kernel_rfl) : AsT P ty z :=
 ifI h (fun e q1 => by cases e; cases q1; exact ⟨⟨_, u, q⟩, k⟩) r
theorem asT_of {ty : Nat} {z : Value} (h : asTab ty = some z) : AsT Tryz.prog ty z := by
 unfold asTab at h
 refine asI Tryz.underlying137 h fun h => ?_
 refine asI Tryz.underlying138 h fun h => ?_
 refine asI Tryz.underlying139 h fun h => ?_
 refine asI Tryz.underlying141 h fun h => ?_
 refine asI Tryz.underlying143 h fun h => ?_
 refine asI Tryz.underlying144 h fun h => ?_
 cases h
end Go.Proofs.YtamiichlbmllcabGreatDoor
