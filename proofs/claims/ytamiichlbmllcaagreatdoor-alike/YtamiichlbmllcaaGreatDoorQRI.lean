import Derived.Test.YtamiichlbmllcaaGreatDoorQStA
import Derived.WalkKit
import Derived.Laws.BitsAllLaws
import Derived.Test.YtamiichlbmllcaaGreatDoorQRight
import Derived.Lib.Strings
/-
  States: contracts of ranges.stateLiesIn and With.
-/
namespace Go.Proofs.YtamiichlbmllcaaGreatDoor
open Go.RowKit
theorem stC_get (s : Nat → R2) (n : Nat) (hn : n < 8) : (stC s)[n * 2]? = some (.int .i64 (s n).lo) ∧ (stC s)[n * 2 + 1]? = some (.int .i64 (s n).hi) := by
  match n, hn with
  | 0, _ => exact ⟨rfl, rfl⟩
  | 1, _ => exact ⟨rfl, rfl⟩
  | 2, _ => exact ⟨rfl, rfl⟩
  | 3, _ => exact ⟨rfl, rfl⟩
  | 4, _ => exact ⟨rfl, rfl⟩
  | 5, _ => exact ⟨rfl, rfl⟩
  | 6, _ => exact ⟨rfl, rfl⟩
  | 7, _ => exact ⟨rfl, rfl⟩
  | n + 8, h => omega
def liesR (s t : Nat → R2) : Bool := (List.range 8).all fun i => inRg (s i) (t i)
theorem liesR_yes {s t : Nat → R2} (h : ∀ i, i < 8 → inRg (s i) (t i) = true) : liesR s t = true := by
  unfold liesR; rw [List.all_eq_true]; intro i hi; exact h i (List.mem_range.1 hi)
theorem liesR_no {s t : Nat → R2} {n : Nat} (hn : n < 8) (h : inRg (s n) (t n) = false) : liesR s t = false := by
  unfold liesR; rw [List.all_eq_false]; exact ⟨n, List.mem_range.2 hn, by simp [h]⟩
set_option maxHeartbeats 2000000 in
set_option maxRecDepth 100000 in
theorem stateLies_any (s t : Nat → R2) (w : World) : Calls Tryz.prog 151 #[.agg (stC s), .agg (stC t)] w fun e w' => e = .returned (.bool (liesR s t)) ∧ Below w.heap.size w w' := by
  have HI := hide (idx_st s)
  have HST : Hid (stC s = #[.int .i64 (s 0).lo, .int .i64 (s 0).hi, .int .i64 (s 1).lo, .int .i64 (s 1).hi, .int .i64 (s 2).lo, .int .i64 (s 2).hi, .int .i64 (s 3).lo, .int .i64 (s 3).hi, .int .i64 (s 4).lo, .int .i64 (s 4).hi, .int .i64 (s 5).lo, .int .i64 (s 5).hi, .int .i64 (s 6).lo, .int .i64 (s 6).hi, .int .i64 (s 7).lo, .int .i64 (s 7).hi]) := hide rfl
  have HTT : Hid (stC t = #[.int .i64 (t 0).lo, .int .i64 (t 0).hi, .int .i64 (t 1).lo, .int .i64 (t 1).hi, .int .i64 (t 2).lo, .int .i64 (t 2).hi, .int .i64 (t 3).lo, .int .i64 (t 3).hi, .int .i64 (t 4).lo, .int .i64 (t 4).hi, .int .i64 (t 5).lo, .int .i64 (t 5).hi, .int .i64 (t 6).lo, .int .i64 (t 6).hi, .int .i64 (t 7).lo, .int .i64 (t 7).hi]) := hide rfl
  rw [HST.out, HTT.out]
  go_enter Tryz.func151, Tryz.ntmps151
  go_wp2_with fail
  rw [← HST.out, ← HTT.out]
  have hH : ((w.alloc (.cells (stC s) 30)).alloc (.cells (stC t) 30)).heap[w.heap.size + 1]? = some (.cells (stC t) 30 (0, 0)) := by
    have := heap_alloc_new (w.alloc (.cells (stC s) 30)) (.cells (stC t) 30)
    simpa using this
  have hb0 : Below w.heap.size w ((w.alloc (.cells (stC s) 30)).alloc (.cells (stC t) 30)) := (belA1 _ _).alloc (by simp) _
  generalize (w.alloc (.cells (stC s) 30)).alloc (.cells (stC t) 30) = w1 at *
  have hlt1 := lt_of_block hH
  have HH := hide hH
  have HB0 := hide hb0
  clear hH hb0
  go_loopw [8] (fun j wr => ∃ n : Nat, n ≤ 8 ∧ j = .int .i64 n ∧ (∀ i, i < n → inRg (s i) (t i) = true) ∧ Below w1.heap.size w1 wr) (fun j _ => 8 - (intOf j).toNat)
  case atStart => exact ⟨0, by omega, rfl, fun i hi => by omega, Below.refl _ _⟩
  case round =>
    obtain ⟨n, hn, rfl, hall, hbl⟩ := hrel
    have HA := hide hall
    have hzr := hbl.size
    clear hall
    by_cases hlt : n < 8
    · have hx := HI.out n hlt
      have c0 : wr.cell? ⟨w.heap.size + 1, n * 2, none⟩ = some (.int .i64 (t n).lo) := by rw [hbl.cell (p := ⟨w.heap.size + 1, _, none⟩) hlt1, cell_of_row _ _ _ _ _ _ HH.out]; exact (stC_get t n hlt).1
      have c1 : wr.cell? ⟨w.heap.size + 1, n * 2 + 1, none⟩ = some (.int .i64 (t n).hi) := by rw [hbl.cell (p := ⟨w.heap.size + 1, _, none⟩) hlt1, cell_of_row _ _ _ _ _ _ HH.out]; exact (stC_get t n hlt).2
      have hltr : w.heap.size + 1 < wr.heap.size := by omega
      have HBR := hide (HB0.out.trans (hbl.mono HB0.out.size))
      have HBL := hide hbl
      clear hbl
      have HL : Hid (∀ wx, Calls Tryz.prog 152 #[.agg #[.int .i64 (s n).lo, .int .i64 (s n).hi], .agg #[.int .i64 (t n).lo, .int .i64 (t n).hi]] wx fun e w' => e = .returned (.bool (inRg (s n) (t n))) ∧ Below wx.heap.size wx w') := hide (fun wx => liesIn_any (s n) (t n) wx)
      have HX : Hid (∀ w2, Below (wr.alloc (.cells #[.int .i64 (s n).lo, .int .i64 (s n).hi] 28)).drew.heap.size (wr.alloc (.cells #[.int .i64 (s n).lo, .int .i64 (s n).hi] 28)).drew w2 → w2.cell? ⟨wr.heap.size, 0, none⟩ = some (.int .i64 (s n).lo) ∧ w2.cell? ⟨wr.heap.size, 1, none⟩ = some (.int .i64 (s n).hi) ∧ w2.cell? ⟨w.heap.size + 1, n * 2, none⟩ = some (.int .i64 (t n).lo) ∧ w2.cell? ⟨w.heap.size + 1, n * 2 + 1, none⟩ = some (.int .i64 (t n).hi) ∧ Below w1.heap.size w1 w2) := hide (fun w2 hb => by
        have hb3 : Below wr.heap.size wr w2 := ((belA1 _ _).drew).trans (hb.mono (by simp))
        refine ⟨?_, ?_, ?_, ?_, HBL.out.trans (hb3.mono hzr)⟩
        · rw [hb.cell (p := ⟨wr.heap.size, 0, none⟩) (by simp)]; simp [go_sem]
        · rw [hb.cell (p := ⟨wr.heap.size, 1, none⟩) (by simp)]; simp [go_sem]
        · rw [hb3.cell (p := ⟨w.heap.size + 1, _, none⟩) hltr]; exact c0
        · rw [hb3.cell (p := ⟨w.heap.size + 1, _, none⟩) hltr]; exact c1)
      have hni : (0 : Int) ≤ (n : Int) := by omega
      have hnj : (n : Int) < 8 := by omega
      cases he : inRg (s n) (t n)
      · have HE : Hid (liesR s t = false) := hide (liesR_no hlt he)
        have HEE := hide he
        clear he
        go_wp2_with fail
        go_region_held3 (fun w' => w'.cell? ⟨wr.heap.size, 0, none⟩ = some (.int .i64 (s n).lo) ∧ w'.cell? ⟨wr.heap.size, 1, none⟩ = some (.int .i64 (s n).hi) ∧ w'.cell? ⟨w.heap.size + 1, n * 2, none⟩ = some (.int .i64 (t n).lo) ∧ w'.cell? ⟨w.heap.size + 1, n * 2 + 1, none⟩ = some (.int .i64 (t n).hi)) (go_keep) (first
          | (go_at_call 152; refine (HL.out _).mono ?_; rintro e w2 ⟨rfl, hb2⟩; rw [HEE.out]; obtain ⟨p0, p1, p2, p3, hb4⟩ := HX.out w2 hb2; have HB4 := hide hb4; clear hb2 hb4))
        go_wp2
        go_ret
        exact ⟨ret_bool HE.out.symm, HB0.out.trans (HB4.out.mono HB0.out.size)⟩
      · have HEE := hide he
        clear he
        go_wp2_with fail
        go_region_held3 (fun w' => w'.cell? ⟨wr.heap.size, 0, none⟩ = some (.int .i64 (s n).lo) ∧ w'.cell? ⟨wr.heap.size, 1, none⟩ = some (.int .i64 (s n).hi) ∧ w'.cell? ⟨w.heap.size + 1, n * 2, none⟩ = some (.int .i64 (t n).lo) ∧ w'.cell? ⟨w.heap.size + 1, n * 2 + 1, none⟩ = some (.int .i64 (t n).hi)) (go_keep) (first
          | (go_at_call 152; refine (HL.out _).mono ?_; rintro e w2 ⟨rfl, hb2⟩; rw [HEE.out]; obtain ⟨p0, p1, p2, p3, hb4⟩ := HX.out w2 hb2; have HB4 := hide hb4; clear hb2 hb4))
        go_wp2
        exact ⟨⟨n + 1, by omega, by go_num, fun i hi => by rcases Nat.lt_succ_iff_lt_or_eq.1 hi with h | h; exact HA.out i h; subst h; exact HEE.out, HB4.out⟩, by simp [intOf]; omega⟩
    · have HE : Hid (liesR s t = true) := hide (liesR_yes fun i hi => HA.out i (by omega))
      go_wp2
      go_ret
      exact ⟨ret_bool HE.out.symm, HB0.out.trans (hbl.mono HB0.out.size)⟩
end Go.Proofs.YtamiichlbmllcaaGreatDoor
/-
  Plain facts on bytes and numbers: a number of several bytes, the low one first.
-/
namespace Go.Proofs.YtamiichlbmllcaaGreatDoor
open Go.RowKit
/-- the low one first -/
def leNat : List UInt8 → Nat
  | [] => 0
  | b :: r => b.toNat + 256 * leNat r
theorem leNat_snoc (l : List UInt8) (b : UInt8) : leNat (l ++ [b]) = leNat l + 256 ^ l.length * b.toNat := by
  induction l with
  | nil => simp [leNat]
  | cons x r ih => simp only [List.cons_append, leNat, ih, List.length_cons, Nat.pow_succ, Nat.mul_add]; rw [Nat.mul_comm (256 ^ r.length) 256, Nat.mul_assoc]; omega
theorem leNat_lt (l : List UInt8) : leNat l < 256 ^ l.length := by
  induction l with
  | nil => simp [leNat]
  | cons x r ih => simp only [leNat, List.length_cons, Nat.pow_succ]; have := x.toNat_lt; omega
theorem pow_lt8 {j : Nat} (h : j < 8) : 256 ^ j * 256 ≤ 18446744073709551616 := by
  have : j = 0 ∨ j = 1 ∨ j = 2 ∨ j = 3 ∨ j = 4 ∨ j = 5 ∨ j = 6 ∨ j = 7 := by omega
  rcases this with rfl | rfl | rfl | rfl | rfl | rfl | rfl | rfl <;> decide
theorem take_snoc (s : ByteArray) (k : Nat) (h : k < s.size) : s.data.toList.take (k + 1) = s.data.toList.take k ++ [s[k]] := by
  rw [List.take_succ_eq_append_getElem (by simpa using h)]; rfl
theorem take_len (s : ByteArray) (k : Nat) (h : k ≤ s.size) : (s.data.toList.take k).length = k := by
  rw [List.length_take]; have : s.data.toList.length = s.size := by rw [Array.length_toList]; rfl
  omega
theorem u64_step (a b j : Nat) (hj : j < 8) (ha : a < 256 ^ j) (hb : b < 256) :
    bits .or .u64 (a : Int) (IntKind.u64.wrap (IntKind.u64.wrap (b : Int) * 2 ^ (8 * j))) = ((a + 256 ^ j * b : Nat) : Int) := by
  have hp := pow_lt8 hj
  have e2 : (2 : Nat) ^ (8 * j) = 256 ^ j := by rw [Nat.pow_mul]
  have hbj : 256 ^ j * b < 18446744073709551616 := Nat.lt_of_lt_of_le ((Nat.mul_lt_mul_left (Nat.pow_pos (by omega))).2 hb) hp
  have e1 : IntKind.u64.wrap (b : Int) = (b : Int) := by rw [IntKind.wrap_u64]; omega
  have e3 : (b : Int) * 2 ^ (8 * j) = ((256 ^ j * b : Nat) : Int) := by
    have : ((2 : Int) ^ (8 * j)) = (((2 : Nat) ^ (8 * j) : Nat) : Int) := by simp
    rw [this, e2, Int.mul_comm]; rfl
  have e4 : IntKind.u64.wrap ((256 ^ j * b : Nat) : Int) = ((256 ^ j * b : Nat) : Int) := by rw [IntKind.wrap_u64]; omega
  rw [e1, e3, e4, u64_or_nat _ _ (by omega) hbj]
  have h := Nat.two_pow_add_eq_or_of_lt (i := 8 * j) (b := a) (by rw [e2]; exact ha) b
  rw [e2] at h
  rw [Nat.or_comm, ← h, Nat.add_comm]
theorem leNat_step (s : ByteArray) (j : Nat) (hs : s.size ≤ 8) (h : j < s.size) :
    bits .or .u64 (leNat (s.data.toList.take j) : Int) (IntKind.u64.wrap (IntKind.u64.wrap (s[j].toNat : Int) * 2 ^ (8 * j))) = (leNat (s.data.toList.take (j + 1)) : Int) := by
  have hl := take_len s j (by omega)
  have := leNat_lt (s.data.toList.take j)
  rw [hl] at this
  rw [u64_step _ _ j (by omega) this s[j].toNat_lt, take_snoc s j h, leNat_snoc, hl]
end Go.Proofs.YtamiichlbmllcaaGreatDoor
/-
  The contract of code.readNumber, for every string of at most eight bytes.
-/
namespace Go.Proofs.YtamiichlbmllcaaGreatDoor
open Go.RowKit
theorem ret_int {k : IntKind} {a b : Int} (h : a = b) : Ending.returned (.int k a) = .returned (.int k b) := by rw [h]
set_option maxHeartbeats 400000 in
theorem readNumber_any (s : ByteArray) (w : World) (hs : s.size ≤ 8) :
    Calls Tryz.prog 130 #[.string s] w fun e w' => e = .returned (.int .i64 (wrap64 (leNat s.data.toList))) ∧ w' = w := by
  go_enter Tryz.func130, Tryz.ntmps130
  go_wp2
  go_loop [3, 7] (fun k i => ∃ j : Nat, j ≤ s.size ∧ i = .int .i64 j ∧ k = .int .u64 (leNat (s.data.toList.take j))) (fun _ i => s.size - (intOf i).toNat)
  case atStart => exact ⟨0, by omega, rfl, rfl⟩
  case round =>
    obtain ⟨j, hj, rfl, rfl⟩ := hrel
    by_cases hlt : j < s.size
    · have R := hide (leNat_step s j hs hlt)
      go_wp2
      exact ⟨⟨j + 1, by omega, by go_num, by rw [R.out]⟩, by simp [intOf]; omega⟩
    · have R : Hid (s.data.toList.take j = s.data.toList) := hide (List.take_of_length_le (by rw [Array.length_toList]; show s.size ≤ j; omega))
      go_wp2
      go_ret
      exact ⟨ret_int (by rw [R.out]), rfl⟩
end Go.Proofs.YtamiichlbmllcaaGreatDoor
/-
  The contract of code.readInstruction, for every string.
-/
namespace Go.Proofs.YtamiichlbmllcaaGreatDoor
open Go.RowKit
def noIns : Value := .tuple #[.agg #[.int .i64 0, .int .i64 0, .int .i64 0, .int .i64 0, .int .i64 0], .int .i64 0]
theorem wb (b : UInt8) : wrap64 (b.toNat : Int) = b.toNat := by have := b.toNat_lt; unfold wrap64; omega
theorem empty_yes {s : ByteArray} (h : s.size = 0) : s.toList.isEmpty = true := by
  rw [Lib.toList_data, List.isEmpty_iff_length_eq_zero, Array.length_toList]; exact h
theorem empty_no {s : ByteArray} (h : 0 < s.size) : s.toList.isEmpty = false := by
  rw [Lib.toList_data, ← Bool.not_eq_true, List.isEmpty_iff_length_eq_zero, Array.length_toList]; have : s.data.size = s.size := rfl; omega
set_option maxHeartbeats 400000 in
theorem readIns_empty (s : ByteArray) (w : World) (hs : s.size = 0) :
    Calls Tryz.prog 123 #[.string s] w fun e w' => e = .returned noIns ∧ Below w.heap.size w w' := by
  have hd := empty_yes hs
  go_enter Tryz.func123, Tryz.ntmps123
  go_wp2
  exact bodyPost_ret (v := noIns) (by simp [results, Tryz.results123, go_sem, noIns]) rfl ⟨rfl, (Below.refl _ _).alloc (Nat.le_refl _) _⟩
set_option maxHeartbeats 400000 in
theorem readIns_big (s : ByteArray) (w : World) (hs : 0 < s.size) (h1 : 12 ≤ s[0].toNat) :
    Calls Tryz.prog 123 #[.string s] w fun e w' => e = .returned noIns ∧ Below w.heap.size w w' := by
  have hd := empty_no hs
  have hwb := wb
  go_enter Tryz.func123, Tryz.ntmps123
  go_wp2
  exact bodyPost_ret (v := noIns) (by simp [results, Tryz.results123, go_sem, noIns]) rfl ⟨rfl, (Below.refl _ _).alloc (Nat.le_refl _) _⟩
set_option maxHeartbeats 400000 in
theorem readIns_short (s : ByteArray) (nr kb : Nat) (w : World) (hs : 0 < s.size) (h1 : s[0].toNat < 12) (hz : 0 < w.heap.size) (_h3 : nr ≤ 3) (_h8 : kb ≤ 8)
    (c2 : w.cell? ⟨0, s[0].toNat * 3 + 2, none⟩ = some (.int .i64 (1 + nr + kb))) (hlt : s.size < 1 + nr + kb) :
    Calls Tryz.prog 123 #[.string s] w fun e w' => e = .returned noIns ∧ Below w.heap.size w w' := by
  have hd := empty_no hs
  have hwb := wb
  go_enter Tryz.func123, Tryz.ntmps123
  go_wp2
  exact bodyPost_ret (v := noIns) (by simp [results, Tryz.results123, go_sem, noIns]) rfl ⟨rfl, (Below.refl _ _).alloc (Nat.le_refl _) _⟩
def byteAt (s : ByteArray) (i : Nat) : Int := ((s.data.toList.getD i 0).toNat : Int)
theorem byteAt_eq (s : ByteArray) (i : Nat) (h : i < s.size) : byteAt s i = (s[i].toNat : Int) := by
  unfold byteAt; simp only [List.getD_eq_getElem?_getD]; rw [List.getElem?_eq_getElem (by rw [Array.length_toList]; exact h)]; rfl
def regAt (s : ByteArray) (nr j : Nat) : Int := if j < nr then byteAt s (1 + j) else 0
theorem regAt_new (s : ByteArray) (j : Nat) (h : 1 + j < s.size) : (s[1 + j].toNat : Int) = regAt s (j + 1) j := by rw [regAt, if_pos (by omega), byteAt_eq s (1 + j) h]
theorem regAt_succ (s : ByteArray) (i j : Nat) (h : i ≠ j) : regAt s (j + 1) i = regAt s j i := by
  unfold regAt; by_cases h2 : i < j
  · rw [if_pos h2, if_pos (by omega)]
  · rw [if_neg h2, if_neg (by omega)]
set_option maxHeartbeats 400000 in
theorem readIns_yes (s : ByteArray) (nr kb : Nat) (w : World) (hs : 0 < s.size) (h1 : s[0].toNat < 12) (hz : 0 < w.heap.size) (h3 : nr ≤ 3) (h8 : kb ≤ 8)
    (c0 : w.cell? ⟨0, s[0].toNat * 3, none⟩ = some (.int .i64 nr)) (c1 : w.cell? ⟨0, s[0].toNat * 3 + 1, none⟩ = some (.int .i64 kb))
    (c2 : w.cell? ⟨0, s[0].toNat * 3 + 2, none⟩ = some (.int .i64 (1 + nr + kb))) (hge : 1 + nr + kb ≤ s.size) :
    Calls Tryz.prog 123 #[.string s] w fun e w' => e = .returned (.tuple #[.agg #[.int .i64 s[0].toNat, .int .i64 (regAt s nr 0), .int .i64 (regAt s nr 1), .int .i64 (regAt s nr 2), .int .i64 (wrap64 (leNat ((s.data.toList.drop (1 + nr)).take kb)))], .int .i64 (1 + nr + kb)]) ∧ Below w.heap.size w w' := by
  have hd := empty_no hs
  have hwb := wb
  go_enter Tryz.func123, Tryz.ntmps123
  go_wp2
  go_loopw [34] (fun i w' => ∃ (j : Nat) (x0 x1 x2 : Int), j ≤ nr ∧ i = .int .i64 j ∧ x0 = regAt s j 0 ∧ x1 = regAt s j 1 ∧ x2 = regAt s j 2 ∧
    w' = (w.alloc (.cells #[.int .i64 0, .int .i64 0, .int .i64 0, .int .i64 0, .int .i64 0] 62)).alloc (.cells #[.int .i64 x0, .int .i64 x1, .int .i64 x2] 167)) (fun i _ => nr - (intOf i).toNat)
  case atStart => exact ⟨0, 0, 0, 0, by omega, rfl, rfl, rfl, rfl, rfl⟩
  case round =>
    obtain ⟨j, x0, x1, x2, hj, rfl, hx0, hx1, hx2, rfl⟩ := hrel
    replace hx0 := hide hx0
    replace hx1 := hide hx1
    replace hx2 := hide hx2
    by_cases hlt : j < nr
    · have hb := hide (regAt_new s j (by omega))
      match j, hj, hlt, hx0, hx1, hx2, hb with
      | 0, _, hlt, hx0, hx1, hx2, hb =>
        go_wp2
        go_roundw
        case rel => exact ⟨1, _, _, _, by omega, rfl, hb.out, hx1.out.trans (regAt_succ s 1 0 (by omega)).symm, hx2.out.trans (regAt_succ s 2 0 (by omega)).symm, rfl⟩
        case measure => simp [intOf]; omega
      | 1, _, hlt, hx0, hx1, hx2, hb =>
        go_wp2
        go_roundw
        case rel => exact ⟨2, _, _, _, by omega, rfl, hx0.out.trans (regAt_succ s 0 1 (by omega)).symm, hb.out, hx2.out.trans (regAt_succ s 2 1 (by omega)).symm, rfl⟩
        case measure => simp [intOf]; omega
      | 2, _, hlt, hx0, hx1, hx2, hb =>
        go_wp2
        go_roundw
        case rel => exact ⟨3, _, _, _, by omega, rfl, hx0.out.trans (regAt_succ s 0 2 (by omega)).symm, hx1.out.trans (regAt_succ s 1 2 (by omega)).symm, hb.out, rfl⟩
        case measure => simp [intOf]; omega
      | j + 3, _, hlt, _, _, _, _ => omega
    · have ej : j = nr := by omega
      subst ej
      have R := hide (Lib.extract_data s (1 + j) (1 + j + kb))
      rw [show 1 + j + kb - (1 + j) = kb by omega] at R
      have hz8 : (s.extract (1 + j) (1 + j + kb)).size ≤ 8 := by rw [ByteArray.size_extract]; omega
      go_wp2_with (go_at_call 130; refine (readNumber_any _ _ hz8).mono ?_; rintro e w' ⟨rfl, rfl⟩; rw [R.out])
      refine bodyPost_ret (v := .tuple #[.agg #[.int .i64 s[0].toNat, .int .i64 x0, .int .i64 x1, .int .i64 x2, .int .i64 (wrap64 (leNat ((s.data.toList.drop (1 + j)).take kb)))], .int .i64 (1 + j + kb)]) (by simp [results, Tryz.results123, go_sem]) rfl ⟨?_, ((Below.refl _ _).alloc (Nat.le_refl _) _).alloc (by simp) _⟩
      rw [hx0.out, hx1.out, hx2.out]
def nrN (o : Nat) : Nat := (nregs o).toNat
def kbN (o : Nat) : Nat := (kbytes o).toNat
theorem nrN_eq (o : Nat) : ((nrN o : Nat) : Int) = nregs o := by have := nregs_bd o; unfold nrN; omega
theorem kbN_eq (o : Nat) : ((kbN o : Nat) : Int) = kbytes o := by have := kb_three o; unfold kbN; omega
theorem nrN_le (o : Nat) : nrN o ≤ 3 := by have := nregs_bd o; unfold nrN; omega
theorem kbN_le (o : Nat) : kbN o ≤ 8 := by have := kb_three o; unfold kbN; omega
def regL (l : List UInt8) (nr j : Nat) : Int := if j < nr then ((l.getD (1 + j) 0).toNat : Int) else 0
/-- the first instruction of these bytes, and how many it has -/
def readI (l : List UInt8) : Option (I5 × Nat) :=
  match l with
  | [] => none
  | b :: _ => if 12 ≤ b.toNat then none else if l.length < 1 + nrN b.toNat + kbN b.toNat then none else
    some (⟨b.toNat, regL l (nrN b.toNat) 0, regL l (nrN b.toNat) 1, regL l (nrN b.toNat) 2, wrap64 (leNat ((l.drop (1 + nrN b.toNat)).take (kbN b.toNat)))⟩, 1 + nrN b.toNat + kbN b.toNat)
def readVal : Option (I5 × Nat) → Value
  | none => noIns
  | some (i, n) => .tuple #[i.val, .int .i64 n]
theorem readIns_any (s : ByteArray) (w : World) (hs : Shapes w) :
    Calls Tryz.prog 123 #[.string s] w fun e w' => e = .returned (readVal (readI s.data.toList)) ∧ Below w.heap.size w w' := by
  by_cases h0 : s.size = 0
  · have e : s.data.toList = [] := List.eq_nil_of_length_eq_zero (by rw [Array.length_toList]; exact h0)
    rw [e]
    exact readIns_empty s w h0
  · have hp : 0 < s.size := by omega
    have hlen : s.data.toList.length = s.size := by rw [Array.length_toList]; rfl
    have hcons : s.data.toList = s[0] :: s.data.toList.tail := by
      have : s.data.toList ≠ [] := fun e => by rw [e] at hlen; simp at hlen; omega
      rw [← List.cons_head_tail this]
      have h2 : s.data.toList.head this = s[0] := by rw [List.head_eq_getElem]; rfl
      rw [h2]; rfl
    by_cases h1 : 12 ≤ s[0].toNat
    · have R : readI s.data.toList = none := by rw [hcons]; simp only [readI]; rw [if_pos h1]
      rw [R]
      exact readIns_big s w hp h1
    · have hc := hs.2 (s[0].toNat) (by omega) (by omega)
      rw [← nrN_eq, ← kbN_eq, Int.toNat_natCast] at hc
      obtain ⟨c0, c1, c2⟩ := hc
      by_cases h2 : s.size < 1 + nrN s[0].toNat + kbN s[0].toNat
      · have R : readI s.data.toList = none := by rw [hcons]; simp only [readI]; rw [if_neg h1, ← hcons, hlen, if_pos h2]
        rw [R]
        exact readIns_short s _ _ w hp (by omega) hs.1 (nrN_le _) (kbN_le _) c2 h2
      · have R : readI s.data.toList = some (⟨s[0].toNat, regL s.data.toList (nrN s[0].toNat) 0, regL s.data.toList (nrN s[0].toNat) 1, regL s.data.toList (nrN s[0].toNat) 2, wrap64 (leNat ((s.data.toList.drop (1 + nrN s[0].toNat)).take (kbN s[0].toNat)))⟩, 1 + nrN s[0].toNat + kbN s[0].toNat) := by
          rw [hcons]; simp only [readI]; rw [if_neg h1, ← hcons, hlen, if_neg h2]
        rw [R]
        exact readIns_yes s _ _ w hp (by omega) hs.1 (nrN_le _) (kbN_le _) c0 c1 c2 (by omega)
end Go.Proofs.YtamiichlbmllcaaGreatDoor
