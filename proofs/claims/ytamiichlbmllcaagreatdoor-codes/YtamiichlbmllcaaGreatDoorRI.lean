/-
  The contract of code.readInstruction, for every string.
-/
import Derived.Test.YtamiichlbmllcaaGreatDoorNum
import Derived.Lib.Strings
namespace Go.Proofs.YtamiichlbmllcaaGreatDoor
open Go.RowKit
def noIns : Value := .tuple #[.agg #[.int .i64 0, .int .i64 0, .int .i64 0, .int .i64 0, .int .i64 0], .int .i64 0]
theorem wb (b : UInt8) : wrap64 (b.toNat : Int) = b.toNat := by have := b.toNat_lt; unfold wrap64; omega
theorem empty_yes {s : ByteArray} (h : s.size = 0) : s.toList.isEmpty = true := by
  rw [Lib.toList_data, List.isEmpty_iff_length_eq_zero, Array.length_toList]; exact h
theorem empty_no {s : ByteArray} (h : 0 < s.size) : s.toList.isEmpty = false := by
  rw [Lib.toList_data, ← Bool.not_eq_true, List.isEmpty_iff_length_eq_zero, Array.length_toList]; have : s.data.size = s.size := rfl; omega
set_option maxHeartbeats 400000 in
theorem readIns_empty (s : ByteArray) (w : World) (hs : s.size = 0) :
    Calls Tryz.prog 123 #[.string s] w fun e w' => e = .returned noIns ∧ Below w.heap.size w w' := by
  have hd := empty_yes hs
  go_enter Tryz.func123, Tryz.ntmps123
  go_wp2
  exact bodyPost_ret (v := noIns) (by simp [results, Tryz.results123, go_sem, noIns]) rfl ⟨rfl, (Below.refl _ _).alloc (Nat.le_refl _) _⟩
set_option maxHeartbeats 400000 in
theorem readIns_big (s : ByteArray) (w : World) (hs : 0 < s.size) (h1 : 12 ≤ s[0].toNat) :
    Calls Tryz.prog 123 #[.string s] w fun e w' => e = .returned noIns ∧ Below w.heap.size w w' := by
  have hd := empty_no hs
  have hwb := wb
  go_enter Tryz.func123, Tryz.ntmps123
  go_wp2
  exact bodyPost_ret (v := noIns) (by simp [results, Tryz.results123, go_sem, noIns]) rfl ⟨rfl, (Below.refl _ _).alloc (Nat.le_refl _) _⟩
set_option maxHeartbeats 400000 in
theorem readIns_short (s : ByteArray) (nr kb : Nat) (w : World) (hs : 0 < s.size) (h1 : s[0].toNat < 12) (hz : 0 < w.heap.size) (_h3 : nr ≤ 3) (_h8 : kb ≤ 8)
    (c2 : w.cell? ⟨0, s[0].toNat * 3 + 2, none⟩ = some (.int .i64 (1 + nr + kb))) (hlt : s.size < 1 + nr + kb) :
    Calls Tryz.prog 123 #[.string s] w fun e w' => e = .returned noIns ∧ Below w.heap.size w w' := by
  have hd := empty_no hs
  have hwb := wb
  go_enter Tryz.func123, Tryz.ntmps123
  go_wp2
  exact bodyPost_ret (v := noIns) (by simp [results, Tryz.results123, go_sem, noIns]) rfl ⟨rfl, (Below.refl _ _).alloc (Nat.le_refl _) _⟩
def byteAt (s : ByteArray) (i : Nat) : Int := ((s.data.toList.getD i 0).toNat : Int)
theorem byteAt_eq (s : ByteArray) (i : Nat) (h : i < s.size) : byteAt s i = (s[i].toNat : Int) := by
  unfold byteAt; simp only [List.getD_eq_getElem?_getD]; rw [List.getElem?_eq_getElem (by rw [Array.length_toList]; exact h)]; rfl
def regAt (s : ByteArray) (nr j : Nat) : Int := if j < nr then byteAt s (1 + j) else 0
theorem regAt_new (s : ByteArray) (j : Nat) (h : 1 + j < s.size) : (s[1 + j].toNat : Int) = regAt s (j + 1) j := by rw [regAt, if_pos (by omega), byteAt_eq s (1 + j) h]
theorem regAt_succ (s : ByteArray) (i j : Nat) (h : i ≠ j) : regAt s (j + 1) i = regAt s j i := by
  unfold regAt; by_cases h2 : i < j
  · rw [if_pos h2, if_pos (by omega)]
  · rw [if_neg h2, if_neg (by omega)]
set_option maxHeartbeats 400000 in
theorem readIns_yes (s : ByteArray) (nr kb : Nat) (w : World) (hs : 0 < s.size) (h1 : s[0].toNat < 12) (hz : 0 < w.heap.size) (h3 : nr ≤ 3) (h8 : kb ≤ 8)
    (c0 : w.cell? ⟨0, s[0].toNat * 3, none⟩ = some (.int .i64 nr)) (c1 : w.cell? ⟨0, s[0].toNat * 3 + 1, none⟩ = some (.int .i64 kb))
    (c2 : w.cell? ⟨0, s[0].toNat * 3 + 2, none⟩ = some (.int .i64 (1 + nr + kb))) (hge : 1 + nr + kb ≤ s.size) :
    Calls Tryz.prog 123 #[.string s] w fun e w' => e = .returned (.tuple #[.agg #[.int .i64 s[0].toNat, .int .i64 (regAt s nr 0), .int .i64 (regAt s nr 1), .int .i64 (regAt s nr 2), .int .i64 (wrap64 (leNat ((s.data.toList.drop (1 + nr)).take kb)))], .int .i64 (1 + nr + kb)]) ∧ Below w.heap.size w w' := by
  have hd := empty_no hs
  have hwb := wb
  go_enter Tryz.func123, Tryz.ntmps123
  go_wp2
  go_loopw [34] (fun i w' => ∃ (j : Nat) (x0 x1 x2 : Int), j ≤ nr ∧ i = .int .i64 j ∧ x0 = regAt s j 0 ∧ x1 = regAt s j 1 ∧ x2 = regAt s j 2 ∧
    w' = (w.alloc (.cells #[.int .i64 0, .int .i64 0, .int .i64 0, .int .i64 0, .int .i64 0] 62)).alloc (.cells #[.int .i64 x0, .int .i64 x1, .int .i64 x2] 167)) (fun i _ => nr - (intOf i).toNat)
  case atStart => exact ⟨0, 0, 0, 0, by omega, rfl, rfl, rfl, rfl, rfl⟩
  case round =>
    obtain ⟨j, x0, x1, x2, hj, rfl, hx0, hx1, hx2, rfl⟩ := hrel
    replace hx0 := hide hx0
    replace hx1 := hide hx1
    replace hx2 := hide hx2
    by_cases hlt : j < nr
    · have hb := hide (regAt_new s j (by omega))
      match j, hj, hlt, hx0, hx1, hx2, hb with
      | 0, _, hlt, hx0, hx1, hx2, hb =>
        go_wp2
        go_roundw
        case rel => exact ⟨1, _, _, _, by omega, rfl, hb.out, hx1.out.trans (regAt_succ s 1 0 (by omega)).symm, hx2.out.trans (regAt_succ s 2 0 (by omega)).symm, rfl⟩
        case measure => simp [intOf]; omega
      | 1, _, hlt, hx0, hx1, hx2, hb =>
        go_wp2
        go_roundw
        case rel => exact ⟨2, _, _, _, by omega, rfl, hx0.out.trans (regAt_succ s 0 1 (by omega)).symm, hb.out, hx2.out.trans (regAt_succ s 2 1 (by omega)).symm, rfl⟩
        case measure => simp [intOf]; omega
      | 2, _, hlt, hx0, hx1, hx2, hb =>
        go_wp2
        go_roundw
        case rel => exact ⟨3, _, _, _, by omega, rfl, hx0.out.trans (regAt_succ s 0 2 (by omega)).symm, hx1.out.trans (regAt_succ s 1 2 (by omega)).symm, hb.out, rfl⟩
        case measure => simp [intOf]; omega
      | j + 3, _, hlt, _, _, _, _ => omega
    · have ej : j = nr := by omega
      subst ej
      have R := hide (Lib.extract_data s (1 + j) (1 + j + kb))
      rw [show 1 + j + kb - (1 + j) = kb by omega] at R
      have hz8 : (s.extract (1 + j) (1 + j + kb)).size ≤ 8 := by rw [ByteArray.size_extract]; omega
      go_wp2_with (go_at_call 130; refine (readNumber_any _ _ hz8).mono ?_; rintro e w' ⟨rfl, rfl⟩; rw [R.out])
      refine bodyPost_ret (v := .tuple #[.agg #[.int .i64 s[0].toNat, .int .i64 x0, .int .i64 x1, .int .i64 x2, .int .i64 (wrap64 (leNat ((s.data.toList.drop (1 + j)).take kb)))], .int .i64 (1 + j + kb)]) (by simp [results, Tryz.results123, go_sem]) rfl ⟨?_, ((Below.refl _ _).alloc (Nat.le_refl _) _).alloc (by simp) _⟩
      rw [hx0.out, hx1.out, hx2.out]
def nrN (o : Nat) : Nat := (nregs o).toNat
def kbN (o : Nat) : Nat := (kbytes o).toNat
theorem nrN_eq (o : Nat) : ((nrN o : Nat) : Int) = nregs o := by have := nregs_bd o; unfold nrN; omega
theorem kbN_eq (o : Nat) : ((kbN o : Nat) : Int) = kbytes o := by have := kb_three o; unfold kbN; omega
theorem nrN_le (o : Nat) : nrN o ≤ 3 := by have := nregs_bd o; unfold nrN; omega
theorem kbN_le (o : Nat) : kbN o ≤ 8 := by have := kb_three o; unfold kbN; omega
def regL (l : List UInt8) (nr j : Nat) : Int := if j < nr then ((l.getD (1 + j) 0).toNat : Int) else 0
/-- the first instruction of these bytes, and how many it has -/
def readI (l : List UInt8) : Option (I5 × Nat) :=
  match l with
  | [] => none
  | b :: _ => if 12 ≤ b.toNat then none else if l.length < 1 + nrN b.toNat + kbN b.toNat then none else
    some (⟨b.toNat, regL l (nrN b.toNat) 0, regL l (nrN b.toNat) 1, regL l (nrN b.toNat) 2, wrap64 (leNat ((l.drop (1 + nrN b.toNat)).take (kbN b.toNat)))⟩, 1 + nrN b.toNat + kbN b.toNat)
def readVal : Option (I5 × Nat) → Value
  | none => noIns
  | some (i, n) => .tuple #[i.val, .int .i64 n]
theorem readIns_any (s : ByteArray) (w : World) (hs : Shapes w) :
    Calls Tryz.prog 123 #[.string s] w fun e w' => e = .returned (readVal (readI s.data.toList)) ∧ Below w.heap.size w w' := by
  by_cases h0 : s.size = 0
  · have e : s.data.toList = [] := List.eq_nil_of_length_eq_zero (by rw [Array.length_toList]; exact h0)
    rw [e]
    exact readIns_empty s w h0
  · have hp : 0 < s.size := by omega
    have hlen : s.data.toList.length = s.size := by rw [Array.length_toList]; rfl
    have hcons : s.data.toList = s[0] :: s.data.toList.tail := by
      have : s.data.toList ≠ [] := fun e => by rw [e] at hlen; simp at hlen; omega
      rw [← List.cons_head_tail this]
      have h2 : s.data.toList.head this = s[0] := by rw [List.head_eq_getElem]; rfl
      rw [h2]; rfl
    by_cases h1 : 12 ≤ s[0].toNat
    · have R : readI s.data.toList = none := by rw [hcons]; simp only [readI]; rw [if_pos h1]
      rw [R]
      exact readIns_big s w hp h1
    · have hc := hs.2 (s[0].toNat) (by omega) (by omega)
      rw [← nrN_eq, ← kbN_eq, Int.toNat_natCast] at hc
      obtain ⟨c0, c1, c2⟩ := hc
      by_cases h2 : s.size < 1 + nrN s[0].toNat + kbN s[0].toNat
      · have R : readI s.data.toList = none := by rw [hcons]; simp only [readI]; rw [if_neg h1, ← hcons, hlen, if_pos h2]
        rw [R]
        exact readIns_short s _ _ w hp (by omega) hs.1 (nrN_le _) (kbN_le _) c2 h2
      · have R : readI s.data.toList = some (⟨s[0].toNat, regL s.data.toList (nrN s[0].toNat) 0, regL s.data.toList (nrN s[0].toNat) 1, regL s.data.toList (nrN s[0].toNat) 2, wrap64 (leNat ((s.data.toList.drop (1 + nrN s[0].toNat)).take (kbN s[0].toNat)))⟩, 1 + nrN s[0].toNat + kbN s[0].toNat) := by
          rw [hcons]; simp only [readI]; rw [if_neg h1, ← hcons, hlen, if_neg h2]
        rw [R]
        exact readIns_yes s _ _ w hp (by omega) hs.1 (nrN_le _) (kbN_le _) c0 c1 c2 (by omega)
end Go.Proofs.YtamiichlbmllcaaGreatDoor
