/-
  The document's answer: the contract of (*suretyref.Eye).number.
-/
import Derived.Test.YtamiichlbmllcaaGreatDoorRefA
import Derived.Test.YtamiichlbmllcaaGreatDoorLent
namespace Go.Proofs.YtamiichlbmllcaaGreatDoor
open Go.RowKit
def EyeAt (w : World) (eb : Nat) (s : ByteArray) (bad : Bool) : Prop := w.heap[eb]? = some (.cells #[.string s, .bool bad] 215 (0, 0))
theorem EyeAt.cell {w : World} {eb : Nat} {s : ByteArray} {bad : Bool} (h : EyeAt w eb s bad) : w.cell? ⟨eb, 0, none⟩ = some (.string s) ∧ w.cell? ⟨eb, 1, none⟩ = some (.bool bad) ∧ w.frozen? ⟨eb, 0, none⟩ = false ∧ w.frozen? ⟨eb, 1, none⟩ = false := by
  unfold EyeAt at h
  refine ⟨by rw [cell_of_row _ _ _ _ _ _ h]; rfl, by rw [cell_of_row _ _ _ _ _ _ h]; rfl, ?_, ?_⟩
  · simp [World.frozen?, h]
  · simp [World.frozen?, h]
theorem grown_set (w : World) (g off : Nat) (u : Value) : w.grownBy (w.setCell ⟨g, off, none⟩ u) (some g) :=
  ⟨rfl, rfl, rfl, by simp [World.setCell], fun k _ hk => Below.heap_setCell w _ u k (fun e => hk (by rw [e]))⟩
theorem u64_back (n b : Nat) (h : 256 * n + b < 18446744073709551616) : IntKind.u64.wrap (IntKind.u64.wrap (256 * (n : Int)) + IntKind.u64.wrap (b : Int)) = ((256 * n + b : Nat) : Int) := by
  simp only [IntKind.wrap_u64]; omega
theorem leNat_drop (l : List UInt8) (j : Nat) (h : j < l.length) : leNat (l.drop j) = 256 * leNat (l.drop (j + 1)) + l[j].toNat := by
  rw [List.drop_eq_getElem_cons h, leNat]; omega
theorem leNat_drop_lt (l : List UInt8) (j : Nat) (h8 : l.length ≤ 8) : leNat (l.drop j) < 18446744073709551616 := by
  have h1 := leNat_lt (l.drop j)
  have h2 := pow_le8 (j := (l.drop j).length) (by rw [List.length_drop]; omega)
  omega
/-- what number answers, and what it leaves -/
def eyeN (l : List UInt8) (needed : Bool) (size : Nat) : Int := if needed = true ∧ size ≤ l.length then wrap64 (leNat (l.take size)) else 0
def eyeRest (l : List UInt8) (needed : Bool) (size : Nat) : List UInt8 := if needed = true ∧ size ≤ l.length then l.drop size else l
def eyeBad (l : List UInt8) (bad needed : Bool) (size : Nat) : Bool := if needed = true ∧ ¬ size ≤ l.length then true else bad
set_option maxHeartbeats 1000000 in
theorem number_yes (eb size : Nat) (s : ByteArray) (bad : Bool) (w : World) (h : EyeAt w eb s bad) (h1 : 1 ≤ size) (h8 : size ≤ 8) (hs : size ≤ s.size) :
    Calls Tryz.prog 112 #[.pointer (some ⟨eb, 0, none⟩), .bool true, .int .i64 size] w fun e w' => e = .returned (.int .i64 (wrap64 (leNat (s.data.toList.take size)))) ∧ EyeAt w' eb (s.extract size s.size) bad ∧ w.grownBy w' (some eb) := by
  obtain ⟨c0, c1, f0, f1⟩ := h.cell
  have hL : (s.data.toList.take size).length = size := take_len s size hs
  go_enter Tryz.func112, Tryz.ntmps112
  go_wp2_with fail
  go_loop [7, 8] (fun n i => ∃ j : Nat, j ≤ size ∧ i = .int .i64 ((j : Int) - 1) ∧ n = .int .u64 (leNat ((s.data.toList.take size).drop j))) (fun _ i => (intOf i + 1).toNat)
  case atStart => exact ⟨size, by omega, rfl, by rw [List.drop_of_length_le (by omega)]; rfl⟩
  case round =>
    obtain ⟨j, hj, rfl, rfl⟩ := hrel
    by_cases hj0 : j = 0
    · subst hj0
      go_wp2
      go_ret
      refine ⟨rfl, ?_, grown_set _ _ _ _⟩
      unfold EyeAt at h ⊢
      rw [set_block h]; rfl
    · obtain ⟨i, rfl⟩ : ∃ i, j = i + 1 := ⟨j - 1, by omega⟩
      have hi : i < s.size := by omega
      have HD := hide (leNat_drop (s.data.toList.take size) i (by omega))
      have HE : Hid ((s.data.toList.take size)[i]'(by omega) = s[i]) := hide (by rw [List.getElem_take]; rfl)
      have HB := hide (leNat_drop_lt (s.data.toList.take size) i (by omega))
      have HK : Hid (IntKind.u64.wrap (IntKind.u64.wrap (256 * ((leNat ((s.data.toList.take size).drop (i + 1)) : Nat) : Int)) + IntKind.u64.wrap (s[i].toNat : Int)) = ((leNat ((s.data.toList.take size).drop i) : Nat) : Int)) := hide (by
        have := HD.out
        have hb := HB.out
        rw [HE.out] at this
        rw [u64_back _ _ (by omega), this])
      go_wp2
      exact ⟨⟨i, by omega, rfl, by rw [HK.out]⟩, by simp [intOf]⟩
set_option maxHeartbeats 400000 in
theorem number_short (eb size : Nat) (s : ByteArray) (bad : Bool) (w : World) (h : EyeAt w eb s bad) (hs : s.size < size) (_h8 : size ≤ 8) :
    Calls Tryz.prog 112 #[.pointer (some ⟨eb, 0, none⟩), .bool true, .int .i64 size] w fun e w' => e = .returned (.int .i64 0) ∧ EyeAt w' eb s true ∧ w.grownBy w' (some eb) := by
  obtain ⟨c0, c1, f0, f1⟩ := h.cell
  go_enter Tryz.func112, Tryz.ntmps112
  go_wp2
  go_ret
  refine ⟨rfl, ?_, grown_set _ _ _ _⟩
  unfold EyeAt at h ⊢
  rw [set_block h]; rfl
set_option maxHeartbeats 400000 in
theorem number_none (p : Value) (size : Int) (w : World) :
    Calls Tryz.prog 112 #[p, .bool false, .int .i64 size] w fun e w' => e = .returned (.int .i64 0) ∧ w = w' := by
  go_enter Tryz.func112, Tryz.ntmps112
  go_wp2
  go_ret
  exact ⟨rfl, rfl⟩
theorem number_any (eb size : Nat) (nd : Bool) (s : ByteArray) (bad : Bool) (w : World) (h : EyeAt w eb s bad) (h1 : nd = true → 1 ≤ size) (h8 : size ≤ 8) :
    Calls Tryz.prog 112 #[.pointer (some ⟨eb, 0, none⟩), .bool nd, .int .i64 size] w fun e w' => e = .returned (.int .i64 (eyeN s.data.toList nd size)) ∧ (∃ s', s'.data.toList = eyeRest s.data.toList nd size ∧ EyeAt w' eb s' (eyeBad s.data.toList bad nd size)) ∧ w.grownBy w' (some eb) := by
  have hlen : s.data.toList.length = s.size := by rw [Array.length_toList]; rfl
  cases nd
  · refine (number_none _ _ w).mono ?_
    rintro e w' ⟨rfl, rfl⟩
    refine ⟨ret_int (by simp [eyeN]), ⟨s, by simp [eyeRest], by simpa [eyeBad] using h⟩, ⟨rfl, rfl, rfl, Nat.le_refl _, fun _ _ _ => rfl⟩⟩
  · by_cases hs : size ≤ s.size
    · refine (number_yes eb size s bad w h (h1 rfl) h8 hs).mono ?_
      rintro e w' ⟨rfl, he, hg⟩
      refine ⟨ret_int (by unfold eyeN; rw [if_pos ⟨rfl, by omega⟩]), ⟨s.extract size s.size, ?_, ?_⟩, hg⟩
      · rw [Lib.extract_to_end]; unfold eyeRest; rw [if_pos ⟨rfl, by omega⟩]
      · have : eyeBad s.data.toList bad true size = bad := by unfold eyeBad; rw [if_neg (fun hh => hh.2 (by omega))]
        rw [this]; exact he
    · refine (number_short eb size s bad w h (by omega) h8).mono ?_
      rintro e w' ⟨rfl, he, hg⟩
      refine ⟨ret_int (by unfold eyeN; rw [if_neg (fun hh => by have := hh.2; omega)]), ⟨s, ?_, ?_⟩, hg⟩
      · unfold eyeRest; rw [if_neg (fun hh => by have := hh.2; omega)]
      · have : eyeBad s.data.toList bad true size = true := by unfold eyeBad; rw [if_pos ⟨rfl, by omega⟩]
        rw [this]; exact he
end Go.Proofs.YtamiichlbmllcaaGreatDoor
