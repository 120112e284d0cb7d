/-
  Plain mathematics: what was decoded is encoded as it stood.
-/
import Derived.Test.YtamiichlbmllcaaDoorKeepD
namespace Go.Proofs.YtamiichlbmllcaaDoor
open Go.RowKit
theorem b8_byte (b : UInt8) : b8 (b.toNat : Int) = b := by
  apply UInt8.toNat_inj.1
  have := b8_nat (b.toNat : Int)
  have := b.toNat_lt
  omega
theorem leNat_inj : ∀ (a b : List UInt8), a.length = b.length → leNat a = leNat b → a = b
  | [], [], _, _ => rfl
  | [], _ :: _, h, _ => by simp at h
  | _ :: _, [], h, _ => by simp at h
  | x :: r, y :: s, h, e => by
    simp only [leNat] at e
    have hx := x.toNat_lt
    have hy := y.toNat_lt
    have e1 : x = y := UInt8.toNat_inj.1 (by omega)
    rw [e1, leNat_inj r s (by simpa using h) (by omega)]
theorem encK_len (i : I5) (j : Nat) : (encK i j).length = j := by simp [encK]
theorem encR_len (i : I5) (j : Nat) : (encR i j).length = j := by simp [encR]
theorem encK_nat (i : I5) (j : Nat) (x : Nat) (hx : i.k % 18446744073709551616 = x) : leNat (encK i j) = x % 256 ^ j := by
  induction j with
  | zero => simp [encK, leNat, Nat.mod_one]
  | succ j ih =>
    rw [encK_succ, leNat_snoc, ih, encK_len, Nat.mod_pow_succ, hx]
    congr 2
    have h := b8_nat ((x : Int) / 2 ^ (8 * j))
    have e : ((x : Int) / 2 ^ (8 * j)) = ((x / 256 ^ j : Nat) : Int) := by
      have : ((2 : Int) ^ (8 * j)) = ((256 ^ j : Nat) : Int) := by
        rw [show (256 : Nat) = 2 ^ 8 by decide, ← Nat.pow_mul]; simp
      rw [this]; rfl
    rw [e] at h ⊢
    omega
theorem pow_le8 {j : Nat} (h : j ≤ 8) : 256 ^ j ≤ 18446744073709551616 := by
  have : j = 0 ∨ j = 1 ∨ j = 2 ∨ j = 3 ∨ j = 4 ∨ j = 5 ∨ j = 6 ∨ j = 7 ∨ j = 8 := by omega
  rcases this with rfl | rfl | rfl | rfl | rfl | rfl | rfl | rfl | rfl <;> decide
theorem wrap_mod (x : Nat) (h : x < 18446744073709551616) : wrap64 x % 18446744073709551616 = x := by unfold wrap64; omega
theorem wrap_back (k : Int) (h0 : -9223372036854775808 ≤ k) (h1 : k < 9223372036854775808) : wrap64 ((k % 18446744073709551616).toNat : Int) = k := by unfold wrap64; omega
/-- K's bytes back from what they tell -/
theorem encK_back (i : I5) (bs : List UInt8) (h8 : bs.length ≤ 8) (hk : i.k = wrap64 (leNat bs)) : encK i bs.length = bs := by
  have hlt := leNat_lt bs
  have hp := pow_le8 h8
  apply leNat_inj _ _ (encK_len i _)
  rw [encK_nat i _ (leNat bs) (by rw [hk]; exact wrap_mod _ (by omega)), Nat.mod_eq_of_lt hlt]
theorem encR_back (i : I5) (l : List UInt8) (nr : Nat) (h3 : nr ≤ 3) (hl : 1 + nr ≤ l.length) (ha : i.a = regL l nr 0) (hb : i.b = regL l nr 1) (hc : i.c = regL l nr 2) : encR i nr = (l.drop 1).take nr := by
  have hg : ∀ j, j < nr → b8 (regN i j) = l.getD (1 + j) 0 := by
    intro j hj
    have e : regN i j = regL l nr j := by
      unfold regN
      have : j = 0 ∨ j = 1 ∨ j = 2 := by omega
      rcases this with rfl | rfl | rfl
      · rw [if_pos rfl, ha]
      · rw [if_neg (by omega), if_pos rfl, hb]
      · rw [if_neg (by omega), if_neg (by omega), hc]
    rw [e, regL, if_pos hj, b8_byte]
  apply List.ext_getElem
  · rw [encR_len, List.length_take, List.length_drop]; omega
  · intro j h1 h2
    rw [encR_len] at h1
    simp only [encR, List.getElem_map, List.getElem_range, List.getElem_take, List.getElem_drop]
    rw [hg j h1, List.getD_eq_getElem?_getD, List.getElem?_eq_getElem (by omega)]; rfl
/-- M5: what was read is written so again -/
theorem readI_enc {l : List UInt8} {i : I5} {k : Nat} (h : readI l = some (i, k)) : encI i = l.take k := by
  unfold readI at h
  cases l with
  | nil => simp at h
  | cons b r =>
    simp only at h
    split at h
    · simp at h
    · split at h
      · simp at h
      · rename_i h12 hlen
        simp only [Option.some.injEq, Prod.mk.injEq] at h
        obtain ⟨hi, rfl⟩ := h
        have ho : i.o = b.toNat := by rw [← hi]
        have en : (nregs i.o).toNat = nrN b.toNat := by rw [ho]; rfl
        have ek : (kbytes i.o).toNat = kbN b.toNat := by rw [ho]; rfl
        have hk8 := kbN_le b.toNat
        have hl : ((List.drop (1 + nrN b.toNat) (b :: r)).take (kbN b.toNat)).length = kbN b.toNat := by rw [List.length_take, List.length_drop]; omega
        have e1 := encR_back i (b :: r) (nrN b.toNat) (nrN_le _) (by omega) (by rw [← hi]) (by rw [← hi]) (by rw [← hi])
        have e2 := encK_back i ((List.drop (1 + nrN b.toNat) (b :: r)).take (kbN b.toNat)) (by omega) (by rw [← hi])
        rw [hl] at e2
        unfold encI
        rw [en, ek, e1, e2, ho, b8_byte]
        have e3 : [b] = (b :: r).take 1 := by simp
        rw [e3, ← List.take_add, ← List.take_add]
theorem readN_enc : ∀ (n : Nat) (l : List UInt8) (p : List I5) (t : List UInt8), readN n l = some (p, t) → p.length = n ∧ p.flatMap encI ++ t = l
  | 0, l, p, t, h => by simp [readN] at h; obtain ⟨rfl, rfl⟩ := h; simp
  | n + 1, l, p, t, h => by
    simp only [readN] at h
    cases hr : readI l with
    | none => rw [hr] at h; simp at h
    | some x =>
      obtain ⟨i, k⟩ := x
      rw [hr] at h
      simp only at h
      cases hn : readN n (l.drop k) with
      | none => rw [hn] at h; simp at h
      | some y =>
        obtain ⟨q, t'⟩ := y
        rw [hn] at h
        simp only [Option.some.injEq, Prod.mk.injEq] at h
        obtain ⟨rfl, rfl⟩ := h
        obtain ⟨h1, h2⟩ := readN_enc n _ _ _ hn
        refine ⟨by simp [h1], ?_⟩
        rw [List.flatMap_cons, List.append_assoc, h2, readI_enc hr, List.take_append_drop]
theorem decP_enc {s : List UInt8} {p : List I5} (h : decP s = some p) : encP p = s ∧ rightR p = (0, 0) := by
  unfold decP at h
  cases s with
  | nil => simp at h
  | cons b r =>
    simp only at h
    cases hn : readN b.toNat r with
    | none => rw [hn] at h; simp at h
    | some y =>
      obtain ⟨q, t⟩ := y
      rw [hn] at h
      simp only at h
      split at h
      · rename_i hc
        obtain ⟨hc1, rfl⟩ := hc
        simp only [Option.some.injEq] at h
        subst h
        obtain ⟨h1, h2⟩ := readN_enc _ _ _ _ hn
        refine ⟨?_, hc1⟩
        unfold encP
        rw [h1, b8_byte, ← h2]; simp
      · simp at h
end Go.Proofs.YtamiichlbmllcaaDoor
