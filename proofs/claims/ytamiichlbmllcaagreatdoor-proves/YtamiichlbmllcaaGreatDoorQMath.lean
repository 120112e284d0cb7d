import Derived.Test.YtamiichlbmllcaaGreatDoorQRfJ
import Derived.Test.YtamiichlbmllcaaGreatDoorQRfK
import Derived.Test.YtamiichlbmllcaaGreatDoorQDec
/-
  suretyref.becomes: the ways are those of the program's own reckoning, for every right instruction and state.
-/
namespace Go.Proofs.YtamiichlbmllcaaGreatDoor
open Go.RowKit
def BecP (i : I5) (s : St) (b1 : Bool) (s1 : St) (b2 : Bool) (s2 : St) : Prop :=
  wayO b1 s1 = flowFar i s ∧ wayO b2 s2 = flowOn i s ∧ ∀ w, Calls Tryz.prog 94 #[.agg (i5C i), .agg (stC s)] w fun e w' => e = .returned (.tuple #[.agg (plC b1 s1), .agg (plC b2 s2)]) ∧ Below w.heap.size w w'
set_option maxRecDepth 100000 in
theorem rf_becomes (i : I5) (N : Nat) (hfit : i.fits N = true) (s : St) (hs : s.ok) (h64 : s.in64) : ∃ b1 s1 b2 s2, BecP i s b1 s1 b2 s2 := by
  have hcs := fit_cases hfit
  clear hfit
  obtain ⟨o, a, b, c, k⟩ := i
  simp only at hcs
  unfold BecP
  rcases hcs with rfl | ⟨rfl, ha⟩ | ⟨rfl, ha, hb⟩ | ⟨rfl, ha, hb, hc⟩ | ⟨rfl, ha, hb, hc⟩ | ⟨rfl, ha, hb, hc⟩ | ⟨rfl, ha, hb, hc⟩ | ⟨rfl, ha, hb⟩ | ⟨rfl, ha, hb⟩ | ⟨rfl, _, _⟩ | ⟨rfl, ha, hb, _, _⟩ | ⟨rfl, ha, hb, _, _⟩
  · exact ⟨_, _, _, _, rfl, rfl, fun w => rf_bc0 a b c k s w⟩
  · obtain ⟨a, ha8, rfl⟩ := ha.nat
    exact ⟨_, _, _, _, rfl, rfl, fun w => rf_bc1 a ha8 b c k s w⟩
  · obtain ⟨a, ha8, rfl⟩ := ha.nat
    obtain ⟨b, hb8, rfl⟩ := hb.nat
    exact ⟨_, _, _, _, rfl, rfl, fun w => rf_bc2 a b ha8 hb8 c k s w⟩
  · obtain ⟨a, ha8, rfl⟩ := ha.nat
    obtain ⟨b, hb8, rfl⟩ := hb.nat
    obtain ⟨c, hc8, rfl⟩ := hc.nat
    exact ⟨_, _, _, _, rfl, rfl, fun w => rf_bcR 3 rfl rfl rfl rfl rfl rfl rfl rfl a b c ha8 hb8 hc8 k _ s (rf_add _ _ (h64 b hb8) (h64 c hc8)) w⟩
  · obtain ⟨a, ha8, rfl⟩ := ha.nat
    obtain ⟨b, hb8, rfl⟩ := hb.nat
    obtain ⟨c, hc8, rfl⟩ := hc.nat
    exact ⟨_, _, _, _, rfl, rfl, fun w => rf_bcR 4 rfl rfl rfl rfl rfl rfl rfl rfl a b c ha8 hb8 hc8 k _ s (rf_sub _ _ (h64 b hb8) (h64 c hc8)) w⟩
  · obtain ⟨a, ha8, rfl⟩ := ha.nat
    obtain ⟨b, hb8, rfl⟩ := hb.nat
    obtain ⟨c, hc8, rfl⟩ := hc.nat
    exact ⟨_, _, _, _, rfl, rfl, fun w => rf_bcR 5 rfl rfl rfl rfl rfl rfl rfl rfl a b c ha8 hb8 hc8 k _ s (rf_mul _ _) w⟩
  · obtain ⟨a, ha8, rfl⟩ := ha.nat
    obtain ⟨b, hb8, rfl⟩ := hb.nat
    obtain ⟨c, hc8, rfl⟩ := hc.nat
    exact ⟨_, _, _, _, rfl, rfl, fun w => rf_bcR 6 rfl rfl rfl rfl rfl rfl rfl rfl a b c ha8 hb8 hc8 k _ s (rf_div _ _ (h64 b hb8) (hs b hb8) (hs c hc8)) w⟩
  · obtain ⟨a, ha8, rfl⟩ := ha.nat
    exact ⟨_, _, _, _, rfl, rfl, fun w => rf_bc7 a ha8 b c k s w⟩
  · exact ⟨_, _, _, _, rfl, rfl, fun w => rf_bc8 a b c k s w⟩
  · exact ⟨_, _, _, _, rfl, rfl, fun w => rf_bc9 a b c k s w⟩
  · obtain ⟨a, ha8, rfl⟩ := ha.nat
    obtain ⟨b, hb8, rfl⟩ := hb.nat
    by_cases hab : a = b
    · subst hab
      exact ⟨_, _, _, _, by unfold flowFar; simp [wayO], by unfold flowOn; simp [wayO], fun w => rf_bc10e a c k s w⟩
    · have hne : ¬ ((a : Int) = (b : Int)) := by omega
      obtain ⟨b1, s1, b2, s2, h1, h2, h3⟩ := rf_less a b ha8 hb8 hab s hs h64
      exact ⟨b1, s1, b2, s2, by rw [h1]; unfold flowFar; simp [hne], by rw [h2]; unfold flowOn; simp [hne], fun w => rf_bc10 a b (by simpa using hne) c k s b1 b2 s1 s2 h3 w⟩
  · obtain ⟨a, ha8, rfl⟩ := ha.nat
    obtain ⟨b, hb8, rfl⟩ := hb.nat
    by_cases hab : a = b
    · subst hab
      exact ⟨_, _, _, _, by unfold flowFar; simp [wayO], by unfold flowOn; simp [wayO], fun w => rf_bc11e a c k s w⟩
    · have hne : ¬ ((a : Int) = (b : Int)) := by omega
      exact ⟨_, _, _, _, by rw [same_way]; unfold flowFar; simp [hne], by unfold flowOn wayO; by_cases h1 : oneR (s a) (s b) = true <;> simp [hne, h1], fun w => rf_bc11 a b (by simpa using hne) c k s _ _ _ _ (rf_same a b ha8 hb8 s) w⟩
end Go.Proofs.YtamiichlbmllcaaGreatDoor
/-
  Plain mathematics: what was decoded is encoded as it stood.
-/
namespace Go.Proofs.YtamiichlbmllcaaGreatDoor
open Go.RowKit
theorem b8_byte (b : UInt8) : b8 (b.toNat : Int) = b := by
  apply UInt8.toNat_inj.1
  have := b8_nat (b.toNat : Int)
  have := b.toNat_lt
  omega
theorem leNat_inj : ∀ (a b : List UInt8), a.length = b.length → leNat a = leNat b → a = b
  | [], [], _, _ => rfl
  | [], _ :: _, h, _ => by simp at h
  | _ :: _, [], h, _ => by simp at h
  | x :: r, y :: s, h, e => by
    simp only [leNat] at e
    have hx := x.toNat_lt
    have hy := y.toNat_lt
    have e1 : x = y := UInt8.toNat_inj.1 (by omega)
    rw [e1, leNat_inj r s (by simpa using h) (by omega)]
theorem encK_len (i : I5) (j : Nat) : (encK i j).length = j := by simp [encK]
theorem encR_len (i : I5) (j : Nat) : (encR i j).length = j := by simp [encR]
theorem encK_nat (i : I5) (j : Nat) (x : Nat) (hx : i.k % 18446744073709551616 = x) : leNat (encK i j) = x % 256 ^ j := by
  induction j with
  | zero => simp [encK, leNat, Nat.mod_one]
  | succ j ih =>
    rw [encK_succ, leNat_snoc, ih, encK_len, Nat.mod_pow_succ, hx]
    congr 2
    have h := b8_nat ((x : Int) / 2 ^ (8 * j))
    have e : ((x : Int) / 2 ^ (8 * j)) = ((x / 256 ^ j : Nat) : Int) := by
      have : ((2 : Int) ^ (8 * j)) = ((256 ^ j : Nat) : Int) := by
        rw [show (256 : Nat) = 2 ^ 8 by decide, ← Nat.pow_mul]; simp
      rw [this]; rfl
    rw [e] at h ⊢
    omega
theorem pow_le8 {j : Nat} (h : j ≤ 8) : 256 ^ j ≤ 18446744073709551616 := by
  have : j = 0 ∨ j = 1 ∨ j = 2 ∨ j = 3 ∨ j = 4 ∨ j = 5 ∨ j = 6 ∨ j = 7 ∨ j = 8 := by omega
  rcases this with rfl | rfl | rfl | rfl | rfl | rfl | rfl | rfl | rfl <;> decide
theorem wrap_mod (x : Nat) (h : x < 18446744073709551616) : wrap64 x % 18446744073709551616 = x := by unfold wrap64; omega
theorem wrap_back (k : Int) (h0 : -9223372036854775808 ≤ k) (h1 : k < 9223372036854775808) : wrap64 ((k % 18446744073709551616).toNat : Int) = k := by unfold wrap64; omega
/-- K's bytes back from what they tell -/
theorem encK_back (i : I5) (bs : List UInt8) (h8 : bs.length ≤ 8) (hk : i.k = wrap64 (leNat bs)) : encK i bs.length = bs := by
  have hlt := leNat_lt bs
  have hp := pow_le8 h8
  apply leNat_inj _ _ (encK_len i _)
  rw [encK_nat i _ (leNat bs) (by rw [hk]; exact wrap_mod _ (by omega)), Nat.mod_eq_of_lt hlt]
theorem encR_back (i : I5) (l : List UInt8) (nr : Nat) (h3 : nr ≤ 3) (hl : 1 + nr ≤ l.length) (ha : i.a = regL l nr 0) (hb : i.b = regL l nr 1) (hc : i.c = regL l nr 2) : encR i nr = (l.drop 1).take nr := by
  have hg : ∀ j, j < nr → b8 (regN i j) = l.getD (1 + j) 0 := by
    intro j hj
    have e : regN i j = regL l nr j := by
      unfold regN
      have : j = 0 ∨ j = 1 ∨ j = 2 := by omega
      rcases this with rfl | rfl | rfl
      · rw [if_pos rfl, ha]
      · rw [if_neg (by omega), if_pos rfl, hb]
      · rw [if_neg (by omega), if_neg (by omega), hc]
    rw [e, regL, if_pos hj, b8_byte]
  apply List.ext_getElem
  · rw [encR_len, List.length_take, List.length_drop]; omega
  · intro j h1 h2
    rw [encR_len] at h1
    simp only [encR, List.getElem_map, List.getElem_range, List.getElem_take, List.getElem_drop]
    rw [hg j h1, List.getD_eq_getElem?_getD, List.getElem?_eq_getElem (by omega)]; rfl
/-- M5: what was read is written so again -/
theorem readI_enc {l : List UInt8} {i : I5} {k : Nat} (h : readI l = some (i, k)) : encI i = l.take k := by
  unfold readI at h
  cases l with
  | nil => simp at h
  | cons b r =>
    simp only at h
    split at h
    · simp at h
    · split at h
      · simp at h
      · rename_i h12 hlen
        simp only [Option.some.injEq, Prod.mk.injEq] at h
        obtain ⟨hi, rfl⟩ := h
        have ho : i.o = b.toNat := by rw [← hi]
        have en : (nregs i.o).toNat = nrN b.toNat := by rw [ho]; rfl
        have ek : (kbytes i.o).toNat = kbN b.toNat := by rw [ho]; rfl
        have hk8 := kbN_le b.toNat
        have hl : ((List.drop (1 + nrN b.toNat) (b :: r)).take (kbN b.toNat)).length = kbN b.toNat := by rw [List.length_take, List.length_drop]; omega
        have e1 := encR_back i (b :: r) (nrN b.toNat) (nrN_le _) (by omega) (by rw [← hi]) (by rw [← hi]) (by rw [← hi])
        have e2 := encK_back i ((List.drop (1 + nrN b.toNat) (b :: r)).take (kbN b.toNat)) (by omega) (by rw [← hi])
        rw [hl] at e2
        unfold encI
        rw [en, ek, e1, e2, ho, b8_byte]
        have e3 : [b] = (b :: r).take 1 := by simp
        rw [e3, ← List.take_add, ← List.take_add]
theorem readN_enc : ∀ (n : Nat) (l : List UInt8) (p : List I5) (t : List UInt8), readN n l = some (p, t) → p.length = n ∧ p.flatMap encI ++ t = l
  | 0, l, p, t, h => by simp [readN] at h; obtain ⟨rfl, rfl⟩ := h; simp
  | n + 1, l, p, t, h => by
    simp only [readN] at h
    cases hr : readI l with
    | none => rw [hr] at h; simp at h
    | some x =>
      obtain ⟨i, k⟩ := x
      rw [hr] at h
      simp only at h
      cases hn : readN n (l.drop k) with
      | none => rw [hn] at h; simp at h
      | some y =>
        obtain ⟨q, t'⟩ := y
        rw [hn] at h
        simp only [Option.some.injEq, Prod.mk.injEq] at h
        obtain ⟨rfl, rfl⟩ := h
        obtain ⟨h1, h2⟩ := readN_enc n _ _ _ hn
        refine ⟨by simp [h1], ?_⟩
        rw [List.flatMap_cons, List.append_assoc, h2, readI_enc hr, List.take_append_drop]
theorem decP_enc {s : List UInt8} {p : List I5} (h : decP s = some p) : encP p = s ∧ rightR p = (0, 0) := by
  unfold decP at h
  cases s with
  | nil => simp at h
  | cons b r =>
    simp only at h
    cases hn : readN b.toNat r with
    | none => rw [hn] at h; simp at h
    | some y =>
      obtain ⟨q, t⟩ := y
      rw [hn] at h
      simp only at h
      split at h
      · rename_i hc
        obtain ⟨hc1, rfl⟩ := hc
        simp only [Option.some.injEq] at h
        subst h
        obtain ⟨h1, h2⟩ := readN_enc _ _ _ _ hn
        refine ⟨?_, hc1⟩
        unfold encP
        rw [h1, b8_byte, ← h2]; simp
      · simp at h
end Go.Proofs.YtamiichlbmllcaaGreatDoor
