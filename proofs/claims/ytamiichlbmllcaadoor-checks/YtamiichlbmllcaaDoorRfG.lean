/-
  suretyref.claim.
-/
import Derived.Test.YtamiichlbmllcaaDoorRfA
import Derived.Test.YtamiichlbmllcaaDoorRegL
import Derived.Test.YtamiichlbmllcaaDoorChD
namespace Go.Proofs.YtamiichlbmllcaaDoor
open Go.RowKit
/-- the state of the first claim of an instruction -/
def findC (cl : List C2) (n : Int) : Option St := (cl.find? fun c => c.pl == n).map (·.st)
theorem findC_yes {cl : List C2} {n : Int} {i : Nat} (h : i < cl.length) (hb : ∀ j, j < i → (clAt cl j).pl ≠ n) (he : (clAt cl i).pl = n) : findC cl n = some (clAt cl i).st := by
  unfold findC
  rw [clAt_get h] at he ⊢
  rw [List.find?_eq_some_iff_getElem.2 ⟨by simpa using he, i, h, rfl, fun j hj => by have := hb j hj; rw [clAt_get (by omega)] at this; simpa using this⟩]
  rfl
theorem findC_no {cl : List C2} {n : Int} (hb : ∀ j, j < cl.length → (clAt cl j).pl ≠ n) : findC cl n = none := by
  unfold findC
  rw [List.find?_eq_none.2 fun c hc => by obtain ⟨j, hj, rfl⟩ := List.mem_iff_getElem.1 hc; have := hb j hj; rw [clAt_get hj] at this; simpa using this]
  rfl
theorem cell0 {w w' : World} {b o : Nat} {p : Int} {st : St} (h : w.rangeAt b o (clC p st).toList) (hb : b < w.heap.size) (hm : Mod [] w w') : w'.cell? ⟨b, o, none⟩ = some (.int .i64 p) := by
  rw [World.cell?_of_block (w := w) (a := ⟨b, o, none⟩) (hm.block b hb (by simp))]
  exact h 0 _ rfl
theorem range1 {w : World} {b o : Nat} {p : Int} {st : St} (h : w.rangeAt b o (clC p st).toList) : w.rangeAt b (o + 1) (stC st).toList := fun j v hj => by
  have := h (j + 1) v hj
  rwa [show o + (j + 1) = o + 1 + j by omega] at this
set_option maxHeartbeats 1000000 in
set_option maxRecDepth 100000 in
theorem rf_claim_some (cl : List C2) (hcl : cl.length < 4000000000000) (b off cap : Nat) (n : Int) (w : World) (hb : b < w.heap.size) (hc : ∀ i, i < cl.length → w.rangeAt b (off + i * 17) (clC (clAt cl i).pl (clAt cl i).st).toList) :
    Calls Tryd.prog 29 #[.slice (some ⟨b, off, none⟩) cl.length cap, .int .i64 n] w fun e w' => e = .returned (.agg (plC (findC cl n).isSome (stO (findC cl n)))) ∧ Below w.heap.size w w' := by
  have hk := Kn.nil [] w
  have HC := hide hc
  clear hc
  go_enter Tryd.func29, Tryd.ntmps29
  go_wp2_with (first | ((with_reducible show wpList _ _ _ _ _ _); (first | ((with_reducible show wpList _ _ _ (⟨_, _, _, _, _, some _⟩ :: _) _ _); refine wpList_skip (by rfl) ?_; simp only [Act.put, List.setIfInBounds_toArray, List.set_cons_succ, List.set_cons_zero]) | ((first | refine wBuild hk ?_ | refine wFieldZ hk ?_ | refine wField0 hk ?_ | refine wField hk ?_ | refine wIndexA0 hk ?_ | refine wIndexS0 hk ?_ | refine wIndexA hk ?_ | refine wIndexS hk ?_ | refine wLoadR hk ?_ | refine wLoad1 hk ?_ | refine wOldR hk ?_ | refine wOld1 hk ?_ | refine wOldC hk ?_ | refine wOldG hk ?_ | refine wAssertY hk ?_ | refine wAssertN hk ?_); simp only [Act.put, List.setIfInBounds_toArray, List.set_cons_succ, List.set_cons_zero]) | ((first | refine wBox hk ?_ | refine wBox1I hk ?_ | refine wBox1B hk ?_ | refine wBox1S hk ?_ | refine wBox1P hk ?_ | refine wBox1F hk ?_ | refine wAllocR hk ?_ | refine wAlloc1 hk ?_ | refine wMake hk ?_); clear hk; intro w1 hk; simp only [Act.put, List.setIfInBounds_toArray, List.set_cons_succ, List.set_cons_zero]) | ((first | refine wStoreR hk ?_ | refine wStore1I hk ?_ | refine wStore1B hk ?_ | refine wStore1S hk ?_ | refine wStore1P hk ?_ | refine wStore1F hk ?_); clear hk; intro w1 hk; simp only [Act.put]))))
  go_loopw [5] (fun j wr => ∃ i : Nat, i ≤ cl.length ∧ j = .int .i64 i ∧ (∀ j, j < i → (clAt cl j).pl ≠ n) ∧ Kn [] w wr [(w.heap.size, plC false zeroS, 65)]) (fun j _ => cl.length - (intOf j).toNat)
  case atStart => exact ⟨0, by omega, rfl, fun j hj => by omega, hk⟩
  case round =>
    clear hk
    obtain ⟨i, hi, rfl, hall, hk⟩ := hrel
    have HA := hide hall
    clear hall
    by_cases hlt : i < cl.length
    · have hci := HC.out i hlt
      by_cases he : (clAt cl i).pl = n
      · have R : Hid (findC cl n = some (clAt cl i).st) := hide (findC_yes hlt HA.out he)
        rw [he] at hci
        obtain ⟨st, hst⟩ : ∃ st, st = (clAt cl i).st := ⟨_, rfl⟩
        rw [← hst] at hci R
        clear hst he
        have hc0 := cell0 hci hb hk.mod
        have hc1 := range1 hci
        go_wp2_with (first | ((with_reducible show wpList _ _ _ _ _ _); (first | ((with_reducible show wpList _ _ _ (⟨_, _, _, _, _, some _⟩ :: _) _ _); refine wpList_skip (by rfl) ?_; simp only [Act.put, List.setIfInBounds_toArray, List.set_cons_succ, List.set_cons_zero]) | ((first | refine wBuild hk ?_ | refine wFieldZ hk ?_ | refine wField0 hk ?_ | refine wField hk ?_ | refine wIndexA0 hk ?_ | refine wIndexS0 hk ?_ | refine wIndexA hk ?_ | refine wIndexS hk ?_ | refine wLoadR hk ?_ | refine wLoad1 hk ?_ | refine wOldR hk ?_ | refine wOld1 hk ?_ | refine wOldC hk ?_ | refine wOldG hk ?_ | refine wAssertY hk ?_ | refine wAssertN hk ?_); simp only [Act.put, List.setIfInBounds_toArray, List.set_cons_succ, List.set_cons_zero]) | ((first | refine wBox hk ?_ | refine wBox1I hk ?_ | refine wBox1B hk ?_ | refine wBox1S hk ?_ | refine wBox1P hk ?_ | refine wBox1F hk ?_ | refine wAllocR hk ?_ | refine wAlloc1 hk ?_ | refine wMake hk ?_); clear hk; intro w1 hk; simp only [Act.put, List.setIfInBounds_toArray, List.set_cons_succ, List.set_cons_zero]) | ((first | refine wStoreR hk ?_ | refine wStore1I hk ?_ | refine wStore1B hk ?_ | refine wStore1S hk ?_ | refine wStore1P hk ?_ | refine wStore1F hk ?_); clear hk; intro w1 hk; simp only [Act.put]))))
        exact post_1 rfl (by rfl) (hk.at (A := plC true st) (by with_reducible repeat (first | exact List.mem_cons_self | apply List.mem_cons_of_mem))) (rowT_of (by rfl)) (by rfl) rfl ⟨by rw [R.out]; rfl, hk.mod.below⟩
      · have hne : ((clAt cl i).pl == n) = false := by rw [beq_eq_false_iff_ne]; exact he
        have HE := hide he
        clear he
        obtain ⟨st, hst⟩ : ∃ st, st = (clAt cl i).st := ⟨_, rfl⟩
        obtain ⟨p, hp⟩ : ∃ p, p = (clAt cl i).pl := ⟨_, rfl⟩
        rw [← hst, ← hp] at hci
        rw [← hp] at HE hne
        have HP := hide hp
        clear hst hp
        have hc0 := cell0 hci hb hk.mod
        go_wp2_with (first | ((with_reducible show wpList _ _ _ _ _ _); (first | ((with_reducible show wpList _ _ _ (⟨_, _, _, _, _, some _⟩ :: _) _ _); refine wpList_skip (by rfl) ?_; simp only [Act.put, List.setIfInBounds_toArray, List.set_cons_succ, List.set_cons_zero]) | ((first | refine wBuild hk ?_ | refine wFieldZ hk ?_ | refine wField0 hk ?_ | refine wField hk ?_ | refine wIndexA0 hk ?_ | refine wIndexS0 hk ?_ | refine wIndexA hk ?_ | refine wIndexS hk ?_ | refine wLoadR hk ?_ | refine wLoad1 hk ?_ | refine wOldR hk ?_ | refine wOld1 hk ?_ | refine wOldC hk ?_ | refine wOldG hk ?_ | refine wAssertY hk ?_ | refine wAssertN hk ?_); simp only [Act.put, List.setIfInBounds_toArray, List.set_cons_succ, List.set_cons_zero]) | ((first | refine wBox hk ?_ | refine wBox1I hk ?_ | refine wBox1B hk ?_ | refine wBox1S hk ?_ | refine wBox1P hk ?_ | refine wBox1F hk ?_ | refine wAllocR hk ?_ | refine wAlloc1 hk ?_ | refine wMake hk ?_); clear hk; intro w1 hk; simp only [Act.put, List.setIfInBounds_toArray, List.set_cons_succ, List.set_cons_zero]) | ((first | refine wStoreR hk ?_ | refine wStore1I hk ?_ | refine wStore1B hk ?_ | refine wStore1S hk ?_ | refine wStore1P hk ?_ | refine wStore1F hk ?_); clear hk; intro w1 hk; simp only [Act.put]))))
        go_roundw
        case rel => exact ⟨i + 1, by omega, by go_num, fun j hj => by rcases Nat.lt_succ_iff_lt_or_eq.1 hj with h | h; exact HA.out j h; subst h; rw [← HP.out]; exact HE.out, hk⟩
        case measure => simp [intOf]; omega
    · have e : i = cl.length := by omega
      subst e
      have R : Hid (findC cl n = none) := hide (findC_no HA.out)
      go_wp2_with (first | ((with_reducible show wpList _ _ _ _ _ _); (first | ((with_reducible show wpList _ _ _ (⟨_, _, _, _, _, some _⟩ :: _) _ _); refine wpList_skip (by rfl) ?_; simp only [Act.put, List.setIfInBounds_toArray, List.set_cons_succ, List.set_cons_zero]) | ((first | refine wBuild hk ?_ | refine wFieldZ hk ?_ | refine wField0 hk ?_ | refine wField hk ?_ | refine wIndexA0 hk ?_ | refine wIndexS0 hk ?_ | refine wIndexA hk ?_ | refine wIndexS hk ?_ | refine wLoadR hk ?_ | refine wLoad1 hk ?_ | refine wOldR hk ?_ | refine wOld1 hk ?_ | refine wOldC hk ?_ | refine wOldG hk ?_ | refine wAssertY hk ?_ | refine wAssertN hk ?_); simp only [Act.put, List.setIfInBounds_toArray, List.set_cons_succ, List.set_cons_zero]) | ((first | refine wBox hk ?_ | refine wBox1I hk ?_ | refine wBox1B hk ?_ | refine wBox1S hk ?_ | refine wBox1P hk ?_ | refine wBox1F hk ?_ | refine wAllocR hk ?_ | refine wAlloc1 hk ?_ | refine wMake hk ?_); clear hk; intro w1 hk; simp only [Act.put, List.setIfInBounds_toArray, List.set_cons_succ, List.set_cons_zero]) | ((first | refine wStoreR hk ?_ | refine wStore1I hk ?_ | refine wStore1B hk ?_ | refine wStore1S hk ?_ | refine wStore1P hk ?_ | refine wStore1F hk ?_); clear hk; intro w1 hk; simp only [Act.put]))))
      exact post_1 rfl (by rfl) (hk.at (A := plC false zeroS) (by with_reducible repeat (first | exact List.mem_cons_self | apply List.mem_cons_of_mem))) (rowT_of (by rfl)) (by rfl) rfl ⟨by rw [R.out]; rfl, hk.mod.below⟩
set_option maxHeartbeats 1000000 in
set_option maxRecDepth 100000 in
theorem rf_claim_nil (a : Option Addr) (cap : Nat) (n : Int) (w : World) : Calls Tryd.prog 29 #[.slice a 0 cap, .int .i64 n] w fun e w' => e = .returned (.agg (plC false zeroS)) ∧ Below w.heap.size w w' := by
  have hk := Kn.nil [] w
  go_enter Tryd.func29, Tryd.ntmps29
  go_wp2_with (first | ((with_reducible show wpList _ _ _ _ _ _); (first | ((with_reducible show wpList _ _ _ (⟨_, _, _, _, _, some _⟩ :: _) _ _); refine wpList_skip (by rfl) ?_; simp only [Act.put, List.setIfInBounds_toArray, List.set_cons_succ, List.set_cons_zero]) | ((first | refine wBuild hk ?_ | refine wFieldZ hk ?_ | refine wField0 hk ?_ | refine wField hk ?_ | refine wIndexA0 hk ?_ | refine wIndexS0 hk ?_ | refine wIndexA hk ?_ | refine wIndexS hk ?_ | refine wLoadR hk ?_ | refine wLoad1 hk ?_ | refine wOldR hk ?_ | refine wOld1 hk ?_ | refine wOldC hk ?_ | refine wOldG hk ?_ | refine wAssertY hk ?_ | refine wAssertN hk ?_); simp only [Act.put, List.setIfInBounds_toArray, List.set_cons_succ, List.set_cons_zero]) | ((first | refine wBox hk ?_ | refine wBox1I hk ?_ | refine wBox1B hk ?_ | refine wBox1S hk ?_ | refine wBox1P hk ?_ | refine wBox1F hk ?_ | refine wAllocR hk ?_ | refine wAlloc1 hk ?_ | refine wMake hk ?_); clear hk; intro w1 hk; simp only [Act.put, List.setIfInBounds_toArray, List.set_cons_succ, List.set_cons_zero]) | ((first | refine wStoreR hk ?_ | refine wStore1I hk ?_ | refine wStore1B hk ?_ | refine wStore1S hk ?_ | refine wStore1P hk ?_ | refine wStore1F hk ?_); clear hk; intro w1 hk; simp only [Act.put]))))
  go_loopw [5] (fun j wr => j = .int .i64 0 ∧ Kn [] w wr [(w.heap.size, plC false zeroS, 65)]) (fun _ _ => 0)
  case atStart => exact ⟨rfl, hk⟩
  case round =>
    clear hk
    obtain ⟨rfl, hk⟩ := hrel
    go_wp2_with (first | ((with_reducible show wpList _ _ _ _ _ _); (first | ((with_reducible show wpList _ _ _ (⟨_, _, _, _, _, some _⟩ :: _) _ _); refine wpList_skip (by rfl) ?_; simp only [Act.put, List.setIfInBounds_toArray, List.set_cons_succ, List.set_cons_zero]) | ((first | refine wBuild hk ?_ | refine wFieldZ hk ?_ | refine wField0 hk ?_ | refine wField hk ?_ | refine wIndexA0 hk ?_ | refine wIndexS0 hk ?_ | refine wIndexA hk ?_ | refine wIndexS hk ?_ | refine wLoadR hk ?_ | refine wLoad1 hk ?_ | refine wOldR hk ?_ | refine wOld1 hk ?_ | refine wOldC hk ?_ | refine wOldG hk ?_ | refine wAssertY hk ?_ | refine wAssertN hk ?_); simp only [Act.put, List.setIfInBounds_toArray, List.set_cons_succ, List.set_cons_zero]) | ((first | refine wBox hk ?_ | refine wBox1I hk ?_ | refine wBox1B hk ?_ | refine wBox1S hk ?_ | refine wBox1P hk ?_ | refine wBox1F hk ?_ | refine wAllocR hk ?_ | refine wAlloc1 hk ?_ | refine wMake hk ?_); clear hk; intro w1 hk; simp only [Act.put, List.setIfInBounds_toArray, List.set_cons_succ, List.set_cons_zero]) | ((first | refine wStoreR hk ?_ | refine wStore1I hk ?_ | refine wStore1B hk ?_ | refine wStore1S hk ?_ | refine wStore1P hk ?_ | refine wStore1F hk ?_); clear hk; intro w1 hk; simp only [Act.put]))))
    exact post_1 rfl (by rfl) (hk.at (by with_reducible repeat (first | exact List.mem_cons_self | apply List.mem_cons_of_mem))) (rowT_of (by rfl)) (by rfl) rfl ⟨rfl, hk.mod.below⟩
theorem rf_claim (cl : List C2) (hcl : cl.length < 4000000000000) (v : Value) (n : Int) (w : World) (h : SlcC w v cl) : Calls Tryd.prog 29 #[v, .int .i64 n] w fun e w' => e = .returned (.agg (plC (findC cl n).isSome (stO (findC cl n)))) ∧ Below w.heap.size w w' := by
  rcases h with ⟨⟨a, cap, rfl⟩, rfl⟩ | ⟨b, off, cap, rfl, hb, hc⟩
  · exact rf_claim_nil a cap n w
  · exact rf_claim_some cl hcl b off cap n w hb hc
end Go.Proofs.YtamiichlbmllcaaDoor
