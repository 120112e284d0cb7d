/-
  PROVED HERE: for every raw list of instructions, every two raw states and every list of claims, 'suretykeep.Found' returns true and leaves its arguments as they read before: where no jump goes back and Check takes the program with some claims, Prove finds some, each of which lies in one of those. Its condition: the table 'shapes' of package code holds what its own initialiser lays (the card ties that to the program's text).
-/
import Derived.Test.YtamiichlbmllcaaGreatDoorQOpenT
import Derived.Test.YtamiichlbmllcaaGreatDoorQPrI
import Derived.Test.YtamiichlbmllcaaGreatDoorQChL
import Derived.SizedLaws
import Derived.Test.YtamiichlbmllcaaGreatDoorCards
import Derived.Test.YtamiichlbmllcaaGreatDoorTie
/-
  suretykeep.both: the raw claims, and those that Prove finds, if it does.
-/
namespace Go.Proofs.YtamiichlbmllcaaGreatDoor
open Go.RowKit
theorem Tryz.infoCls : (Tryz.prog.info? 41).map (fun i => (i.zero, i.size, i.bytes)) = some (some (.slice none 0 0), 1, 24) := by kernel_rfl
/-- lists of claims, each with what it holds -/
def BothL (w : World) (vs : List Value) (cs : List (List C2)) : Prop := vs.length = cs.length ∧ ∀ i (h : i < vs.length) (h' : i < cs.length), SlcC w vs[i] cs[i]
theorem BothL.below {w w' : World} {vs : List Value} {cs : List (List C2)} (h : BothL w vs cs) (hb : Below w.heap.size w w') : BothL w' vs cs := ⟨h.1, fun i h1 h2 => (h.2 i h1 h2).below hb (Nat.le_refl _)⟩
theorem both_one {w : World} {v : Value} {c : List C2} (h : SlcC w v c) : BothL w [v] [c] := ⟨rfl, fun i h1 _ => by
  match i, h1 with
  | 0, _ => exact h
  | j + 1, hj => simp at hj⟩
theorem both_two {w : World} {v u : Value} {c d : List C2} (h : SlcC w v c) (k : SlcC w u d) : BothL w [v, u] [c, d] := ⟨rfl, fun i h1 _ => by
  match i, h1 with
  | 0, _ => exact h
  | 1, _ => exact k
  | j + 2, hj => exact absurd hj (by simp)⟩
/-- what both answers -/
def BothV (w w' : World) (l : List I5) (e : St) (cr : List C2) (r : Ending) : Prop := ∃ lv vs cs, r = .returned lv ∧ w'.ownsRow w.heap.size 41 1 lv vs.length vs ∧ BothL w' vs cs ∧ (cs = [cr] ∨ ∃ cl, cs = [cr, cl] ∧ In64 l e cl ∧ cl.length ≤ 64) ∧ Below w.heap.size w w'
set_option maxHeartbeats 2000000 in
set_option maxRecDepth 100000 in
theorem both_any (l : List I5) (hl : AllFit l) (hr : rightR l = (0, 0)) (h64 : ∀ i, i < l.length → I64 (insAt l i).k) (e : St) (hst : isStR e = true) (he : e.in64) (cr : List C2) (b cap : Nat) (ra : Option Addr) (rc : Nat) (w : World) (hs : Shapes w) (h : Slc w (.slice (some ⟨b, 0, none⟩) l.length cap) l) (hc : SlcC w (.slice ra cr.length rc) cr) :
    Calls Tryz.prog 21 #[.slice (some ⟨b, 0, none⟩) l.length cap, .agg (stC e), .slice ra cr.length rc] w fun r w' => BothV w w' l e cr r := by
  obtain ⟨i0, ihi, ih0, ihs, ih2⟩ := info_parts Tryz.infoCls
  have hk := Kn.nil [] w
  have HS := hide hs
  have HV := hide h
  have HC := hide hc
  have HL := hide hl
  have HR := hide hr
  have H64 := hide h64
  have HE := hide hst
  have HEI := hide he
  clear hs h hc hl hr h64 hst he
  go_enter Tryz.func21, Tryz.ntmps21
  go_wp2_with (first | (have HW1 := hide hk.mod.size; refine wKnAlloc hk ?_; clear hk; intro wq hk) | ((with_reducible show wpList _ _ _ _ _ _); (first | ((with_reducible show wpList _ _ _ (⟨_, _, _, _, _, some _⟩ :: _) _ _); refine wpList_skip (by rfl) ?_; simp only [Act.put, List.setIfInBounds_toArray, List.set_cons_succ, List.set_cons_zero]) | ((first | refine wBuild hk ?_ | refine wFieldZ hk ?_ | refine wField0 hk ?_ | refine wField hk ?_ | refine wIndexA0 hk ?_ | refine wIndexS0 hk ?_ | refine wIndexA hk ?_ | refine wIndexS hk ?_ | refine wLoadR hk ?_ | refine wLoad1 hk ?_ | refine wOldR hk ?_ | refine wOld1 hk ?_ | refine wOldC hk ?_ | refine wOldG hk ?_ | refine wAssertY hk ?_ | refine wAssertN hk ?_); simp only [Act.put, List.setIfInBounds_toArray, List.set_cons_succ, List.set_cons_zero]) | ((first | refine wBox hk ?_ | refine wBox1I hk ?_ | refine wBox1B hk ?_ | refine wBox1S hk ?_ | refine wBox1P hk ?_ | refine wBox1F hk ?_ | refine wAllocR hk ?_ | refine wAlloc1 hk ?_ | refine wMake hk ?_); clear hk; intro w1 hk; simp only [Act.put, List.setIfInBounds_toArray, List.set_cons_succ, List.set_cons_zero]) | ((first | refine wStoreR hk ?_ | refine wStore1I hk ?_ | refine wStore1B hk ?_ | refine wStore1S hk ?_ | refine wStore1P hk ?_ | refine wStore1F hk ?_); clear hk; intro w1 hk; simp only [Act.put]))))
  have hk0 := hk.mod.below
  have HWQ : Hid (w1.heap.size < wq.heap.size) := hide (lt_of_block (hk.at (A := #[.slice ra cr.length rc]) (by with_reducible repeat (first | exact List.mem_cons_self | apply List.mem_cons_of_mem))))
  refine (SProve_any l H64.out e HEI.out _ wq (HS.out.below hk0 HS.out.1) (HV.out.below hk0 (Nat.le_refl _))).mono ?_
  rintro x w3 ⟨cv, er, pl, cl, rfl, hP, hown, hb⟩
  replace hk := hk.call hb
  have hb3 := hk.mod.below
  have hw1 : w.heap.size ≤ w1.heap.size := HW1.out
  have HOL : Hid (w3.ownsRow w.heap.size 41 1 (.slice (some ⟨w1.heap.size, 0, none⟩) 1 1) 1 [.slice ra cr.length rc]) := hide ⟨rfl, Or.inr ⟨w1.heap.size, 1, _, rfl, hw1, hk.at (A := #[.slice ra cr.length rc]) (by with_reducible repeat (first | exact List.mem_cons_self | apply List.mem_cons_of_mem)), by omega, by unfold maxLen; omega, rfl, rfl⟩⟩
  have hz3 := hb3.size
  rcases prove_is HL.out H64.out HE.out HEI.out HR.out hP with ⟨h0, rfl, _, _, _⟩ | ⟨rfl, rfl, _, hin, hcl⟩
  · have hq : (er == 0) = false := by rw [beq_eq_false_iff_ne]; exact h0
    obtain ⟨ca, cc, rfl⟩ : ∃ a c, cv = .slice a 0 c := by
      rcases hown.2 with ⟨h1, _⟩ | ⟨g, cap, cur, h1, _⟩
      · exact ⟨_, _, h1⟩
      · exact ⟨_, _, h1⟩
    clear hown hP hb
    have HCR := hide (HC.out.below hb3 (Nat.le_refl _))
    go_wp2_with (first | ((with_reducible show wpList _ _ _ _ _ _); (first | ((with_reducible show wpList _ _ _ (⟨_, _, _, _, _, some _⟩ :: _) _ _); refine wpList_skip (by rfl) ?_; simp only [Act.put, List.setIfInBounds_toArray, List.set_cons_succ, List.set_cons_zero]) | ((first | refine wBuild hk ?_ | refine wFieldZ hk ?_ | refine wField0 hk ?_ | refine wField hk ?_ | refine wIndexA0 hk ?_ | refine wIndexS0 hk ?_ | refine wIndexA hk ?_ | refine wIndexS hk ?_ | refine wLoadR hk ?_ | refine wLoad1 hk ?_ | refine wOldR hk ?_ | refine wOld1 hk ?_ | refine wOldC hk ?_ | refine wOldG hk ?_ | refine wAssertY hk ?_ | refine wAssertN hk ?_); simp only [Act.put, List.setIfInBounds_toArray, List.set_cons_succ, List.set_cons_zero]) | ((first | refine wBox hk ?_ | refine wBox1I hk ?_ | refine wBox1B hk ?_ | refine wBox1S hk ?_ | refine wBox1P hk ?_ | refine wBox1F hk ?_ | refine wAllocR hk ?_ | refine wAlloc1 hk ?_ | refine wMake hk ?_); clear hk; intro w1 hk; simp only [Act.put, List.setIfInBounds_toArray, List.set_cons_succ, List.set_cons_zero]) | ((first | refine wStoreR hk ?_ | refine wStore1I hk ?_ | refine wStore1B hk ?_ | refine wStore1S hk ?_ | refine wStore1P hk ?_ | refine wStore1F hk ?_); clear hk; intro w1 hk; simp only [Act.put]))))
    go_ret
    exact ⟨_, [.slice ra cr.length rc], [cr], rfl, HOL.out, both_one HCR.out, Or.inl rfl, hb3⟩
  · have HLT : Hid (∀ k, cv.ownBlock = some k → w1.heap.size < k) := hide fun k hk => by have h1 := (hown.lt k hk).1; have h2 := HWQ.out; omega
    have HOWN := hide hown
    obtain ⟨ca, cc, rfl⟩ : ∃ a c, cv = .slice a cl.length c := by
      rcases hown.2 with ⟨h1, h2⟩ | ⟨g, cap, cur, h1, _⟩
      · exact ⟨none, 0, by rw [h1, h2]⟩
      · exact ⟨_, _, h1⟩
    have HIN := hide hin
    have HB3 := hide hb3
    clear hown hP hin hb hk hk0 hb3
    go_wp2_with (at_builtin; go_must (refine wpList_append_own _ rfl (.tmp 22) (.tmp 24) 35 rfl w.heap.size 41 i0 _ 1 24 Tryz.underlying35 ihi ih0 ihs ih2 rfl (by decide) (.slice (some ⟨w1.heap.size, 0, none⟩) 1 1) 1 [.slice ra cr.length rc] rfl ?o1 ⟨w3.heap.size, 0, none⟩ 1 1 [.slice ca cl.length cc] rfl rfl ?n1 ?u1 ?m1 ?b1 ?s1 ?_))
    case o1 => exact World.ownsRow.alloc HOL.out _
    case n1 => exact one_new _ _ _ _ rfl
    case u1 => intro u hu; simp at hu; rw [hu]; rfl
    case m1 => unfold maxLen; omega
    case b1 => omega
    case s1 => simp; omega
    intro v4 w4 hown4 hg4 _
    have hb4 : Below w.heap.size w w4 := (HB3.out.alloc hz3 _).grown hg4 (by simp; omega) (fun k hk => by simp [Value.ownBlock] at hk; omega)
    have HO4 := hide hown4
    have HSC4 : Hid (SlcC w4 (.slice ca cl.length cc) cl) := hide (own_slcC ((World.ownsRow.alloc HOWN.out _).kept hg4 (Or.inr fun e => by have := HLT.out w1.heap.size e; omega)) rfl)
    have HCR := hide (HC.out.below hb4 (Nat.le_refl _))
    clear hg4 hown4
    go_wp2
    go_ret
    exact ⟨_, [.slice ra cr.length rc, .slice ca cl.length cc], [cr, cl], rfl, HO4.out, both_two HCR.out HSC4.out, Or.inr ⟨cl, rfl, HIN.out, hcl⟩, hb4⟩
end Go.Proofs.YtamiichlbmllcaaGreatDoor
/-
  The lists that both answers: each with what a check wants of it.
-/
namespace Go.Proofs.YtamiichlbmllcaaGreatDoor
open Go.RowKit
def csAt (cs : List (List C2)) (i : Nat) : List C2 := cs.getD i []
theorem own_at {w : World} {base : Nat} {lv : Value} {vs : List Value} (h : w.ownsRow base 41 1 lv vs.length vs) (hp : 0 < vs.length) : ∃ g cap A, lv = .slice (some ⟨g, 0, none⟩) vs.length cap ∧ base ≤ g ∧ At w g A 41 ∧ ∀ i (h : i < vs.length), A[i * 1]? = some vs[i] := by
  rcases h.2 with ⟨_, h0⟩ | ⟨g, cap, cur, rfl, hb, hg, _, _, _, ht⟩
  · omega
  · refine ⟨g, cap, cur, rfl, hb, hg, fun i hi => ?_⟩
    have : (cur.toList.take (vs.length * 1))[i]? = vs[i]? := by rw [ht]
    rw [List.getElem?_take, if_pos (by omega), Array.getElem?_toList, List.getElem?_eq_getElem hi] at this
    rw [Nat.mul_one]; exact this
theorem SlcC.len {w : World} {v : Value} {cl : List C2} (h : SlcC w v cl) : ∃ a c, v = .slice a cl.length c := by
  rcases h with ⟨⟨a, c, rfl⟩, rfl⟩ | ⟨b, off, cap, rfl, _⟩
  · exact ⟨a, c, rfl⟩
  · exact ⟨_, _, rfl⟩
/-- one of the lists: where it lies, what it holds, what a check wants -/
def LstOk (w : World) (P : List I5) (e : St) (A : Array Value) (cs : List (List C2)) (i : Nat) : Prop := ∃ ca cc, A[i * 1]? = some (.slice ca (csAt cs i).length cc) ∧ SlcC w (.slice ca (csAt cs i).length cc) (csAt cs i) ∧ In64 P e (csAt cs i) ∧ (csAt cs i).length < 4000000000000
theorem both_lists {w w1 : World} {P : List I5} {e : St} {cr : List C2} {lv : Value} {vs : List Value} {cs : List (List C2)} (hK : ∀ i, i < P.length → I64 (insAt P i).k) (hE : e.in64) (hC : ∀ i, i < cr.length → St.in64 (clAt cr i).st) (hl : cr.length < 4000000000000)
    (hown : w.ownsRow w1.heap.size 41 1 lv vs.length vs) (hB : BothL w vs cs) (hcs : cs = [cr] ∨ ∃ cl, cs = [cr, cl] ∧ In64 P e cl ∧ cl.length ≤ 64) :
    ∃ g cap A, lv = .slice (some ⟨g, 0, none⟩) cs.length cap ∧ w1.heap.size ≤ g ∧ At w g A 41 ∧ cs.length ≤ 2 ∧ ∀ i, i < cs.length → LstOk w P e A cs i := by
  have hp : 0 < vs.length := by rw [hB.1]; rcases hcs with h | ⟨cl, h, _⟩ <;> rw [h] <;> simp
  obtain ⟨g, cap, A, rfl, hg, hat, hA⟩ := own_at hown hp
  refine ⟨g, cap, A, by rw [hB.1], hg, hat, by rcases hcs with h | ⟨cl, h, _⟩ <;> rw [h] <;> simp, fun i hi => ?_⟩
  have hv : i < vs.length := by rw [hB.1]; exact hi
  have h1 := hB.2 i hv hi
  have h2 := hA i hv
  have hc : csAt cs i = cs[i] := by unfold csAt; simp [List.getD, hi]
  obtain ⟨a, c, hs⟩ := h1.len
  refine ⟨a, c, ?_, ?_, ?_⟩
  · rw [h2, hs, hc]
  · rw [hc, ← hs]; exact h1
  · rw [hc]
    rcases hcs with rfl | ⟨cl, rfl, hin, hcl⟩
    · match i, hi with
      | 0, _ => exact ⟨⟨hK, hE, hC⟩, hl⟩
      | j + 1, hj => exact absurd hj (by simp)
    · match i, hi with
      | 0, _ => exact ⟨⟨hK, hE, hC⟩, hl⟩
      | 1, _ => exact ⟨hin, by show cl.length < _; omega⟩
      | j + 2, hj => exact absurd hj (by simp)
theorem scheck_fst {l : List I5} {e : St} {cl : List C2} (hr : rightR l = (0, 0))   : scheckR l e cl = ((checkR l e cl).1, ((checkR l e cl).2 : Int)) := by unfold scheckR; rw [if_pos hr]
theorem Kn.none {M : List Nat} {w0 w : World} {L : RowL} (h : Kn M w0 w L) : Kn M w0 w [] := h.sub (List.nil_sublist _)
end Go.Proofs.YtamiichlbmllcaaGreatDoor
/-
  Where no jump goes back, Prove finds claims that lie in those that Check takes: what Found reckons.
-/
namespace Go.Proofs.YtamiichlbmllcaaGreatDoor
open Go.RowKit
/-- a jump that goes back is turned to the end -/
def fwdI (len i : Nat) (x : I5) : I5 := if 9 ≤ x.o ∧ x.k ≤ i then ⟨x.o, x.a, x.b, x.c, (len : Int) - 1⟩ else x
def fwdU (P : List I5) (n : Nat) : List I5 := P.mapIdx fun i x => if i < n then fwdI P.length i x else x
theorem fwdU_len (P : List I5) (n : Nat) : (fwdU P n).length = P.length := by unfold fwdU; simp
theorem fwdU_at {P : List I5} {n i : Nat} (h : i < P.length) : insAt (fwdU P n) i = if i < n then fwdI P.length i (insAt P i) else insAt P i := by
  rw [insAt_get (by rw [fwdU_len]; exact h), insAt_get h]
  unfold fwdU
  rw [List.getElem_mapIdx]
theorem fwdU_zero (P : List I5) : fwdU P 0 = P := by
  apply List.ext_getElem (fwdU_len P 0)
  intro i h1 h2
  have := fwdU_at (P := P) (n := 0) h2
  rw [insAt_get h1, insAt_get h2, if_neg (by omega)] at this
  exact this
theorem fwdI_o (len i : Nat) (x : I5) : (fwdI len i x).o = x.o := by unfold fwdI; split <;> rfl
theorem fwdI_fits {len i : Nat} {x : I5} (hl : 0 < len) (h : x.fits len = true) : (fwdI len i x).fits len = true := by
  unfold fwdI
  split
  · rename_i hc
    unfold I5.fits fitsB at h ⊢
    simp only [Bool.and_eq_true] at h ⊢
    refine ⟨h.1, ?_⟩
    have e : kbytes x.o = 1 := by unfold kbytes; rw [if_neg (by omega), if_pos hc.1]
    show kOk (kbytes x.o) ((len : Int) - 1) len = true
    rw [e]
    unfold kOk
    rw [if_neg (by omega), if_pos rfl]
    simp only [Bool.and_eq_true, decide_eq_true_eq]
    omega
  · exact h
theorem fwd_fit {P : List I5} (h : AllFit P) : AllFit (fwdU P P.length) := by
  refine ⟨by rw [fwdU_len]; exact h.1, by rw [fwdU_len]; exact h.2.1, fun i hi => ?_⟩
  have hi' : i < P.length := by rw [fwdU_len] at hi; exact hi
  rw [← insAt_get hi, fwdU_at hi', if_pos hi', fwdU_len]
  exact fwdI_fits h.1 (h.fit hi')
theorem fwd_right {P : List I5} (h : AllFit P) : rightR (fwdU P P.length) = (0, 0) := by
  have := fwd_fit h
  exact rightR_yes this.1 this.2.1 this.2.2
theorem fwd_k {P : List I5} (h : AllFit P) (hk : ∀ i, i < P.length → I64 (insAt P i).k) : ∀ i, i < (fwdU P P.length).length → I64 (insAt (fwdU P P.length) i).k := by
  intro i hi
  have hi' : i < P.length := by rw [fwdU_len] at hi; exact hi
  rw [fwdU_at hi', if_pos hi']
  unfold fwdI
  split
  · have := h.2.1
    have := h.1
    unfold I64
    simp only
    omega
  · exact hk i hi'
/-- no jump goes back any more -/
theorem fwd_back {P : List I5} (hlast : (insAt P (P.length - 1)).o < 9) (m : Nat) : backB (fwdU P P.length) m = false := by
  unfold backB
  rw [List.any_eq_false]
  intro n hn
  rw [fwdU_len, List.mem_range] at hn
  rw [fwdU_at hn, if_pos hn, fwdI_o]
  simp only [Bool.and_eq_true, decide_eq_true_eq, not_and]
  rintro ⟨h9, hk⟩
  have hne : n ≠ P.length - 1 := by intro e; rw [e] at h9; omega
  unfold fwdI at hk
  split at hk
  · simp only at hk; omega
  · rename_i hc
    have : ¬ (insAt P n).k ≤ n := fun hh => hc ⟨h9, hh⟩
    omega
theorem progL_last (l : List I5) : (insAt (progL l) ((progL l).length - 1)).o < 9 := by
  rw [insAt_get (by rw [progL_len]; omega)]
  unfold progL
  rw [List.getElem_append_right (by simp)]
  simp [I5.zero]
theorem layU_app (cl : List C2) (c : C2) : ∀ i, i ≤ cl.length → layU (cl ++ [c]) i = layU cl i
  | 0, _ => rfl
  | i + 1, hi => by
    have e : clAt (cl ++ [c]) i = clAt cl i := by unfold clAt; rw [List.getElem?_append_left (by omega)]
    rw [layU, layU, layU_app cl c i (by omega), e]
theorem lay_snoc (cl : List C2) (c : C2) : layR (cl ++ [c]) = updW (layR cl) c.pl.toNat (some c.st) := by
  unfold layR
  rw [List.length_append, List.length_singleton, layU, layU_app cl c _ (Nat.le_refl _)]
  have e : clAt (cl ++ [c]) cl.length = c := by unfold clAt; simp
  rw [e]
theorem lay_cls (W : Nat → Option St) : ∀ n k, layR (clsW n W) k = if k < n then W k else none
  | 0, k => rfl
  | n + 1, k => by
    cases h : W n with
    | none =>
      rw [clsW_none h, lay_cls W n k]
      by_cases h1 : k < n
      · rw [if_pos h1, if_pos (by omega)]
      · rw [if_neg h1]
        by_cases h2 : k = n
        · rw [if_pos (by omega), h2, h]
        · rw [if_neg (by omega)]
    | some s =>
      rw [clsW_some h, lay_snoc]
      unfold updW
      simp only [Int.toNat_natCast]
      by_cases h2 : k = n
      · rw [if_pos h2, if_pos (by omega), h2, h]
      · rw [if_neg h2, lay_cls W n k]
        by_cases h1 : k < n
        · rw [if_pos h1, if_pos (by omega)]
        · rw [if_neg h1, if_neg (by omega)]
theorem mark_lt {p : List I5} (hp : Fit p) {m : Nat} (h : markB p m = true) : m < p.length := by
  unfold markB at h
  rw [List.any_eq_true] at h
  obtain ⟨x, hx, h⟩ := h
  simp only [Bool.and_eq_true, decide_eq_true_eq] at h
  obtain ⟨i, hi, rfl⟩ := List.getElem_of_mem hx
  have := hp.jump i hi (by rw [insAt_get hi]; exact h.1)
  rw [insAt_get hi, h.2, Int.toNat_natCast] at this
  exact this.2
theorem lay_inv {p : List I5} (hp : Fit p) {v : PS} (hv : PInv p v) : layR (clsW p.length v.W) = v.W := by
  funext k
  rw [lay_cls]
  split
  · rfl
  · rename_i hk
    cases h : v.W k with
    | none => rfl
    | some s => exact absurd (mark_lt hp (hv.mark k s h)) hk
theorem layU_from' {cl : List C2} {k : Nat} {s : St} : ∀ (i : Nat), i ≤ cl.length → layU cl i k = some s → ∃ j, j < i ∧ (clAt cl j).pl.toNat = k ∧ (clAt cl j).st = s
  | 0, _, h => by cases h
  | i + 1, hi, h => by
    unfold layU updW at h
    split at h
    · rename_i e
      exact ⟨i, by omega, e.symm, by simpa using h⟩
    · obtain ⟨j, h1, h2⟩ := layU_from' i (by omega) h
      exact ⟨j, by omega, h2⟩
/-- THE FINDING: Prove finds claims, and each lies in one that Check takes -/
theorem found_is {p : List I5} (hl : AllFit p) (h64 : ∀ i, i < p.length → I64 (insAt p i).k) (hr : rightR p = (0, 0)) (hb : ∀ m, backB p m = false) {e : St} {cl : List C2} (hin : In64 p e cl) (hck : (checkR p e cl).1 = 0) {c : List C2} {er pl : Int} (h : SProveP p e c er pl) :
    er = 0 ∧ c.length ≤ 64 ∧ ∀ k, k < c.length → ∃ j, j < cl.length ∧ (clAt cl j).pl = (clAt c k).pl ∧ liesR (clAt c k).st (clAt cl j).st = true := by
  obtain ⟨ht, hst, hfw⟩ := hl.taken hin hck
  have hf := hl.fitP h64
  rcases h with ⟨h, _⟩ | ⟨_, h⟩
  · exact absurd hr h
  · rcases h with ⟨h, _⟩ | ⟨_, vf, hs, h⟩
    · rw [hst] at h; cases h
    · have hI := hs.inv hf ht.eok (zero_inv p)
      have hfo := hs.found hf ht hb (zero_inv p) (fun j => rfl)
      have hc : checkR p e (clsW p.length vf.W) = (0, 0) := by
        unfold checkR
        rw [if_pos hst, if_neg (by rw [hI.fw]; omega), lay_inv hf hI]
        exact hfo.2
      rcases h with ⟨h1, _⟩ | ⟨_, h2, h3, _⟩
      · rw [hc] at h1; exact absurd rfl h1
      · refine ⟨h3, by rw [h2]; exact Nat.le_trans (clsW_len _ _) hl.2.1, fun k hk => ?_⟩
        rw [h2] at hk ⊢
        obtain ⟨i, hi, hW, hpl⟩ := clsW_mem (clAt_mem hk)
        have hlo := hfo.1 i
        rw [hW] at hlo
        obtain ⟨t, ht2, hlies⟩ := liesO_some hlo
        obtain ⟨j, hj, h5, h6⟩ := layU_from' cl.length (Nat.le_refl _) ht2
        obtain ⟨⟨q, hq, _⟩, _⟩ := fwR_good cl (-1) 0 (by omega) hfw _ (clAt_mem hj)
        refine ⟨j, hj, ?_, by rw [h6]; exact hlies⟩
        rw [hq] at h5 ⊢
        rw [Int.toNat_natCast] at h5
        rw [hpl, h5]
end Go.Proofs.YtamiichlbmllcaaGreatDoor
/-
  suretykeep.lies: does a state lie in another one?
-/
namespace Go.Proofs.YtamiichlbmllcaaGreatDoor
open Go.RowKit
set_option maxHeartbeats 2000000 in
set_option maxRecDepth 100000 in
theorem kLies_any (s t : Nat → R2) (w : World) : Calls Tryz.prog 30 #[.agg (stC s), .agg (stC t)] w fun e w' => e = .returned (.bool (liesR s t)) ∧ Below w.heap.size w w' := by
  have hk := Kn.nil [] w
  go_enter Tryz.func30, Tryz.ntmps30
  go_wp2_with (first | ((with_reducible show wpList _ _ _ (⟨some 2, _, _, _, _, _⟩ :: _) _ _); refine wBox hk ?_; clear hk; intro wa hk; simp only [Act.put, List.setIfInBounds_toArray, List.set_cons_succ, List.set_cons_zero]) | ((with_reducible show wpList _ _ _ _ _ _); (first | ((with_reducible show wpList _ _ _ (⟨_, _, _, _, _, some _⟩ :: _) _ _); refine wpList_skip (by rfl) ?_; simp only [Act.put, List.setIfInBounds_toArray, List.set_cons_succ, List.set_cons_zero]) | ((first | refine wBuild hk ?_ | refine wFieldZ hk ?_ | refine wField0 hk ?_ | refine wField hk ?_ | refine wIndexA0 hk ?_ | refine wIndexS0 hk ?_ | refine wIndexA hk ?_ | refine wIndexS hk ?_ | refine wLoadR hk ?_ | refine wLoad1 hk ?_ | refine wOldR hk ?_ | refine wOld1 hk ?_ | refine wOldC hk ?_ | refine wOldG hk ?_ | refine wAssertY hk ?_ | refine wAssertN hk ?_); simp only [Act.put, List.setIfInBounds_toArray, List.set_cons_succ, List.set_cons_zero]) | ((first | refine wBox hk ?_ | refine wBox1I hk ?_ | refine wBox1B hk ?_ | refine wBox1S hk ?_ | refine wBox1P hk ?_ | refine wBox1F hk ?_ | refine wAllocR hk ?_ | refine wAlloc1 hk ?_ | refine wMake hk ?_); clear hk; intro w1 hk; simp only [Act.put, List.setIfInBounds_toArray, List.set_cons_succ, List.set_cons_zero]) | ((first | refine wStoreR hk ?_ | refine wStore1I hk ?_ | refine wStore1B hk ?_ | refine wStore1S hk ?_ | refine wStore1P hk ?_ | refine wStore1F hk ?_); clear hk; intro w1 hk; simp only [Act.put]))))
  go_loopw [5] (fun j wr => ∃ n : Nat, n ≤ 8 ∧ j = .int .i64 n ∧ (∀ i, i < n → inRg (s i) (t i) = true) ∧ Kn [] w wr [(wa.heap.size, stC t, 30), (w.heap.size, stC s, 30)]) (fun j _ => 8 - (intOf j).toNat)
  case atStart => exact ⟨0, by omega, rfl, fun i hi => by omega, hk⟩
  case round =>
    clear hk
    obtain ⟨n, hn, rfl, hall, hk⟩ := hrel
    have HA := hide hall
    clear hall
    by_cases hlt : n < 8
    · by_cases h1 : (s n).lo < (t n).lo
      · have HE : Hid (liesR s t = false) := hide (liesR_no hlt (by unfold inRg; simp; omega))
        have hd : decide ((s n).lo < (t n).lo) = true := by simpa using h1
        clear h1
        go_wp2_with (first | ((with_reducible show wpList _ _ _ _ _ _); (first | ((with_reducible show wpList _ _ _ (⟨_, _, _, _, _, some _⟩ :: _) _ _); refine wpList_skip (by rfl) ?_; simp only [Act.put, List.setIfInBounds_toArray, List.set_cons_succ, List.set_cons_zero]) | ((first | refine wBuild hk ?_ | refine wFieldZ hk ?_ | refine wField0 hk ?_ | refine wField hk ?_ | refine wIndexA0 hk ?_ | refine wIndexS0 hk ?_ | refine wIndexA hk ?_ | refine wIndexS hk ?_ | refine wLoadR hk ?_ | refine wLoad1 hk ?_ | refine wOldR hk ?_ | refine wOld1 hk ?_ | refine wOldC hk ?_ | refine wOldG hk ?_ | refine wAssertY hk ?_ | refine wAssertN hk ?_); simp only [Act.put, List.setIfInBounds_toArray, List.set_cons_succ, List.set_cons_zero]) | ((first | refine wBox hk ?_ | refine wBox1I hk ?_ | refine wBox1B hk ?_ | refine wBox1S hk ?_ | refine wBox1P hk ?_ | refine wBox1F hk ?_ | refine wAllocR hk ?_ | refine wAlloc1 hk ?_ | refine wMake hk ?_); clear hk; intro w1 hk; simp only [Act.put, List.setIfInBounds_toArray, List.set_cons_succ, List.set_cons_zero]) | ((first | refine wStoreR hk ?_ | refine wStore1I hk ?_ | refine wStore1B hk ?_ | refine wStore1S hk ?_ | refine wStore1P hk ?_ | refine wStore1F hk ?_); clear hk; intro w1 hk; simp only [Act.put]))))
        (refine wp_regK hk (.op 0 (.op 1 (.op 2 (.op 3 (.op 4 (.op 5 (.op 6 (.op 7 (.op 8 (.op 9 (.op 10 (.op 11 (.op 12 (.op 13 (.op 14 (.op 15 (.op 16 (.op 17 (.op 18 (.op 19 .nil)))))))))))))))))))) (fun i => decide (i < 20)) mixT (by decide) (by kernel_rfl) (by kernel_rfl) ?_; clear hk; intro w1 hk)
        (repeat ((first | refine sMove hk ?_ | refine sAssign hk ?_ | refine sExtract hk ?_ | refine sFieldZ hk ?_ | refine sField0 hk ?_ | refine sField hk ?_ | refine sIndexA0 hk ?_ | refine sIndexS0 hk ?_ | refine sIndexA hk ?_ | refine sIndexS hk ?_ | refine sLoadR hk ?_ | refine sLoad1 hk ?_ | refine sOldR hk ?_ | refine sOld1 hk ?_ | refine sOldC hk ?_ | refine sOldG hk ?_ | refine sBuild hk ?_ | refine sPickT hk ?_ | refine sPickF hk ?_ | refine sLss hk ?_ | refine sLeq hk ?_ | refine sGtr hk ?_ | refine sGeq hk ?_ | refine sEql hk ?_ | refine sNot hk ?_ | refine sSkip hk ?_ | refine sSkipA hk ?_); simp only [Act.put, List.setIfInBounds_toArray, List.set_cons_succ, List.set_cons_zero]; (try rw [hd])))
        refine tNil ?_
        go_wp2_with (first | ((with_reducible show wpList _ _ _ _ _ _); (first | ((with_reducible show wpList _ _ _ (⟨_, _, _, _, _, some _⟩ :: _) _ _); refine wpList_skip (by rfl) ?_; simp only [Act.put, List.setIfInBounds_toArray, List.set_cons_succ, List.set_cons_zero]) | ((first | refine wBuild hk ?_ | refine wFieldZ hk ?_ | refine wField0 hk ?_ | refine wField hk ?_ | refine wIndexA0 hk ?_ | refine wIndexS0 hk ?_ | refine wIndexA hk ?_ | refine wIndexS hk ?_ | refine wLoadR hk ?_ | refine wLoad1 hk ?_ | refine wOldR hk ?_ | refine wOld1 hk ?_ | refine wOldC hk ?_ | refine wOldG hk ?_ | refine wAssertY hk ?_ | refine wAssertN hk ?_); simp only [Act.put, List.setIfInBounds_toArray, List.set_cons_succ, List.set_cons_zero]) | ((first | refine wBox hk ?_ | refine wBox1I hk ?_ | refine wBox1B hk ?_ | refine wBox1S hk ?_ | refine wBox1P hk ?_ | refine wBox1F hk ?_ | refine wAllocR hk ?_ | refine wAlloc1 hk ?_ | refine wMake hk ?_); clear hk; intro w1 hk; simp only [Act.put, List.setIfInBounds_toArray, List.set_cons_succ, List.set_cons_zero]) | ((first | refine wStoreR hk ?_ | refine wStore1I hk ?_ | refine wStore1B hk ?_ | refine wStore1S hk ?_ | refine wStore1P hk ?_ | refine wStore1F hk ?_); clear hk; intro w1 hk; simp only [Act.put]))))
        go_ret
        exact ⟨ret_bool HE.out.symm, hk.mod.below⟩
      · have hd : decide ((s n).lo < (t n).lo) = false := by simpa using h1
        by_cases he : (t n).hi < (s n).hi
        · have HE : Hid (liesR s t = false) := hide (liesR_no hlt (by unfold inRg; simp; omega))
          have hf : decide ((t n).hi < (s n).hi) = true := by simpa using he
          clear he h1
          go_wp2_with (first | ((with_reducible show wpList _ _ _ _ _ _); (first | ((with_reducible show wpList _ _ _ (⟨_, _, _, _, _, some _⟩ :: _) _ _); refine wpList_skip (by rfl) ?_; simp only [Act.put, List.setIfInBounds_toArray, List.set_cons_succ, List.set_cons_zero]) | ((first | refine wBuild hk ?_ | refine wFieldZ hk ?_ | refine wField0 hk ?_ | refine wField hk ?_ | refine wIndexA0 hk ?_ | refine wIndexS0 hk ?_ | refine wIndexA hk ?_ | refine wIndexS hk ?_ | refine wLoadR hk ?_ | refine wLoad1 hk ?_ | refine wOldR hk ?_ | refine wOld1 hk ?_ | refine wOldC hk ?_ | refine wOldG hk ?_ | refine wAssertY hk ?_ | refine wAssertN hk ?_); simp only [Act.put, List.setIfInBounds_toArray, List.set_cons_succ, List.set_cons_zero]) | ((first | refine wBox hk ?_ | refine wBox1I hk ?_ | refine wBox1B hk ?_ | refine wBox1S hk ?_ | refine wBox1P hk ?_ | refine wBox1F hk ?_ | refine wAllocR hk ?_ | refine wAlloc1 hk ?_ | refine wMake hk ?_); clear hk; intro w1 hk; simp only [Act.put, List.setIfInBounds_toArray, List.set_cons_succ, List.set_cons_zero]) | ((first | refine wStoreR hk ?_ | refine wStore1I hk ?_ | refine wStore1B hk ?_ | refine wStore1S hk ?_ | refine wStore1P hk ?_ | refine wStore1F hk ?_); clear hk; intro w1 hk; simp only [Act.put]))))
          (refine wp_regK hk (.op 0 (.op 1 (.op 2 (.op 3 (.op 4 (.op 5 (.op 6 (.op 7 (.op 8 (.op 9 (.op 10 (.op 11 (.op 12 (.op 13 (.op 14 (.op 15 (.op 16 (.op 17 (.op 18 (.op 19 .nil)))))))))))))))))))) (fun i => decide (i < 20)) mixT (by decide) (by kernel_rfl) (by kernel_rfl) ?_; clear hk; intro w1 hk)
          (repeat ((first | refine sMove hk ?_ | refine sAssign hk ?_ | refine sExtract hk ?_ | refine sFieldZ hk ?_ | refine sField0 hk ?_ | refine sField hk ?_ | refine sIndexA0 hk ?_ | refine sIndexS0 hk ?_ | refine sIndexA hk ?_ | refine sIndexS hk ?_ | refine sLoadR hk ?_ | refine sLoad1 hk ?_ | refine sOldR hk ?_ | refine sOld1 hk ?_ | refine sOldC hk ?_ | refine sOldG hk ?_ | refine sBuild hk ?_ | refine sPickT hk ?_ | refine sPickF hk ?_ | refine sLss hk ?_ | refine sLeq hk ?_ | refine sGtr hk ?_ | refine sGeq hk ?_ | refine sEql hk ?_ | refine sNot hk ?_ | refine sSkip hk ?_ | refine sSkipA hk ?_); simp only [Act.put, List.setIfInBounds_toArray, List.set_cons_succ, List.set_cons_zero]; (try rw [hd]); (try rw [hf])))
          refine tNil ?_
          go_wp2_with (first | ((with_reducible show wpList _ _ _ _ _ _); (first | ((with_reducible show wpList _ _ _ (⟨_, _, _, _, _, some _⟩ :: _) _ _); refine wpList_skip (by rfl) ?_; simp only [Act.put, List.setIfInBounds_toArray, List.set_cons_succ, List.set_cons_zero]) | ((first | refine wBuild hk ?_ | refine wFieldZ hk ?_ | refine wField0 hk ?_ | refine wField hk ?_ | refine wIndexA0 hk ?_ | refine wIndexS0 hk ?_ | refine wIndexA hk ?_ | refine wIndexS hk ?_ | refine wLoadR hk ?_ | refine wLoad1 hk ?_ | refine wOldR hk ?_ | refine wOld1 hk ?_ | refine wOldC hk ?_ | refine wOldG hk ?_ | refine wAssertY hk ?_ | refine wAssertN hk ?_); simp only [Act.put, List.setIfInBounds_toArray, List.set_cons_succ, List.set_cons_zero]) | ((first | refine wBox hk ?_ | refine wBox1I hk ?_ | refine wBox1B hk ?_ | refine wBox1S hk ?_ | refine wBox1P hk ?_ | refine wBox1F hk ?_ | refine wAllocR hk ?_ | refine wAlloc1 hk ?_ | refine wMake hk ?_); clear hk; intro w1 hk; simp only [Act.put, List.setIfInBounds_toArray, List.set_cons_succ, List.set_cons_zero]) | ((first | refine wStoreR hk ?_ | refine wStore1I hk ?_ | refine wStore1B hk ?_ | refine wStore1S hk ?_ | refine wStore1P hk ?_ | refine wStore1F hk ?_); clear hk; intro w1 hk; simp only [Act.put]))))
          go_ret
          exact ⟨ret_bool HE.out.symm, hk.mod.below⟩
        · have HLE : Hid (inRg (s n) (t n) = true) := hide (by unfold inRg; simp; omega)
          have hf : decide ((t n).hi < (s n).hi) = false := by simpa using he
          clear he h1
          go_wp2_with (first | ((with_reducible show wpList _ _ _ _ _ _); (first | ((with_reducible show wpList _ _ _ (⟨_, _, _, _, _, some _⟩ :: _) _ _); refine wpList_skip (by rfl) ?_; simp only [Act.put, List.setIfInBounds_toArray, List.set_cons_succ, List.set_cons_zero]) | ((first | refine wBuild hk ?_ | refine wFieldZ hk ?_ | refine wField0 hk ?_ | refine wField hk ?_ | refine wIndexA0 hk ?_ | refine wIndexS0 hk ?_ | refine wIndexA hk ?_ | refine wIndexS hk ?_ | refine wLoadR hk ?_ | refine wLoad1 hk ?_ | refine wOldR hk ?_ | refine wOld1 hk ?_ | refine wOldC hk ?_ | refine wOldG hk ?_ | refine wAssertY hk ?_ | refine wAssertN hk ?_); simp only [Act.put, List.setIfInBounds_toArray, List.set_cons_succ, List.set_cons_zero]) | ((first | refine wBox hk ?_ | refine wBox1I hk ?_ | refine wBox1B hk ?_ | refine wBox1S hk ?_ | refine wBox1P hk ?_ | refine wBox1F hk ?_ | refine wAllocR hk ?_ | refine wAlloc1 hk ?_ | refine wMake hk ?_); clear hk; intro w1 hk; simp only [Act.put, List.setIfInBounds_toArray, List.set_cons_succ, List.set_cons_zero]) | ((first | refine wStoreR hk ?_ | refine wStore1I hk ?_ | refine wStore1B hk ?_ | refine wStore1S hk ?_ | refine wStore1P hk ?_ | refine wStore1F hk ?_); clear hk; intro w1 hk; simp only [Act.put]))))
          (refine wp_regK hk (.op 0 (.op 1 (.op 2 (.op 3 (.op 4 (.op 5 (.op 6 (.op 7 (.op 8 (.op 9 (.op 10 (.op 11 (.op 12 (.op 13 (.op 14 (.op 15 (.op 16 (.op 17 (.op 18 (.op 19 .nil)))))))))))))))))))) (fun i => decide (i < 20)) mixT (by decide) (by kernel_rfl) (by kernel_rfl) ?_; clear hk; intro w1 hk)
          (repeat ((first | refine sMove hk ?_ | refine sAssign hk ?_ | refine sExtract hk ?_ | refine sFieldZ hk ?_ | refine sField0 hk ?_ | refine sField hk ?_ | refine sIndexA0 hk ?_ | refine sIndexS0 hk ?_ | refine sIndexA hk ?_ | refine sIndexS hk ?_ | refine sLoadR hk ?_ | refine sLoad1 hk ?_ | refine sOldR hk ?_ | refine sOld1 hk ?_ | refine sOldC hk ?_ | refine sOldG hk ?_ | refine sBuild hk ?_ | refine sPickT hk ?_ | refine sPickF hk ?_ | refine sLss hk ?_ | refine sLeq hk ?_ | refine sGtr hk ?_ | refine sGeq hk ?_ | refine sEql hk ?_ | refine sNot hk ?_ | refine sSkip hk ?_ | refine sSkipA hk ?_); simp only [Act.put, List.setIfInBounds_toArray, List.set_cons_succ, List.set_cons_zero]; (try rw [hd]); (try rw [hf])))
          refine tNil ?_
          go_wp2_with (first | ((with_reducible show wpList _ _ _ _ _ _); (first | ((with_reducible show wpList _ _ _ (⟨_, _, _, _, _, some _⟩ :: _) _ _); refine wpList_skip (by rfl) ?_; simp only [Act.put, List.setIfInBounds_toArray, List.set_cons_succ, List.set_cons_zero]) | ((first | refine wBuild hk ?_ | refine wFieldZ hk ?_ | refine wField0 hk ?_ | refine wField hk ?_ | refine wIndexA0 hk ?_ | refine wIndexS0 hk ?_ | refine wIndexA hk ?_ | refine wIndexS hk ?_ | refine wLoadR hk ?_ | refine wLoad1 hk ?_ | refine wOldR hk ?_ | refine wOld1 hk ?_ | refine wOldC hk ?_ | refine wOldG hk ?_ | refine wAssertY hk ?_ | refine wAssertN hk ?_); simp only [Act.put, List.setIfInBounds_toArray, List.set_cons_succ, List.set_cons_zero]) | ((first | refine wBox hk ?_ | refine wBox1I hk ?_ | refine wBox1B hk ?_ | refine wBox1S hk ?_ | refine wBox1P hk ?_ | refine wBox1F hk ?_ | refine wAllocR hk ?_ | refine wAlloc1 hk ?_ | refine wMake hk ?_); clear hk; intro w1 hk; simp only [Act.put, List.setIfInBounds_toArray, List.set_cons_succ, List.set_cons_zero]) | ((first | refine wStoreR hk ?_ | refine wStore1I hk ?_ | refine wStore1B hk ?_ | refine wStore1S hk ?_ | refine wStore1P hk ?_ | refine wStore1F hk ?_); clear hk; intro w1 hk; simp only [Act.put]))))
          go_roundw
          case rel => exact ⟨n + 1, by omega, by go_num, fun i hi => by rcases Nat.lt_succ_iff_lt_or_eq.1 hi with h | h; exact HA.out i h; subst h; exact HLE.out, hk⟩
          case measure => simp [intOf]; omega
    · have HE : Hid (liesR s t = true) := hide (liesR_yes fun i hi => HA.out i (by omega))
      go_wp2_with (first | ((with_reducible show wpList _ _ _ _ _ _); (first | ((with_reducible show wpList _ _ _ (⟨_, _, _, _, _, some _⟩ :: _) _ _); refine wpList_skip (by rfl) ?_; simp only [Act.put, List.setIfInBounds_toArray, List.set_cons_succ, List.set_cons_zero]) | ((first | refine wBuild hk ?_ | refine wFieldZ hk ?_ | refine wField0 hk ?_ | refine wField hk ?_ | refine wIndexA0 hk ?_ | refine wIndexS0 hk ?_ | refine wIndexA hk ?_ | refine wIndexS hk ?_ | refine wLoadR hk ?_ | refine wLoad1 hk ?_ | refine wOldR hk ?_ | refine wOld1 hk ?_ | refine wOldC hk ?_ | refine wOldG hk ?_ | refine wAssertY hk ?_ | refine wAssertN hk ?_); simp only [Act.put, List.setIfInBounds_toArray, List.set_cons_succ, List.set_cons_zero]) | ((first | refine wBox hk ?_ | refine wBox1I hk ?_ | refine wBox1B hk ?_ | refine wBox1S hk ?_ | refine wBox1P hk ?_ | refine wBox1F hk ?_ | refine wAllocR hk ?_ | refine wAlloc1 hk ?_ | refine wMake hk ?_); clear hk; intro w1 hk; simp only [Act.put, List.setIfInBounds_toArray, List.set_cons_succ, List.set_cons_zero]) | ((first | refine wStoreR hk ?_ | refine wStore1I hk ?_ | refine wStore1B hk ?_ | refine wStore1S hk ?_ | refine wStore1P hk ?_ | refine wStore1F hk ?_); clear hk; intro w1 hk; simp only [Act.put]))))
      go_ret
      exact ⟨ret_bool HE.out.symm, hk.mod.below⟩
end Go.Proofs.YtamiichlbmllcaaGreatDoor
/-
  suretykeep.Found: what it reckons with in memory.
-/
namespace Go.Proofs.YtamiichlbmllcaaGreatDoor
open Go.RowKit
/-- instructions, five cells each -/
def RowsI (A : Array Value) (l : List I5) : Prop := ∀ i, i < l.length → A[i * 5]? = some (.int .i64 (insAt l i).o) ∧ A[i * 5 + 1]? = some (.int .i64 (insAt l i).a) ∧ A[i * 5 + 2]? = some (.int .i64 (insAt l i).b) ∧ A[i * 5 + 3]? = some (.int .i64 (insAt l i).c) ∧ A[i * 5 + 4]? = some (.int .i64 (insAt l i).k)
theorem own_rowsI {w : World} {base : Nat} {v : Value} {l : List I5} (h : OwnI w base v l) (hl : 0 < l.length) : ∃ b c A, v = .slice (some ⟨b, 0, none⟩) l.length c ∧ At w b A 62 ∧ base ≤ b ∧ RowsI A l := by
  rcases h.2 with ⟨_, h2⟩ | ⟨g, cap, cur, rfl, h4, hh, _, _, _, ht⟩
  · omega
  · refine ⟨g, cap, cur, rfl, hh, h4, fun i hi => ?_⟩
    have key : ∀ f u, f < 5 → l[i].cells[f]? = some u → cur[i * 5 + f]? = some u := fun f u hf hu => by
      have e : (cur.toList.take (l.length * 5))[i * 5 + f]? = (l.flatMap I5.cells)[i * 5 + f]? := by rw [ht]
      rw [List.getElem?_take, if_pos (by omega), Array.getElem?_toList, flat_cells l i f hi hf, hu] at e
      exact e
    rw [insAt_get hi]
    exact ⟨key 0 _ (by omega) rfl, key 1 _ (by omega) rfl, key 2 _ (by omega) rfl, key 3 _ (by omega) rfl, key 4 _ (by omega) rfl⟩
theorem rows_slc {w : World} {b c : Nat} {A : Array Value} {l : List I5} (hat : At w b A 62) (h : RowsI A l) : Slc w (.slice (some ⟨b, 0, none⟩) l.length c) l := by
  refine Or.inr ⟨b, 0, c, rfl, lt_of_block hat, fun i hi => ?_⟩
  have := h i hi
  rw [insAt_get hi] at this
  unfold InsAt
  rw [Nat.zero_add]
  refine ⟨?_, ?_, ?_, ?_, ?_⟩ <;> rw [cell_of_row _ _ _ _ _ _ hat]
  · exact this.1
  · exact this.2.1
  · exact this.2.2.1
  · exact this.2.2.2.1
  · exact this.2.2.2.2
theorem fwd_next {P : List I5} {n i : Nat} (hi : i < P.length) (hne : i ≠ n) : insAt (fwdU P (n + 1)) i = insAt (fwdU P n) i := by
  rw [fwdU_at hi, fwdU_at hi]
  by_cases h : i < n
  · rw [if_pos h, if_pos (by omega)]
  · rw [if_neg h, if_neg (by omega)]
theorem fwd_here {P : List I5} {n : Nat} (hn : n < P.length) : insAt (fwdU P n) n = insAt P n := by rw [fwdU_at hn, if_neg (by omega)]
theorem RowsI.no {A : Array Value} {P : List I5} {n : Nat} (h : RowsI A (fwdU P n)) (hc : ¬ (9 ≤ (insAt P n).o ∧ (insAt P n).k ≤ n)) : RowsI A (fwdU P (n + 1)) := by
  intro i hi
  rw [fwdU_len] at hi
  have := h i (by rw [fwdU_len]; exact hi)
  by_cases e : i = n
  · subst e
    rw [fwd_here hi] at this
    rw [fwdU_at hi, if_pos (by omega)]
    unfold fwdI
    rw [if_neg hc]
    exact this
  · rw [fwd_next hi e]; exact this
theorem RowsI.yes {A : Array Value} {P : List I5} {n : Nat} (h : RowsI A (fwdU P n)) (hn : n < P.length) (h9 : 9 ≤ (insAt P n).o) (hk : (insAt P n).k ≤ n) : RowsI (A.setIfInBounds (n * 5 + 4) (.int .i64 ((P.length : Int) - 1))) (fwdU P (n + 1)) := by
  intro i hi
  rw [fwdU_len] at hi
  have := h i (by rw [fwdU_len]; exact hi)
  by_cases e : i = n
  · subst e
    rw [fwd_here hi] at this
    rw [fwdU_at hi, if_pos (by omega)]
    unfold fwdI
    rw [if_pos ⟨h9, hk⟩]
    simp only
    have hsz : i * 5 + 4 < A.size := (Array.getElem?_eq_some_iff.1 this.2.2.2.2).1
    refine ⟨?_, ?_, ?_, ?_, ?_⟩
    · rw [Array.getElem?_setIfInBounds_ne (by omega)]; exact this.1
    · rw [Array.getElem?_setIfInBounds_ne (by omega)]; exact this.2.1
    · rw [Array.getElem?_setIfInBounds_ne (by omega)]; exact this.2.2.1
    · rw [Array.getElem?_setIfInBounds_ne (by omega)]; exact this.2.2.2.1
    · rw [Array.getElem?_setIfInBounds_self_of_lt hsz]
  · rw [fwd_next hi e]
    have hne : ∀ f, f < 5 → n * 5 + 4 ≠ i * 5 + f := fun f hf => by omega
    refine ⟨?_, ?_, ?_, ?_, ?_⟩
    · rw [Array.getElem?_setIfInBounds_ne (show n * 5 + 4 ≠ i * 5 by omega)]; exact this.1
    · rw [Array.getElem?_setIfInBounds_ne (hne 1 (by omega))]; exact this.2.1
    · rw [Array.getElem?_setIfInBounds_ne (hne 2 (by omega))]; exact this.2.2.1
    · rw [Array.getElem?_setIfInBounds_ne (hne 3 (by omega))]; exact this.2.2.2.1
    · rw [Array.getElem?_setIfInBounds_ne (hne 4 (by omega))]; exact this.2.2.2.2
/-- is a claim found in the first n of a list? -/
def fndU (cl : List C2) (c : C2) (n : Nat) : Bool := (List.range n).any fun j => decide ((clAt cl j).pl = c.pl) && liesR c.st (clAt cl j).st
theorem fndU_succ (cl : List C2) (c : C2) (n : Nat) : fndU cl c (n + 1) = (fndU cl c n || (decide ((clAt cl n).pl = c.pl) && liesR c.st (clAt cl n).st)) := by
  unfold fndU; rw [List.range_succ, List.any_append]; simp
theorem fndU_old {cl : List C2} {c : C2} {n : Nat} (h : fndU cl c n = true) : fndU cl c (n + 1) = true := by rw [fndU_succ, h]; rfl
theorem fndU_no {cl : List C2} {c : C2} {n : Nat} (h : fndU cl c n = false) (hp : ¬ (clAt cl n).pl = c.pl) : fndU cl c (n + 1) = false := by rw [fndU_succ, h, decide_eq_false hp]; rfl
theorem fndU_eq {cl : List C2} {c : C2} {n : Nat} (h : fndU cl c n = false) (hp : (clAt cl n).pl = c.pl) : fndU cl c (n + 1) = liesR c.st (clAt cl n).st := by rw [fndU_succ, h, decide_eq_true hp]; simp
theorem fndU_all {cl : List C2} {c : C2} (h : ∃ j, j < cl.length ∧ (clAt cl j).pl = c.pl ∧ liesR c.st (clAt cl j).st = true) : fndU cl c cl.length = true := by
  obtain ⟨j, h1, h2, h3⟩ := h
  unfold fndU
  rw [List.any_eq_true]
  exact ⟨j, List.mem_range.2 h1, by rw [decide_eq_true h2, h3]; rfl⟩
theorem SlcC.atK {w : World} {a : Option Addr} {c : Nat} {cl : List C2} (h : SlcC w (.slice a cl.length c) cl) (hp : 0 < cl.length) : ∃ b off, a = some ⟨b, off, none⟩ ∧ b < w.heap.size ∧ ∀ i, i < cl.length → w.rangeAt b (off + i * 17) (clC (clAt cl i).pl (clAt cl i).st).toList := by
  rcases h with ⟨_, rfl⟩ | ⟨b, off, cap, e, h1, h2⟩
  · simp at hp
  · simp only [Value.slice.injEq] at e
    exact ⟨b, off, e.1, h1, h2⟩
theorem clK_cell {w : World} {b o : Nat} {p : Int} {s : St} (h : w.rangeAt b o (clC p s).toList) : w.cell? ⟨b, o, none⟩ = some (.int .i64 p) := h 0 _ rfl
theorem clK_st {w : World} {b o : Nat} {p : Int} {s : St} (h : w.rangeAt b o (clC p s).toList) : w.rangeAt b (o + 1) (stC s).toList := by
  intro j u hu
  have e : (clC p s).toList = .int .i64 p :: (stC s).toList := rfl
  have := h (j + 1) u (by rw [e, List.getElem?_cons_succ]; exact hu)
  rw [show o + (j + 1) = o + 1 + j by omega] at this
  exact this
theorem At.belowK {w w' : World} {b : Nat} {A : Array Value} {t : TypeId} (h : At w b A t) (hb : Below w.heap.size w w') : At w' b A t := h.of (hb.block _ h.lt)
end Go.Proofs.YtamiichlbmllcaaGreatDoor
/-
  Moves and assignments whose value is read at once: lists, pointers, pairs.
-/
namespace Go.Proofs.YtamiichlbmllcaaGreatDoor
open Go.RowKit
section
variable {l : List Oper} {Q : Exit → Act → World → Prop} {F : Nat → Bool} {S : World → Prop} {i : Nat} {r : OT} {a : Act} {w : World} {d : Option Tmp} {x y : Operand} {t tt : TypeId} {pos : String} {aft : Array Edge} {g : Option (Nat × Bool)}
set_option maxRecDepth 100000 in
theorem uMoveS {p : Option Addr} {n c : Nat} (hk : S w) (h : wpT Tryz.prog l Q F S r (a.put d (.slice p n c)) w) (ho : nthO i l = some ⟨d, .move x, tt, pos, aft, g⟩ := by rfl) (hw : Region.wanted ⟨d, .move x, tt, pos, aft, g⟩ (yielded l.toArray a.tmps) = true := by rfl) (hx : a.eval x = .slice p n c := by rfl) : wpT Tryz.prog l Q F S (.op i r) a w := sMove hk (by rw [hx]; exact h) ho hw
set_option maxRecDepth 100000 in
theorem uAssignS {p : Option Addr} {n c : Nat} (hk : S w) (h : wpT Tryz.prog l Q F S r (a.put d (.slice p n c)) w) (ho : nthO i l = some ⟨d, .assign x, tt, pos, aft, g⟩ := by rfl) (hw : Region.wanted ⟨d, .assign x, tt, pos, aft, g⟩ (yielded l.toArray a.tmps) = true := by rfl) (hx : a.eval x = .slice p n c := by rfl) : wpT Tryz.prog l Q F S (.op i r) a w := sAssign hk (by rw [hx]; exact h) ho hw
set_option maxRecDepth 100000 in
theorem uMoveP {p : Option Addr} (hk : S w) (h : wpT Tryz.prog l Q F S r (a.put d (.pointer p)) w) (ho : nthO i l = some ⟨d, .move x, tt, pos, aft, g⟩ := by rfl) (hw : Region.wanted ⟨d, .move x, tt, pos, aft, g⟩ (yielded l.toArray a.tmps) = true := by rfl) (hx : a.eval x = .pointer p := by rfl) : wpT Tryz.prog l Q F S (.op i r) a w := sMove hk (by rw [hx]; exact h) ho hw
set_option maxRecDepth 100000 in
theorem uAssignP {p : Option Addr} (hk : S w) (h : wpT Tryz.prog l Q F S r (a.put d (.pointer p)) w) (ho : nthO i l = some ⟨d, .assign x, tt, pos, aft, g⟩ := by rfl) (hw : Region.wanted ⟨d, .assign x, tt, pos, aft, g⟩ (yielded l.toArray a.tmps) = true := by rfl) (hx : a.eval x = .pointer p := by rfl) : wpT Tryz.prog l Q F S (.op i r) a w := sAssign hk (by rw [hx]; exact h) ho hw
set_option maxRecDepth 100000 in
theorem uMoveT {xs : Array Value} (hk : S w) (h : wpT Tryz.prog l Q F S r (a.put d (.tuple xs)) w) (ho : nthO i l = some ⟨d, .move x, tt, pos, aft, g⟩ := by rfl) (hw : Region.wanted ⟨d, .move x, tt, pos, aft, g⟩ (yielded l.toArray a.tmps) = true := by rfl) (hx : a.eval x = .tuple xs := by rfl) : wpT Tryz.prog l Q F S (.op i r) a w := sMove hk (by rw [hx]; exact h) ho hw
end
end Go.Proofs.YtamiichlbmllcaaGreatDoor
/-
  suretykeep.Found.
-/
namespace Go.Proofs.YtamiichlbmllcaaGreatDoor
open Go.RowKit
theorem own_sliceK {w : World} {B e size n : Nat} {v : Value} {xs : List Value} (h : w.ownsRow B e size v n xs) : ∃ a c, v = .slice a n c := by
  rcases h.2 with ⟨h1, h2⟩ | ⟨g, cap, cur, h1, _⟩
  · exact ⟨none, 0, by rw [h1, h2]⟩
  · exact ⟨_, _, h1⟩
set_option maxHeartbeats 16000000 in
set_option maxRecDepth 100000 in
theorem found_any (l : List I5) (v : Value) (w : World) (hs : Shapes w) (h : Slc w v l) (hlen : l.length < 9223372036854775808) (h64 : ∀ i (h : i < l.length), l[i].in64) (e : St) (he : e.in64) (cr : List C2) (ra : Option Addr) (rc : Nat) (hcr : SlcC w (.slice ra cr.length rc) cr) (hcl : cr.length < 4000000000000) (c64 : ∀ i, i < cr.length → St.in64 (clAt cr i).st) (d : St) (hd : d.in64) :
    Calls Tryz.prog 12 #[v, .agg (stC e), .slice ra cr.length rc, .agg (stC d)] w fun x w' => x = .returned (.bool true) ∧ Below w.heap.size w w' := by
  have hk := Kn.nil [] w
  have HS := hide hs
  have HV := hide h
  have H64 := hide h64
  have HCR := hide hcr
  have HC64 := hide c64
  obtain ⟨a, cap, rfl⟩ := h.len
  have HK := hide (progL_k h64)
  have HR := hide (progL_right l)
  have HF := hide (right_fit (progL_right l))
  have HLA := hide (progL_last l)
  have HSO := hide (ordS_ok e)
  have HSI := hide (ordS_in64 he)
  have HDT := hide (isSt_iffK.2 (ordS_ok d))
  have HDI := hide (ordS_in64 hd)
  have hP64 : (progL l).length ≤ 64 := HF.out.2.1
  clear hs h h64 he hcr c64 hd
  go_enter Tryz.func12, Tryz.ntmps12
  go_wp2_with (first | ((with_reducible show wpList _ _ _ (⟨some 5, _, _, _, _, _⟩ :: _) _ _); refine wBox hk ?_; clear hk; intro wa hk; simp only [Act.put, List.setIfInBounds_toArray, List.set_cons_succ, List.set_cons_zero]) | (go_at_call 18; refine (awake_any _ (HS.out.below hk.mod.below HS.out.1)).mono ?_; rintro x w1 ⟨rfl, hb⟩; replace hk := hk.call hb; clear hb) | ((with_reducible show wpList _ _ _ _ _ _); (first | ((with_reducible show wpList _ _ _ (⟨_, _, _, _, _, some _⟩ :: _) _ _); refine wpList_skip (by rfl) ?_; simp only [Act.put, List.setIfInBounds_toArray, List.set_cons_succ, List.set_cons_zero]) | ((first | refine wBuild hk ?_ | refine wFieldZ hk ?_ | refine wField0 hk ?_ | refine wField hk ?_ | refine wIndexA0 hk ?_ | refine wIndexS0 hk ?_ | refine wIndexA hk ?_ | refine wIndexS hk ?_ | refine wLoadR hk ?_ | refine wLoad1 hk ?_ | refine wOldR hk ?_ | refine wOld1 hk ?_ | refine wOldC hk ?_ | refine wOldG hk ?_ | refine wAssertY hk ?_ | refine wAssertN hk ?_); simp only [Act.put, List.setIfInBounds_toArray, List.set_cons_succ, List.set_cons_zero]) | ((first | refine wBox hk ?_ | refine wBox1I hk ?_ | refine wBox1B hk ?_ | refine wBox1S hk ?_ | refine wBox1P hk ?_ | refine wBox1F hk ?_ | refine wAllocR hk ?_ | refine wAlloc1 hk ?_ | refine wMake hk ?_); clear hk; intro w1 hk; simp only [Act.put, List.setIfInBounds_toArray, List.set_cons_succ, List.set_cons_zero]) | ((first | refine wStoreR hk ?_ | refine wStore1I hk ?_ | refine wStore1B hk ?_ | refine wStore1S hk ?_ | refine wStore1P hk ?_ | refine wStore1F hk ?_); clear hk; intro w1 hk; simp only [Act.put]))))
  go_at_call 19
  refine (program_any l _ _ (HV.out.below hk.mod.below (Nat.le_refl _)) hlen H64.out).mono ?_
  rintro x w2 ⟨pv, rfl, hown, hb⟩
  obtain ⟨P, hP⟩ : ∃ P, progL l = P := ⟨_, rfl⟩
  rw [hP] at hown hP64 HK HR HF HLA
  clear hP
  obtain ⟨pb, pc, A, rfl, hat, hge, hri⟩ := own_rowsI hown HF.out.1
  replace hk := hk.make hb hat hge
  have HRI : Hid (RowsI A (fwdU P 0)) := hide (by rw [fwdU_zero]; exact hri)
  clear hb hat hge hown hri
  go_wp2_with (first | ((with_reducible show wpList _ _ _ _ _ _); (first | ((with_reducible show wpList _ _ _ (⟨_, _, _, _, _, some _⟩ :: _) _ _); refine wpList_skip (by rfl) ?_; simp only [Act.put, List.setIfInBounds_toArray, List.set_cons_succ, List.set_cons_zero]) | ((first | refine wBuild hk ?_ | refine wFieldZ hk ?_ | refine wField0 hk ?_ | refine wField hk ?_ | refine wIndexA0 hk ?_ | refine wIndexS0 hk ?_ | refine wIndexA hk ?_ | refine wIndexS hk ?_ | refine wLoadR hk ?_ | refine wLoad1 hk ?_ | refine wOldR hk ?_ | refine wOld1 hk ?_ | refine wOldC hk ?_ | refine wOldG hk ?_ | refine wAssertY hk ?_ | refine wAssertN hk ?_); simp only [Act.put, List.setIfInBounds_toArray, List.set_cons_succ, List.set_cons_zero]) | ((first | refine wBox hk ?_ | refine wBox1I hk ?_ | refine wBox1B hk ?_ | refine wBox1S hk ?_ | refine wBox1P hk ?_ | refine wBox1F hk ?_ | refine wAllocR hk ?_ | refine wAlloc1 hk ?_ | refine wMake hk ?_); clear hk; intro w1 hk; simp only [Act.put, List.setIfInBounds_toArray, List.set_cons_succ, List.set_cons_zero]) | ((first | refine wStoreR hk ?_ | refine wStore1I hk ?_ | refine wStore1B hk ?_ | refine wStore1S hk ?_ | refine wStore1P hk ?_ | refine wStore1F hk ?_); clear hk; intro w1 hk; simp only [Act.put]))))
  go_loopw [11] (fun j wr => ∃ n : Nat, n ≤ P.length ∧ j = .int .i64 n ∧ ∃ A, RowsI A (fwdU P n) ∧ Kn [] w wr [(pb, A, 62), (wa.heap.size, stC d, 30), (w.heap.size, stC e, 30)]) (fun j _ => P.length - (intOf j).toNat)
  case atStart => exact ⟨0, by omega, rfl, A, HRI.out, hk⟩
  case round =>
    clear hk HRI A
    obtain ⟨n, hn, rfl, A, hri, hk⟩ := hrel
    have HRI := hide hri
    by_cases hln : n < P.length
    · have hr5 := hri n (by rw [fwdU_len]; exact hln)
      rw [fwd_here hln] at hr5
      have hro := hr5.1
      have hrk := hr5.2.2.2.2
      have hsz : n * 5 + 4 + 1 ≤ A.size := (Array.getElem?_eq_some_iff.1 hrk).1
      clear hr5 hri
      by_cases h9 : 9 ≤ (insAt P n).o
      · by_cases hkk : (insAt P n).k ≤ n
        · have R := hide (HRI.out.yes hln h9 hkk)
          clear HRI
          go_wp2_with (first | ((with_reducible show wpList _ _ _ (⟨some 38, _, _, _, _, _⟩ :: _) _ _); refine wLoad1 hk ?_ (hv := hro); simp only [Act.put, List.setIfInBounds_toArray, List.set_cons_succ, List.set_cons_zero]) | ((with_reducible show wpList _ _ _ (⟨some 45, _, _, _, _, _⟩ :: _) _ _); refine wLoad1 hk ?_ (hv := hrk); simp only [Act.put, List.setIfInBounds_toArray, List.set_cons_succ, List.set_cons_zero]) | ((with_reducible show wpList _ _ _ (⟨none, _, _, _, _, _⟩ :: _) _ _); refine wStore1I hk ?_ (hj := hsz) (hA := rfl); clear hk; intro w1 hk; simp only [Act.put]) | ((with_reducible show wpList _ _ _ _ _ _); (first | ((with_reducible show wpList _ _ _ (⟨_, _, _, _, _, some _⟩ :: _) _ _); refine wpList_skip (by rfl) ?_; simp only [Act.put, List.setIfInBounds_toArray, List.set_cons_succ, List.set_cons_zero]) | ((first | refine wBuild hk ?_ | refine wFieldZ hk ?_ | refine wField0 hk ?_ | refine wField hk ?_ | refine wIndexA0 hk ?_ | refine wIndexS0 hk ?_ | refine wIndexA hk ?_ | refine wIndexS hk ?_ | refine wLoadR hk ?_ | refine wLoad1 hk ?_ | refine wOldR hk ?_ | refine wOld1 hk ?_ | refine wOldC hk ?_ | refine wOldG hk ?_ | refine wAssertY hk ?_ | refine wAssertN hk ?_); simp only [Act.put, List.setIfInBounds_toArray, List.set_cons_succ, List.set_cons_zero]) | ((first | refine wBox hk ?_ | refine wBox1I hk ?_ | refine wBox1B hk ?_ | refine wBox1S hk ?_ | refine wBox1P hk ?_ | refine wBox1F hk ?_ | refine wAllocR hk ?_ | refine wAlloc1 hk ?_ | refine wMake hk ?_); clear hk; intro w1 hk; simp only [Act.put, List.setIfInBounds_toArray, List.set_cons_succ, List.set_cons_zero]) | ((first | refine wStoreR hk ?_ | refine wStore1I hk ?_ | refine wStore1B hk ?_ | refine wStore1S hk ?_ | refine wStore1P hk ?_ | refine wStore1F hk ?_); clear hk; intro w1 hk; simp only [Act.put]))))
          go_roundw
          case rel => exact ⟨n + 1, by omega, by go_num, _, R.out, hk⟩
          case measure => simp [intOf]; omega
        · have R := hide (HRI.out.no (fun h => hkk h.2))
          clear HRI
          go_wp2_with (first | ((with_reducible show wpList _ _ _ (⟨some 38, _, _, _, _, _⟩ :: _) _ _); refine wLoad1 hk ?_ (hv := hro); simp only [Act.put, List.setIfInBounds_toArray, List.set_cons_succ, List.set_cons_zero]) | ((with_reducible show wpList _ _ _ (⟨some 45, _, _, _, _, _⟩ :: _) _ _); refine wLoad1 hk ?_ (hv := hrk); simp only [Act.put, List.setIfInBounds_toArray, List.set_cons_succ, List.set_cons_zero]) | ((with_reducible show wpList _ _ _ _ _ _); (first | ((with_reducible show wpList _ _ _ (⟨_, _, _, _, _, some _⟩ :: _) _ _); refine wpList_skip (by rfl) ?_; simp only [Act.put, List.setIfInBounds_toArray, List.set_cons_succ, List.set_cons_zero]) | ((first | refine wBuild hk ?_ | refine wFieldZ hk ?_ | refine wField0 hk ?_ | refine wField hk ?_ | refine wIndexA0 hk ?_ | refine wIndexS0 hk ?_ | refine wIndexA hk ?_ | refine wIndexS hk ?_ | refine wLoadR hk ?_ | refine wLoad1 hk ?_ | refine wOldR hk ?_ | refine wOld1 hk ?_ | refine wOldC hk ?_ | refine wOldG hk ?_ | refine wAssertY hk ?_ | refine wAssertN hk ?_); simp only [Act.put, List.setIfInBounds_toArray, List.set_cons_succ, List.set_cons_zero]) | ((first | refine wBox hk ?_ | refine wBox1I hk ?_ | refine wBox1B hk ?_ | refine wBox1S hk ?_ | refine wBox1P hk ?_ | refine wBox1F hk ?_ | refine wAllocR hk ?_ | refine wAlloc1 hk ?_ | refine wMake hk ?_); clear hk; intro w1 hk; simp only [Act.put, List.setIfInBounds_toArray, List.set_cons_succ, List.set_cons_zero]) | ((first | refine wStoreR hk ?_ | refine wStore1I hk ?_ | refine wStore1B hk ?_ | refine wStore1S hk ?_ | refine wStore1P hk ?_ | refine wStore1F hk ?_); clear hk; intro w1 hk; simp only [Act.put]))))
          go_roundw
          case rel => exact ⟨n + 1, by omega, by go_num, _, R.out, hk⟩
          case measure => simp [intOf]; omega
      · have R := hide (HRI.out.no (fun h => h9 h.1))
        clear HRI
        go_wp2_with (first | ((with_reducible show wpList _ _ _ (⟨some 38, _, _, _, _, _⟩ :: _) _ _); refine wLoad1 hk ?_ (hv := hro); simp only [Act.put, List.setIfInBounds_toArray, List.set_cons_succ, List.set_cons_zero]) | ((with_reducible show wpList _ _ _ (⟨some 45, _, _, _, _, _⟩ :: _) _ _); refine wLoad1 hk ?_ (hv := hrk); simp only [Act.put, List.setIfInBounds_toArray, List.set_cons_succ, List.set_cons_zero]) | ((with_reducible show wpList _ _ _ _ _ _); (first | ((with_reducible show wpList _ _ _ (⟨_, _, _, _, _, some _⟩ :: _) _ _); refine wpList_skip (by rfl) ?_; simp only [Act.put, List.setIfInBounds_toArray, List.set_cons_succ, List.set_cons_zero]) | ((first | refine wBuild hk ?_ | refine wFieldZ hk ?_ | refine wField0 hk ?_ | refine wField hk ?_ | refine wIndexA0 hk ?_ | refine wIndexS0 hk ?_ | refine wIndexA hk ?_ | refine wIndexS hk ?_ | refine wLoadR hk ?_ | refine wLoad1 hk ?_ | refine wOldR hk ?_ | refine wOld1 hk ?_ | refine wOldC hk ?_ | refine wOldG hk ?_ | refine wAssertY hk ?_ | refine wAssertN hk ?_); simp only [Act.put, List.setIfInBounds_toArray, List.set_cons_succ, List.set_cons_zero]) | ((first | refine wBox hk ?_ | refine wBox1I hk ?_ | refine wBox1B hk ?_ | refine wBox1S hk ?_ | refine wBox1P hk ?_ | refine wBox1F hk ?_ | refine wAllocR hk ?_ | refine wAlloc1 hk ?_ | refine wMake hk ?_); clear hk; intro w1 hk; simp only [Act.put, List.setIfInBounds_toArray, List.set_cons_succ, List.set_cons_zero]) | ((first | refine wStoreR hk ?_ | refine wStore1I hk ?_ | refine wStore1B hk ?_ | refine wStore1S hk ?_ | refine wStore1P hk ?_ | refine wStore1F hk ?_); clear hk; intro w1 hk; simp only [Act.put]))))
        go_roundw
        case rel => exact ⟨n + 1, by omega, by go_num, _, R.out, hk⟩
        case measure => simp [intOf]; omega
    · have e9 : n = P.length := by omega
      subst e9
      have HR' := hide (fwd_right HF.out)
      have HK' := hide (fwd_k HF.out HK.out)
      have HF' := hide (fwd_fit HF.out)
      have HBK := hide (fwd_back HLA.out)
      have hPl := fwdU_len P P.length
      obtain ⟨P', hP'⟩ : ∃ P', fwdU P P.length = P' := ⟨_, rfl⟩
      rw [hP'] at HRI HR' HK' HF' HBK hPl
      have HSL : Hid (∀ w', At w' pb A 62 → Slc w' (.slice (some ⟨pb, 0, none⟩) P.length pc) P') := hide fun w' hat => by rw [← hPl]; exact rows_slc hat HRI.out
      clear hP' HK HR HF HLA hri HRI
      rw [← hPl] at HSL hn hln hP64 ⊢
      have HPL := hide hPl
      clear hPl
      go_upto_region 9 with (first | (go_at_call 20; refine (kState_any _ _).mono ?_; rintro x wk ⟨rfl, hb⟩; replace hk := hk.call hb; clear hb) | ((with_reducible show wpList _ _ _ _ _ _); (first | ((with_reducible show wpList _ _ _ (⟨_, _, _, _, _, some _⟩ :: _) _ _); refine wpList_skip (by rfl) ?_; simp only [Act.put, List.setIfInBounds_toArray, List.set_cons_succ, List.set_cons_zero]) | ((first | refine wBuild hk ?_ | refine wFieldZ hk ?_ | refine wField0 hk ?_ | refine wField hk ?_ | refine wIndexA0 hk ?_ | refine wIndexS0 hk ?_ | refine wIndexA hk ?_ | refine wIndexS hk ?_ | refine wLoadR hk ?_ | refine wLoad1 hk ?_ | refine wOldR hk ?_ | refine wOld1 hk ?_ | refine wOldC hk ?_ | refine wOldG hk ?_ | refine wAssertY hk ?_ | refine wAssertN hk ?_); simp only [Act.put, List.setIfInBounds_toArray, List.set_cons_succ, List.set_cons_zero]) | ((first | refine wBox hk ?_ | refine wBox1I hk ?_ | refine wBox1B hk ?_ | refine wBox1S hk ?_ | refine wBox1P hk ?_ | refine wBox1F hk ?_ | refine wAllocR hk ?_ | refine wAlloc1 hk ?_ | refine wMake hk ?_); clear hk; intro w1 hk; simp only [Act.put, List.setIfInBounds_toArray, List.set_cons_succ, List.set_cons_zero]) | ((first | refine wStoreR hk ?_ | refine wStore1I hk ?_ | refine wStore1B hk ?_ | refine wStore1S hk ?_ | refine wStore1P hk ?_ | refine wStore1F hk ?_); clear hk; intro w1 hk; simp only [Act.put]))))
      go_upto_region 10 with (first | (go_at_call 20; refine (kState_any _ _).mono ?_; rintro x wk2 ⟨rfl, hb⟩; replace hk := hk.call hb; clear hb) | ((with_reducible show wpList _ _ _ _ _ _); (first | ((with_reducible show wpList _ _ _ (⟨_, _, _, _, _, some _⟩ :: _) _ _); refine wpList_skip (by rfl) ?_; simp only [Act.put, List.setIfInBounds_toArray, List.set_cons_succ, List.set_cons_zero]) | ((first | refine wBuild hk ?_ | refine wFieldZ hk ?_ | refine wField0 hk ?_ | refine wField hk ?_ | refine wIndexA0 hk ?_ | refine wIndexS0 hk ?_ | refine wIndexA hk ?_ | refine wIndexS hk ?_ | refine wLoadR hk ?_ | refine wLoad1 hk ?_ | refine wOldR hk ?_ | refine wOld1 hk ?_ | refine wOldC hk ?_ | refine wOldG hk ?_ | refine wAssertY hk ?_ | refine wAssertN hk ?_); simp only [Act.put, List.setIfInBounds_toArray, List.set_cons_succ, List.set_cons_zero]) | ((first | refine wBox hk ?_ | refine wBox1I hk ?_ | refine wBox1B hk ?_ | refine wBox1S hk ?_ | refine wBox1P hk ?_ | refine wBox1F hk ?_ | refine wAllocR hk ?_ | refine wAlloc1 hk ?_ | refine wMake hk ?_); clear hk; intro w1 hk; simp only [Act.put, List.setIfInBounds_toArray, List.set_cons_succ, List.set_cons_zero]) | ((first | refine wStoreR hk ?_ | refine wStore1I hk ?_ | refine wStore1B hk ?_ | refine wStore1S hk ?_ | refine wStore1P hk ?_ | refine wStore1F hk ?_); clear hk; intro w1 hk; simp only [Act.put]))))
      obtain ⟨s, hsE⟩ : ∃ s, ordS e = s := ⟨_, rfl⟩
      rw [hsE] at HSO HSI
      obtain ⟨t, htE⟩ : ∃ t, ordS d = t := ⟨_, rfl⟩
      rw [htE] at HDT HDI
      simp only [hsE, htE] at hk ⊢
      clear hsE htE
      go_wp2_with (first | ((with_reducible show wpList _ _ _ _ _ _); (first | ((with_reducible show wpList _ _ _ (⟨_, _, _, _, _, some _⟩ :: _) _ _); refine wpList_skip (by rfl) ?_; simp only [Act.put, List.setIfInBounds_toArray, List.set_cons_succ, List.set_cons_zero]) | ((first | refine wBuild hk ?_ | refine wFieldZ hk ?_ | refine wField0 hk ?_ | refine wField hk ?_ | refine wIndexA0 hk ?_ | refine wIndexS0 hk ?_ | refine wIndexA hk ?_ | refine wIndexS hk ?_ | refine wLoadR hk ?_ | refine wLoad1 hk ?_ | refine wOldR hk ?_ | refine wOld1 hk ?_ | refine wOldC hk ?_ | refine wOldG hk ?_ | refine wAssertY hk ?_ | refine wAssertN hk ?_); simp only [Act.put, List.setIfInBounds_toArray, List.set_cons_succ, List.set_cons_zero]) | ((first | refine wBox hk ?_ | refine wBox1I hk ?_ | refine wBox1B hk ?_ | refine wBox1S hk ?_ | refine wBox1P hk ?_ | refine wBox1F hk ?_ | refine wAllocR hk ?_ | refine wAlloc1 hk ?_ | refine wMake hk ?_); clear hk; intro w1 hk; simp only [Act.put, List.setIfInBounds_toArray, List.set_cons_succ, List.set_cons_zero]) | ((first | refine wStoreR hk ?_ | refine wStore1I hk ?_ | refine wStore1B hk ?_ | refine wStore1S hk ?_ | refine wStore1P hk ?_ | refine wStore1F hk ?_); clear hk; intro w1 hk; simp only [Act.put]))))
      go_at_call 21
      refine (both_any P' HF'.out HR'.out HK'.out t HDT.out HDI.out cr pb pc ra rc _ (HS.out.below hk.mod.below HS.out.1) (HSL.out _ (hk.at (by with_reducible repeat (first | exact List.mem_cons_self | apply List.mem_cons_of_mem)))) (HCR.out.below hk.mod.below (Nat.le_refl _))).mono ?_
      rintro x w3 ⟨lv, vs, cs, rfl, hown, hB, hcs, hb⟩
      obtain ⟨g, gc, G, rfl, hg, hatG, hc2, hL⟩ := both_lists HK'.out HDI.out HC64.out hcl hown hB hcs
      replace hk := hk.make hb hatG hg
      have HLS := hide hL
      have HB3 := hide hk.mod.below
      have HS3 := hide (HS.out.below hk.mod.below HS.out.1)
      have HP3 := hide (HSL.out _ (hk.at (by with_reducible repeat (first | exact List.mem_cons_self | apply List.mem_cons_of_mem))))
      have hat13 : At w3 wk.heap.size (stC s) 30 := hk.at (by with_reducible repeat (first | exact List.mem_cons_self | apply List.mem_cons_of_mem))
      clear hk hown hB hcs hb hg hL HS HV HCR HC64 H64 HSL
      have hk := Kn.nil [] w3
      go_wp2_with (first | ((with_reducible show wpList _ _ _ _ _ _); (first | ((with_reducible show wpList _ _ _ (⟨_, _, _, _, _, some _⟩ :: _) _ _); refine wpList_skip (by rfl) ?_; simp only [Act.put, List.setIfInBounds_toArray, List.set_cons_succ, List.set_cons_zero]) | ((first | refine wBuild hk ?_ | refine wFieldZ hk ?_ | refine wField0 hk ?_ | refine wField hk ?_ | refine wIndexA0 hk ?_ | refine wIndexS0 hk ?_ | refine wIndexA hk ?_ | refine wIndexS hk ?_ | refine wLoadR hk ?_ | refine wLoad1 hk ?_ | refine wOldR hk ?_ | refine wOld1 hk ?_ | refine wOldC hk ?_ | refine wOldG hk ?_ | refine wAssertY hk ?_ | refine wAssertN hk ?_); simp only [Act.put, List.setIfInBounds_toArray, List.set_cons_succ, List.set_cons_zero]) | ((first | refine wBox hk ?_ | refine wBox1I hk ?_ | refine wBox1B hk ?_ | refine wBox1S hk ?_ | refine wBox1P hk ?_ | refine wBox1F hk ?_ | refine wAllocR hk ?_ | refine wAlloc1 hk ?_ | refine wMake hk ?_); clear hk; intro w1 hk; simp only [Act.put, List.setIfInBounds_toArray, List.set_cons_succ, List.set_cons_zero]) | ((first | refine wStoreR hk ?_ | refine wStore1I hk ?_ | refine wStore1B hk ?_ | refine wStore1S hk ?_ | refine wStore1P hk ?_ | refine wStore1F hk ?_); clear hk; intro w1 hk; simp only [Act.put]))))
      go_loopw [15] (fun j wr => ∃ i : Nat, i ≤ cs.length ∧ j = .int .i64 i ∧ Kn [] w3 wr []) (fun j _ => cs.length - (intOf j).toNat)
      case atStart => exact ⟨0, by omega, rfl, hk⟩
      case round =>
        clear hk
        obtain ⟨i, hi, rfl, hk⟩ := hrel
        by_cases hlt : i < cs.length
        · obtain ⟨ca, cc, hG, hC, hin0, hcl2⟩ := HLS.out i hlt
          obtain ⟨cl, hcq⟩ : ∃ cl, csAt cs i = cl := ⟨_, rfl⟩
          rw [hcq] at hG hC hin0 hcl2
          have hin : In64 P' s cl := ⟨hin0.k, HSI.out, hin0.c⟩
          have HC := hide hC
          have HIN := hide hin
          have HG := hide hG
          clear hcq hC hin hin0
          go_wp2_with (first | ((with_reducible show wpList _ _ _ _ _ _); (first | ((with_reducible show wpList _ _ _ (⟨_, _, _, _, _, some _⟩ :: _) _ _); refine wpList_skip (by rfl) ?_; simp only [Act.put, List.setIfInBounds_toArray, List.set_cons_succ, List.set_cons_zero]) | ((first | refine wBuild hk ?_ | refine wFieldZ hk ?_ | refine wField0 hk ?_ | refine wField hk ?_ | refine wIndexA0 hk ?_ | refine wIndexS0 hk ?_ | refine wIndexA hk ?_ | refine wIndexS hk ?_ | refine wLoadR hk ?_ | refine wLoad1 hk ?_ | refine wOldR hk ?_ | refine wOld1 hk ?_ | refine wOldC hk ?_ | refine wOldG hk ?_ | refine wAssertY hk ?_ | refine wAssertN hk ?_); simp only [Act.put, List.setIfInBounds_toArray, List.set_cons_succ, List.set_cons_zero]) | ((first | refine wBox hk ?_ | refine wBox1I hk ?_ | refine wBox1B hk ?_ | refine wBox1S hk ?_ | refine wBox1P hk ?_ | refine wBox1F hk ?_ | refine wAllocR hk ?_ | refine wAlloc1 hk ?_ | refine wMake hk ?_); clear hk; intro w1 hk; simp only [Act.put, List.setIfInBounds_toArray, List.set_cons_succ, List.set_cons_zero]) | ((first | refine wStoreR hk ?_ | refine wStore1I hk ?_ | refine wStore1B hk ?_ | refine wStore1S hk ?_ | refine wStore1P hk ?_ | refine wStore1F hk ?_); clear hk; intro w1 hk; simp only [Act.put]))))
          (refine wp_regK hk (.op 0 (.op 1 (.op 2 (.op 3 (.op 4 (.op 5 (.op 6 (.op 7 (.op 8 (.op 9 (.op 10 (.op 11 .nil)))))))))))) (fun i => decide (i < 11)) mixT (by decide) (by kernel_rfl) (by kernel_rfl) ?_; clear hk; intro w1 hk)
          (repeat ((first | refine vMoveI hk ?_ | refine vMoveB hk ?_ | refine uMoveS hk ?_ | refine uMoveP hk ?_ | refine uMoveT hk ?_ | refine vAssignI hk ?_ | refine vAssignB hk ?_ | refine uAssignS hk ?_ | refine uAssignP hk ?_ | refine sMove hk ?_ | refine sAssign hk ?_ | refine sExtract hk ?_ | refine sFieldZ hk ?_ | refine sField0 hk ?_ | refine sField hk ?_ | refine sIndexA0 hk ?_ | refine sIndexS0 hk ?_ | refine sIndexA hk ?_ | refine sIndexS hk ?_ | refine sLoadR hk ?_ | refine sLoad1 hk ?_ | refine sOldR hk ?_ | refine sOld1 hk ?_ | refine sOldC hk ?_ | refine sOldG hk ?_ | refine sBuild hk ?_ | refine sPickT hk ?_ | refine sPickF hk ?_ | refine sLss hk ?_ | refine sLeq hk ?_ | refine sGtr hk ?_ | refine sGeq hk ?_ | refine sEql hk ?_ | refine sNot hk ?_ | refine sSkip hk ?_ | refine sSkipA hk ?_); simp only [Act.put, List.setIfInBounds_toArray, List.set_cons_succ, List.set_cons_zero]))
          refine sOld1 hk ?_ (hat := hatG) (hv := hG); simp only [Act.put, List.setIfInBounds_toArray, List.set_cons_succ, List.set_cons_zero]
          refine sCall ?_; intro K hK; go_step; go_at_call 22
          refine (SCheck_any P' s cl HIN.out hcl2 _ _ _ (HS3.out.below hk.mod.below HS3.out.1) (HP3.out.below hk.mod.below (Nat.le_refl _)) (HC.out.below hk.mod.below (Nat.le_refl _))).mono ?_
          rintro x w4 ⟨rfl, hb⟩
          replace hk := hk.call hb
          refine hK _ _ (fun _ => hk) ?_
          clear hK K hb hG
          rw [scheck_fst HR'.out]
          obtain ⟨er, her⟩ : ∃ er, (checkR P' s cl).1 = er := ⟨_, rfl⟩
          obtain ⟨pl, hpl⟩ : ∃ pl, (checkR P' s cl).2 = pl := ⟨_, rfl⟩
          rw [her, hpl]
          have HER := hide her
          clear her hpl
          (repeat ((first | refine vMoveI hk ?_ | refine vMoveB hk ?_ | refine uMoveS hk ?_ | refine uMoveP hk ?_ | refine uMoveT hk ?_ | refine vAssignI hk ?_ | refine vAssignB hk ?_ | refine uAssignS hk ?_ | refine uAssignP hk ?_ | refine sMove hk ?_ | refine sAssign hk ?_ | refine sExtract hk ?_ | refine sFieldZ hk ?_ | refine sField0 hk ?_ | refine sField hk ?_ | refine sIndexA0 hk ?_ | refine sIndexS0 hk ?_ | refine sIndexA hk ?_ | refine sIndexS hk ?_ | refine sLoadR hk ?_ | refine sLoad1 hk ?_ | refine sOldR hk ?_ | refine sOld1 hk ?_ | refine sOldC hk ?_ | refine sOldG hk ?_ | refine sBuild hk ?_ | refine sPickT hk ?_ | refine sPickF hk ?_ | refine sLss hk ?_ | refine sLeq hk ?_ | refine sGtr hk ?_ | refine sGeq hk ?_ | refine sEql hk ?_ | refine sNot hk ?_ | refine sSkip hk ?_ | refine sSkipA hk ?_); simp only [Act.put, List.setIfInBounds_toArray, List.set_cons_succ, List.set_cons_zero]))
          refine tNil ?_
          by_cases h0 : er = 0
          · subst h0
            go_wp2_with (first | ((with_reducible show wpList _ _ _ _ _ _); (first | ((with_reducible show wpList _ _ _ (⟨_, _, _, _, _, some _⟩ :: _) _ _); refine wpList_skip (by rfl) ?_; simp only [Act.put, List.setIfInBounds_toArray, List.set_cons_succ, List.set_cons_zero]) | ((first | refine wBuild hk ?_ | refine wFieldZ hk ?_ | refine wField0 hk ?_ | refine wField hk ?_ | refine wIndexA0 hk ?_ | refine wIndexS0 hk ?_ | refine wIndexA hk ?_ | refine wIndexS hk ?_ | refine wLoadR hk ?_ | refine wLoad1 hk ?_ | refine wOldR hk ?_ | refine wOld1 hk ?_ | refine wOldC hk ?_ | refine wOldG hk ?_ | refine wAssertY hk ?_ | refine wAssertN hk ?_); simp only [Act.put, List.setIfInBounds_toArray, List.set_cons_succ, List.set_cons_zero]) | ((first | refine wBox hk ?_ | refine wBox1I hk ?_ | refine wBox1B hk ?_ | refine wBox1S hk ?_ | refine wBox1P hk ?_ | refine wBox1F hk ?_ | refine wAllocR hk ?_ | refine wAlloc1 hk ?_ | refine wMake hk ?_); clear hk; intro w1 hk; simp only [Act.put, List.setIfInBounds_toArray, List.set_cons_succ, List.set_cons_zero]) | ((first | refine wStoreR hk ?_ | refine wStore1I hk ?_ | refine wStore1B hk ?_ | refine wStore1S hk ?_ | refine wStore1P hk ?_ | refine wStore1F hk ?_); clear hk; intro w1 hk; simp only [Act.put]))))
            go_at_call 27
            refine (SProve_any P' HK'.out s HSI.out _ _ (HS3.out.below hk.mod.below HS3.out.1) (HP3.out.below hk.mod.below (Nat.le_refl _))).mono ?_
            rintro x w6 ⟨cv, er, pl2, c, rfl, hP, hown, hb⟩
            obtain ⟨rfl, hc64, hall⟩ := found_is HF'.out HK'.out HR'.out HBK.out HIN.out HER.out hP
            replace hk := hk.call hb
            have HCC := hide (own_slcC hown rfl)
            obtain ⟨va, vcap, rfl⟩ := own_sliceK hown
            have HALL := hide hall
            have HK6 := hide hk
            have HC6 := hide (HC.out.below hk.mod.below (Nat.le_refl _))
            have hatG6 := hatG.belowK hk.mod.below
            clear hb hown hall hk hP
            have hk := Kn.nil [] w6
            go_wp2_with (first | ((with_reducible show wpList _ _ _ _ _ _); (first | ((with_reducible show wpList _ _ _ (⟨_, _, _, _, _, some _⟩ :: _) _ _); refine wpList_skip (by rfl) ?_; simp only [Act.put, List.setIfInBounds_toArray, List.set_cons_succ, List.set_cons_zero]) | ((first | refine wBuild hk ?_ | refine wFieldZ hk ?_ | refine wField0 hk ?_ | refine wField hk ?_ | refine wIndexA0 hk ?_ | refine wIndexS0 hk ?_ | refine wIndexA hk ?_ | refine wIndexS hk ?_ | refine wLoadR hk ?_ | refine wLoad1 hk ?_ | refine wOldR hk ?_ | refine wOld1 hk ?_ | refine wOldC hk ?_ | refine wOldG hk ?_ | refine wAssertY hk ?_ | refine wAssertN hk ?_); simp only [Act.put, List.setIfInBounds_toArray, List.set_cons_succ, List.set_cons_zero]) | ((first | refine wBox hk ?_ | refine wBox1I hk ?_ | refine wBox1B hk ?_ | refine wBox1S hk ?_ | refine wBox1P hk ?_ | refine wBox1F hk ?_ | refine wAllocR hk ?_ | refine wAlloc1 hk ?_ | refine wMake hk ?_); clear hk; intro w1 hk; simp only [Act.put, List.setIfInBounds_toArray, List.set_cons_succ, List.set_cons_zero]) | ((first | refine wStoreR hk ?_ | refine wStore1I hk ?_ | refine wStore1B hk ?_ | refine wStore1S hk ?_ | refine wStore1P hk ?_ | refine wStore1F hk ?_); clear hk; intro w1 hk; simp only [Act.put]))))
            go_loopw [21] (fun j wr => ∃ k : Nat, k ≤ c.length ∧ j = .int .i64 k ∧ Kn [] w6 wr []) (fun j _ => c.length - (intOf j).toNat)
            case atStart => exact ⟨0, by omega, rfl, hk⟩
            case round =>
              clear hk
              obtain ⟨k, hkl, rfl, hk⟩ := hrel
              by_cases hlk : k < c.length
              · obtain ⟨vb, voff, rfl, hvb, hrows⟩ := HCC.out.atK (by omega)
                have hrow := hrows k hlk
                have HFN := hide (fndU_all (HALL.out k hlk))
                obtain ⟨c1, hc1⟩ : ∃ c1, clAt c k = c1 := ⟨_, rfl⟩
                rw [hc1] at hrow HFN
                have hcp := clK_cell hrow
                have hcs := clK_st hrow
                clear hc1 hrow hrows
                go_wp2_with (first | ((with_reducible show wpList _ _ _ _ _ _); (first | ((with_reducible show wpList _ _ _ (⟨_, _, _, _, _, some _⟩ :: _) _ _); refine wpList_skip (by rfl) ?_; simp only [Act.put, List.setIfInBounds_toArray, List.set_cons_succ, List.set_cons_zero]) | ((first | refine wBuild hk ?_ | refine wFieldZ hk ?_ | refine wField0 hk ?_ | refine wField hk ?_ | refine wIndexA0 hk ?_ | refine wIndexS0 hk ?_ | refine wIndexA hk ?_ | refine wIndexS hk ?_ | refine wLoadR hk ?_ | refine wLoad1 hk ?_ | refine wOldR hk ?_ | refine wOld1 hk ?_ | refine wOldC hk ?_ | refine wOldG hk ?_ | refine wAssertY hk ?_ | refine wAssertN hk ?_); simp only [Act.put, List.setIfInBounds_toArray, List.set_cons_succ, List.set_cons_zero]) | ((first | refine wBox hk ?_ | refine wBox1I hk ?_ | refine wBox1B hk ?_ | refine wBox1S hk ?_ | refine wBox1P hk ?_ | refine wBox1F hk ?_ | refine wAllocR hk ?_ | refine wAlloc1 hk ?_ | refine wMake hk ?_); clear hk; intro w1 hk; simp only [Act.put, List.setIfInBounds_toArray, List.set_cons_succ, List.set_cons_zero]) | ((first | refine wStoreR hk ?_ | refine wStore1I hk ?_ | refine wStore1B hk ?_ | refine wStore1S hk ?_ | refine wStore1P hk ?_ | refine wStore1F hk ?_); clear hk; intro w1 hk; simp only [Act.put]))))
                go_loopw [22, 23] (fun q j wr => ∃ n : Nat, n ≤ cl.length ∧ j = .int .i64 n ∧ q = .bool (fndU cl c1 n) ∧ Kn [] w6 wr []) (fun _ j _ => cl.length - (intOf j).toNat)
                case atStart => exact ⟨0, by omega, rfl, rfl, hk⟩
                case round =>
                  clear hk
                  obtain ⟨n, hn, rfl, rfl, hk⟩ := hrel
                  by_cases hln : n < cl.length
                  · obtain ⟨ub, uoff, rfl, hub, hrows⟩ := HC6.out.atK (by omega)
                    have hrow := hrows n hln
                    have EQ : Hid (∀ h : fndU cl c1 n = false, (clAt cl n).pl = c1.pl → fndU cl c1 (n + 1) = liesR c1.st (clAt cl n).st) := hide fun h hp => fndU_eq h hp
                    have NO : Hid (∀ h : fndU cl c1 n = false, ¬ (clAt cl n).pl = c1.pl → fndU cl c1 (n + 1) = false) := hide fun h hp => fndU_no h hp
                    obtain ⟨c2, hc2⟩ : ∃ c2, clAt cl n = c2 := ⟨_, rfl⟩
                    rw [hc2] at hrow EQ NO
                    have hup := clK_cell hrow
                    have hus := clK_st hrow
                    clear hc2 hrow hrows
                    cases hq : fndU cl c1 n with
                    | true =>
                      have R := hide (fndU_old hq)
                      clear hq
                      go_wp2_with (first | ((with_reducible show wpList _ _ _ (⟨some 101, _, _, _, _, _⟩ :: _) _ _); refine wOld1 hk ?_ (hat := hatG6) (hv := HG.out); simp only [Act.put, List.setIfInBounds_toArray, List.set_cons_succ, List.set_cons_zero]) | ((with_reducible show wpList _ _ _ _ _ _); (first | ((with_reducible show wpList _ _ _ (⟨_, _, _, _, _, some _⟩ :: _) _ _); refine wpList_skip (by rfl) ?_; simp only [Act.put, List.setIfInBounds_toArray, List.set_cons_succ, List.set_cons_zero]) | ((first | refine wBuild hk ?_ | refine wFieldZ hk ?_ | refine wField0 hk ?_ | refine wField hk ?_ | refine wIndexA0 hk ?_ | refine wIndexS0 hk ?_ | refine wIndexA hk ?_ | refine wIndexS hk ?_ | refine wLoadR hk ?_ | refine wLoad1 hk ?_ | refine wOldR hk ?_ | refine wOld1 hk ?_ | refine wOldC hk ?_ | refine wOldG hk ?_ | refine wAssertY hk ?_ | refine wAssertN hk ?_); simp only [Act.put, List.setIfInBounds_toArray, List.set_cons_succ, List.set_cons_zero]) | ((first | refine wBox hk ?_ | refine wBox1I hk ?_ | refine wBox1B hk ?_ | refine wBox1S hk ?_ | refine wBox1P hk ?_ | refine wBox1F hk ?_ | refine wAllocR hk ?_ | refine wAlloc1 hk ?_ | refine wMake hk ?_); clear hk; intro w1 hk; simp only [Act.put, List.setIfInBounds_toArray, List.set_cons_succ, List.set_cons_zero]) | ((first | refine wStoreR hk ?_ | refine wStore1I hk ?_ | refine wStore1B hk ?_ | refine wStore1S hk ?_ | refine wStore1P hk ?_ | refine wStore1F hk ?_); clear hk; intro w1 hk; simp only [Act.put]))))
                      (refine wp_regK hk (.op 0 (.op 1 (.op 2 (.op 3 (.op 4 (.op 5 (.op 6 (.op 7 (.op 8 (.op 9 (.op 10 (.op 11 (.op 12 (.op 13 (.op 14 .nil))))))))))))))) (fun i => decide (i < 14)) mixT (by decide) (by kernel_rfl) (by kernel_rfl) ?_; clear hk; intro w1 hk)
                      (repeat ((first | refine vMoveI hk ?_ | refine vMoveB hk ?_ | refine uMoveS hk ?_ | refine uMoveP hk ?_ | refine uMoveT hk ?_ | refine vAssignI hk ?_ | refine vAssignB hk ?_ | refine uAssignS hk ?_ | refine uAssignP hk ?_ | refine sMove hk ?_ | refine sAssign hk ?_ | refine sExtract hk ?_ | refine sFieldZ hk ?_ | refine sField0 hk ?_ | refine sField hk ?_ | refine sIndexA0 hk ?_ | refine sIndexS0 hk ?_ | refine sIndexA hk ?_ | refine sIndexS hk ?_ | refine sLoadR hk ?_ | refine sLoad1 hk ?_ | refine sOldR hk ?_ | refine sOld1 hk ?_ | refine sOldC hk ?_ | refine sOldG hk ?_ | refine sBuild hk ?_ | refine sPickT hk ?_ | refine sPickF hk ?_ | refine sLss hk ?_ | refine sLeq hk ?_ | refine sGtr hk ?_ | refine sGeq hk ?_ | refine sEql hk ?_ | refine sNot hk ?_ | refine sSkip hk ?_ | refine sSkipA hk ?_); simp only [Act.put, List.setIfInBounds_toArray, List.set_cons_succ, List.set_cons_zero]))
                      refine sOld1 hk ?_ (hat := hatG6) (hv := HG.out); simp only [Act.put, List.setIfInBounds_toArray, List.set_cons_succ, List.set_cons_zero]
                      (repeat ((first | refine vMoveI hk ?_ | refine vMoveB hk ?_ | refine uMoveS hk ?_ | refine uMoveP hk ?_ | refine uMoveT hk ?_ | refine vAssignI hk ?_ | refine vAssignB hk ?_ | refine uAssignS hk ?_ | refine uAssignP hk ?_ | refine sMove hk ?_ | refine sAssign hk ?_ | refine sExtract hk ?_ | refine sFieldZ hk ?_ | refine sField0 hk ?_ | refine sField hk ?_ | refine sIndexA0 hk ?_ | refine sIndexS0 hk ?_ | refine sIndexA hk ?_ | refine sIndexS hk ?_ | refine sLoadR hk ?_ | refine sLoad1 hk ?_ | refine sOldR hk ?_ | refine sOld1 hk ?_ | refine sOldC hk ?_ | refine sOldG hk ?_ | refine sBuild hk ?_ | refine sPickT hk ?_ | refine sPickF hk ?_ | refine sLss hk ?_ | refine sLeq hk ?_ | refine sGtr hk ?_ | refine sGeq hk ?_ | refine sEql hk ?_ | refine sNot hk ?_ | refine sSkip hk ?_ | refine sSkipA hk ?_); simp only [Act.put, List.setIfInBounds_toArray, List.set_cons_succ, List.set_cons_zero]))
                      refine sCall ?_; intro K hK; go_step; go_at_call 30
                      refine (kLies_any _ _ _).mono ?_
                      rintro x w7 ⟨rfl, hb⟩
                      replace hk := hk.call hb
                      refine hK _ _ (fun _ => hk) ?_
                      clear hK K hb
                      obtain ⟨lb, hlb⟩ : ∃ lb, liesR c1.st c2.st = lb := ⟨_, rfl⟩
                      rw [hlb]
                      (repeat ((first | refine vMoveI hk ?_ | refine vMoveB hk ?_ | refine uMoveS hk ?_ | refine uMoveP hk ?_ | refine uMoveT hk ?_ | refine vAssignI hk ?_ | refine vAssignB hk ?_ | refine uAssignS hk ?_ | refine uAssignP hk ?_ | refine sMove hk ?_ | refine sAssign hk ?_ | refine sExtract hk ?_ | refine sFieldZ hk ?_ | refine sField0 hk ?_ | refine sField hk ?_ | refine sIndexA0 hk ?_ | refine sIndexS0 hk ?_ | refine sIndexA hk ?_ | refine sIndexS hk ?_ | refine sLoadR hk ?_ | refine sLoad1 hk ?_ | refine sOldR hk ?_ | refine sOld1 hk ?_ | refine sOldC hk ?_ | refine sOldG hk ?_ | refine sBuild hk ?_ | refine sPickT hk ?_ | refine sPickF hk ?_ | refine sLss hk ?_ | refine sLeq hk ?_ | refine sGtr hk ?_ | refine sGeq hk ?_ | refine sEql hk ?_ | refine sNot hk ?_ | refine sSkip hk ?_ | refine sSkipA hk ?_); simp only [Act.put, List.setIfInBounds_toArray, List.set_cons_succ, List.set_cons_zero]))
                      refine tNil ?_
                      go_wp2_with (first | ((with_reducible show wpList _ _ _ _ _ _); (first | ((with_reducible show wpList _ _ _ (⟨_, _, _, _, _, some _⟩ :: _) _ _); refine wpList_skip (by rfl) ?_; simp only [Act.put, List.setIfInBounds_toArray, List.set_cons_succ, List.set_cons_zero]) | ((first | refine wBuild hk ?_ | refine wFieldZ hk ?_ | refine wField0 hk ?_ | refine wField hk ?_ | refine wIndexA0 hk ?_ | refine wIndexS0 hk ?_ | refine wIndexA hk ?_ | refine wIndexS hk ?_ | refine wLoadR hk ?_ | refine wLoad1 hk ?_ | refine wOldR hk ?_ | refine wOld1 hk ?_ | refine wOldC hk ?_ | refine wOldG hk ?_ | refine wAssertY hk ?_ | refine wAssertN hk ?_); simp only [Act.put, List.setIfInBounds_toArray, List.set_cons_succ, List.set_cons_zero]) | ((first | refine wBox hk ?_ | refine wBox1I hk ?_ | refine wBox1B hk ?_ | refine wBox1S hk ?_ | refine wBox1P hk ?_ | refine wBox1F hk ?_ | refine wAllocR hk ?_ | refine wAlloc1 hk ?_ | refine wMake hk ?_); clear hk; intro w1 hk; simp only [Act.put, List.setIfInBounds_toArray, List.set_cons_succ, List.set_cons_zero]) | ((first | refine wStoreR hk ?_ | refine wStore1I hk ?_ | refine wStore1B hk ?_ | refine wStore1S hk ?_ | refine wStore1P hk ?_ | refine wStore1F hk ?_); clear hk; intro w1 hk; simp only [Act.put]))))
                      (refine wp_regK hk (.op 0 (.op 1 (.op 2 (.op 3 (.op 4 (.op 5 (.op 6 (.op 7 (.op 8 (.op 9 (.op 10 (.op 11 (.op 12 (.op 13 (.op 14 (.op 15 (.op 16 (.op 17 (.op 18 (.op 19 (.op 20 .nil))))))))))))))))))))) (fun i => decide (i < 20)) mixT (by decide) (by kernel_rfl) (by kernel_rfl) ?_; clear hk; intro w1 hk)
                      (repeat ((first | refine vMoveI hk ?_ | refine vMoveB hk ?_ | refine uMoveS hk ?_ | refine uMoveP hk ?_ | refine uMoveT hk ?_ | refine vAssignI hk ?_ | refine vAssignB hk ?_ | refine uAssignS hk ?_ | refine uAssignP hk ?_ | refine sMove hk ?_ | refine sAssign hk ?_ | refine sExtract hk ?_ | refine sFieldZ hk ?_ | refine sField0 hk ?_ | refine sField hk ?_ | refine sIndexA0 hk ?_ | refine sIndexS0 hk ?_ | refine sIndexA hk ?_ | refine sIndexS hk ?_ | refine sLoadR hk ?_ | refine sLoad1 hk ?_ | refine sOldR hk ?_ | refine sOld1 hk ?_ | refine sOldC hk ?_ | refine sOldG hk ?_ | refine sBuild hk ?_ | refine sPickT hk ?_ | refine sPickF hk ?_ | refine sLss hk ?_ | refine sLeq hk ?_ | refine sGtr hk ?_ | refine sGeq hk ?_ | refine sEql hk ?_ | refine sNot hk ?_ | refine sSkip hk ?_ | refine sSkipA hk ?_); simp only [Act.put, List.setIfInBounds_toArray, List.set_cons_succ, List.set_cons_zero]))
                      refine tNil ?_
                      go_wp2_with (first | ((with_reducible show wpList _ _ _ _ _ _); (first | ((with_reducible show wpList _ _ _ (⟨_, _, _, _, _, some _⟩ :: _) _ _); refine wpList_skip (by rfl) ?_; simp only [Act.put, List.setIfInBounds_toArray, List.set_cons_succ, List.set_cons_zero]) | ((first | refine wBuild hk ?_ | refine wFieldZ hk ?_ | refine wField0 hk ?_ | refine wField hk ?_ | refine wIndexA0 hk ?_ | refine wIndexS0 hk ?_ | refine wIndexA hk ?_ | refine wIndexS hk ?_ | refine wLoadR hk ?_ | refine wLoad1 hk ?_ | refine wOldR hk ?_ | refine wOld1 hk ?_ | refine wOldC hk ?_ | refine wOldG hk ?_ | refine wAssertY hk ?_ | refine wAssertN hk ?_); simp only [Act.put, List.setIfInBounds_toArray, List.set_cons_succ, List.set_cons_zero]) | ((first | refine wBox hk ?_ | refine wBox1I hk ?_ | refine wBox1B hk ?_ | refine wBox1S hk ?_ | refine wBox1P hk ?_ | refine wBox1F hk ?_ | refine wAllocR hk ?_ | refine wAlloc1 hk ?_ | refine wMake hk ?_); clear hk; intro w1 hk; simp only [Act.put, List.setIfInBounds_toArray, List.set_cons_succ, List.set_cons_zero]) | ((first | refine wStoreR hk ?_ | refine wStore1I hk ?_ | refine wStore1B hk ?_ | refine wStore1S hk ?_ | refine wStore1P hk ?_ | refine wStore1F hk ?_); clear hk; intro w1 hk; simp only [Act.put]))))
                      go_roundw
                      case rel => exact ⟨n + 1, by omega, by go_num, by rw [R.out], hk⟩
                      case measure => simp [intOf]; omega
                    | false =>
                      by_cases hpl : c2.pl = c1.pl
                      · have R := hide (EQ.out hq hpl)
                        have D2 : Hid ((c2.pl == c1.pl) = true) := hide (beq_iff_eq.2 hpl)
                        clear hq hpl
                        go_wp2_with (first | ((with_reducible show wpList _ _ _ (⟨some 101, _, _, _, _, _⟩ :: _) _ _); refine wOld1 hk ?_ (hat := hatG6) (hv := HG.out); simp only [Act.put, List.setIfInBounds_toArray, List.set_cons_succ, List.set_cons_zero]) | ((with_reducible show wpList _ _ _ _ _ _); (first | ((with_reducible show wpList _ _ _ (⟨_, _, _, _, _, some _⟩ :: _) _ _); refine wpList_skip (by rfl) ?_; simp only [Act.put, List.setIfInBounds_toArray, List.set_cons_succ, List.set_cons_zero]) | ((first | refine wBuild hk ?_ | refine wFieldZ hk ?_ | refine wField0 hk ?_ | refine wField hk ?_ | refine wIndexA0 hk ?_ | refine wIndexS0 hk ?_ | refine wIndexA hk ?_ | refine wIndexS hk ?_ | refine wLoadR hk ?_ | refine wLoad1 hk ?_ | refine wOldR hk ?_ | refine wOld1 hk ?_ | refine wOldC hk ?_ | refine wOldG hk ?_ | refine wAssertY hk ?_ | refine wAssertN hk ?_); simp only [Act.put, List.setIfInBounds_toArray, List.set_cons_succ, List.set_cons_zero]) | ((first | refine wBox hk ?_ | refine wBox1I hk ?_ | refine wBox1B hk ?_ | refine wBox1S hk ?_ | refine wBox1P hk ?_ | refine wBox1F hk ?_ | refine wAllocR hk ?_ | refine wAlloc1 hk ?_ | refine wMake hk ?_); clear hk; intro w1 hk; simp only [Act.put, List.setIfInBounds_toArray, List.set_cons_succ, List.set_cons_zero]) | ((first | refine wStoreR hk ?_ | refine wStore1I hk ?_ | refine wStore1B hk ?_ | refine wStore1S hk ?_ | refine wStore1P hk ?_ | refine wStore1F hk ?_); clear hk; intro w1 hk; simp only [Act.put]))))
                        (refine wp_regK hk (.op 0 (.op 1 (.op 2 (.op 3 (.op 4 (.op 5 (.op 6 (.op 7 (.op 8 (.op 9 (.op 10 (.op 11 (.op 12 (.op 13 (.op 14 .nil))))))))))))))) (fun i => decide (i < 14)) mixT (by decide) (by kernel_rfl) (by kernel_rfl) ?_; clear hk; intro w1 hk)
                        (repeat ((first | refine vMoveI hk ?_ | refine vMoveB hk ?_ | refine uMoveS hk ?_ | refine uMoveP hk ?_ | refine uMoveT hk ?_ | refine vAssignI hk ?_ | refine vAssignB hk ?_ | refine uAssignS hk ?_ | refine uAssignP hk ?_ | refine sMove hk ?_ | refine sAssign hk ?_ | refine sExtract hk ?_ | refine sFieldZ hk ?_ | refine sField0 hk ?_ | refine sField hk ?_ | refine sIndexA0 hk ?_ | refine sIndexS0 hk ?_ | refine sIndexA hk ?_ | refine sIndexS hk ?_ | refine sLoadR hk ?_ | refine sLoad1 hk ?_ | refine sOldR hk ?_ | refine sOld1 hk ?_ | refine sOldC hk ?_ | refine sOldG hk ?_ | refine sBuild hk ?_ | refine sPickT hk ?_ | refine sPickF hk ?_ | refine sLss hk ?_ | refine sLeq hk ?_ | refine sGtr hk ?_ | refine sGeq hk ?_ | refine sEql hk ?_ | refine sNot hk ?_ | refine sSkip hk ?_ | refine sSkipA hk ?_); simp only [Act.put, List.setIfInBounds_toArray, List.set_cons_succ, List.set_cons_zero]))
                        refine sOld1 hk ?_ (hat := hatG6) (hv := HG.out); simp only [Act.put, List.setIfInBounds_toArray, List.set_cons_succ, List.set_cons_zero]
                        (repeat ((first | refine vMoveI hk ?_ | refine vMoveB hk ?_ | refine uMoveS hk ?_ | refine uMoveP hk ?_ | refine uMoveT hk ?_ | refine vAssignI hk ?_ | refine vAssignB hk ?_ | refine uAssignS hk ?_ | refine uAssignP hk ?_ | refine sMove hk ?_ | refine sAssign hk ?_ | refine sExtract hk ?_ | refine sFieldZ hk ?_ | refine sField0 hk ?_ | refine sField hk ?_ | refine sIndexA0 hk ?_ | refine sIndexS0 hk ?_ | refine sIndexA hk ?_ | refine sIndexS hk ?_ | refine sLoadR hk ?_ | refine sLoad1 hk ?_ | refine sOldR hk ?_ | refine sOld1 hk ?_ | refine sOldC hk ?_ | refine sOldG hk ?_ | refine sBuild hk ?_ | refine sPickT hk ?_ | refine sPickF hk ?_ | refine sLss hk ?_ | refine sLeq hk ?_ | refine sGtr hk ?_ | refine sGeq hk ?_ | refine sEql hk ?_ | refine sNot hk ?_ | refine sSkip hk ?_ | refine sSkipA hk ?_); simp only [Act.put, List.setIfInBounds_toArray, List.set_cons_succ, List.set_cons_zero]))
                        refine sCall ?_; intro K hK; go_step; go_at_call 30
                        refine (kLies_any _ _ _).mono ?_
                        rintro x w7 ⟨rfl, hb⟩
                        replace hk := hk.call hb
                        refine hK _ _ (fun _ => hk) ?_
                        clear hK K hb
                        obtain ⟨lb, hlb⟩ : ∃ lb, liesR c1.st c2.st = lb := ⟨_, rfl⟩
                        rw [hlb] at R ⊢
                        (repeat ((first | refine vMoveI hk ?_ | refine vMoveB hk ?_ | refine uMoveS hk ?_ | refine uMoveP hk ?_ | refine uMoveT hk ?_ | refine vAssignI hk ?_ | refine vAssignB hk ?_ | refine uAssignS hk ?_ | refine uAssignP hk ?_ | refine sMove hk ?_ | refine sAssign hk ?_ | refine sExtract hk ?_ | refine sFieldZ hk ?_ | refine sField0 hk ?_ | refine sField hk ?_ | refine sIndexA0 hk ?_ | refine sIndexS0 hk ?_ | refine sIndexA hk ?_ | refine sIndexS hk ?_ | refine sLoadR hk ?_ | refine sLoad1 hk ?_ | refine sOldR hk ?_ | refine sOld1 hk ?_ | refine sOldC hk ?_ | refine sOldG hk ?_ | refine sBuild hk ?_ | refine sPickT hk ?_ | refine sPickF hk ?_ | refine sLss hk ?_ | refine sLeq hk ?_ | refine sGtr hk ?_ | refine sGeq hk ?_ | refine sEql hk ?_ | refine sNot hk ?_ | refine sSkip hk ?_ | refine sSkipA hk ?_); simp only [Act.put, List.setIfInBounds_toArray, List.set_cons_succ, List.set_cons_zero]))
                        refine tNil ?_
                        go_wp2_with (first | ((with_reducible show wpList _ _ _ _ _ _); (first | ((with_reducible show wpList _ _ _ (⟨_, _, _, _, _, some _⟩ :: _) _ _); refine wpList_skip (by rfl) ?_; simp only [Act.put, List.setIfInBounds_toArray, List.set_cons_succ, List.set_cons_zero]) | ((first | refine wBuild hk ?_ | refine wFieldZ hk ?_ | refine wField0 hk ?_ | refine wField hk ?_ | refine wIndexA0 hk ?_ | refine wIndexS0 hk ?_ | refine wIndexA hk ?_ | refine wIndexS hk ?_ | refine wLoadR hk ?_ | refine wLoad1 hk ?_ | refine wOldR hk ?_ | refine wOld1 hk ?_ | refine wOldC hk ?_ | refine wOldG hk ?_ | refine wAssertY hk ?_ | refine wAssertN hk ?_); simp only [Act.put, List.setIfInBounds_toArray, List.set_cons_succ, List.set_cons_zero]) | ((first | refine wBox hk ?_ | refine wBox1I hk ?_ | refine wBox1B hk ?_ | refine wBox1S hk ?_ | refine wBox1P hk ?_ | refine wBox1F hk ?_ | refine wAllocR hk ?_ | refine wAlloc1 hk ?_ | refine wMake hk ?_); clear hk; intro w1 hk; simp only [Act.put, List.setIfInBounds_toArray, List.set_cons_succ, List.set_cons_zero]) | ((first | refine wStoreR hk ?_ | refine wStore1I hk ?_ | refine wStore1B hk ?_ | refine wStore1S hk ?_ | refine wStore1P hk ?_ | refine wStore1F hk ?_); clear hk; intro w1 hk; simp only [Act.put]))))
                        (refine wp_regK hk (.op 0 (.op 1 (.op 2 (.op 3 (.op 4 (.op 5 (.op 6 (.op 7 (.op 8 (.op 9 (.op 10 (.op 11 (.op 12 (.op 13 (.op 14 (.op 15 (.op 16 (.op 17 (.op 18 (.op 19 (.op 20 .nil))))))))))))))))))))) (fun i => decide (i < 20)) mixT (by decide) (by kernel_rfl) (by kernel_rfl) ?_; clear hk; intro w1 hk)
                        (repeat ((first | refine vMoveI hk ?_ | refine vMoveB hk ?_ | refine uMoveS hk ?_ | refine uMoveP hk ?_ | refine uMoveT hk ?_ | refine vAssignI hk ?_ | refine vAssignB hk ?_ | refine uAssignS hk ?_ | refine uAssignP hk ?_ | refine sMove hk ?_ | refine sAssign hk ?_ | refine sExtract hk ?_ | refine sFieldZ hk ?_ | refine sField0 hk ?_ | refine sField hk ?_ | refine sIndexA0 hk ?_ | refine sIndexS0 hk ?_ | refine sIndexA hk ?_ | refine sIndexS hk ?_ | refine sLoadR hk ?_ | refine sLoad1 hk ?_ | refine sOldR hk ?_ | refine sOld1 hk ?_ | refine sOldC hk ?_ | refine sOldG hk ?_ | refine sBuild hk ?_ | refine sPickT hk ?_ | refine sPickF hk ?_ | refine sLss hk ?_ | refine sLeq hk ?_ | refine sGtr hk ?_ | refine sGeq hk ?_ | refine sEql hk ?_ | refine sNot hk ?_ | refine sSkip hk ?_ | refine sSkipA hk ?_); simp only [Act.put, List.setIfInBounds_toArray, List.set_cons_succ, List.set_cons_zero]; (try rw [D2.out])))
                        refine sOld1 hk ?_ (hat := hatG6) (hv := HG.out); simp only [Act.put, List.setIfInBounds_toArray, List.set_cons_succ, List.set_cons_zero]
                        (repeat ((first | refine vMoveI hk ?_ | refine vMoveB hk ?_ | refine uMoveS hk ?_ | refine uMoveP hk ?_ | refine uMoveT hk ?_ | refine vAssignI hk ?_ | refine vAssignB hk ?_ | refine uAssignS hk ?_ | refine uAssignP hk ?_ | refine sMove hk ?_ | refine sAssign hk ?_ | refine sExtract hk ?_ | refine sFieldZ hk ?_ | refine sField0 hk ?_ | refine sField hk ?_ | refine sIndexA0 hk ?_ | refine sIndexS0 hk ?_ | refine sIndexA hk ?_ | refine sIndexS hk ?_ | refine sLoadR hk ?_ | refine sLoad1 hk ?_ | refine sOldR hk ?_ | refine sOld1 hk ?_ | refine sOldC hk ?_ | refine sOldG hk ?_ | refine sBuild hk ?_ | refine sPickT hk ?_ | refine sPickF hk ?_ | refine sLss hk ?_ | refine sLeq hk ?_ | refine sGtr hk ?_ | refine sGeq hk ?_ | refine sEql hk ?_ | refine sNot hk ?_ | refine sSkip hk ?_ | refine sSkipA hk ?_); simp only [Act.put, List.setIfInBounds_toArray, List.set_cons_succ, List.set_cons_zero]; (try rw [D2.out])))
                        refine tNil ?_
                        go_wp2_with (first | ((with_reducible show wpList _ _ _ _ _ _); (first | ((with_reducible show wpList _ _ _ (⟨_, _, _, _, _, some _⟩ :: _) _ _); refine wpList_skip (by rfl) ?_; simp only [Act.put, List.setIfInBounds_toArray, List.set_cons_succ, List.set_cons_zero]) | ((first | refine wBuild hk ?_ | refine wFieldZ hk ?_ | refine wField0 hk ?_ | refine wField hk ?_ | refine wIndexA0 hk ?_ | refine wIndexS0 hk ?_ | refine wIndexA hk ?_ | refine wIndexS hk ?_ | refine wLoadR hk ?_ | refine wLoad1 hk ?_ | refine wOldR hk ?_ | refine wOld1 hk ?_ | refine wOldC hk ?_ | refine wOldG hk ?_ | refine wAssertY hk ?_ | refine wAssertN hk ?_); simp only [Act.put, List.setIfInBounds_toArray, List.set_cons_succ, List.set_cons_zero]) | ((first | refine wBox hk ?_ | refine wBox1I hk ?_ | refine wBox1B hk ?_ | refine wBox1S hk ?_ | refine wBox1P hk ?_ | refine wBox1F hk ?_ | refine wAllocR hk ?_ | refine wAlloc1 hk ?_ | refine wMake hk ?_); clear hk; intro w1 hk; simp only [Act.put, List.setIfInBounds_toArray, List.set_cons_succ, List.set_cons_zero]) | ((first | refine wStoreR hk ?_ | refine wStore1I hk ?_ | refine wStore1B hk ?_ | refine wStore1S hk ?_ | refine wStore1P hk ?_ | refine wStore1F hk ?_); clear hk; intro w1 hk; simp only [Act.put]))))
                        go_roundw
                        case rel => exact ⟨n + 1, by omega, by go_num, by rw [R.out], hk⟩
                        case measure => simp [intOf]; omega
                      · have R := hide (NO.out hq hpl)
                        have D2 : Hid ((c2.pl == c1.pl) = false) := hide (beq_eq_false_iff_ne.2 hpl)
                        clear hq hpl
                        go_wp2_with (first | ((with_reducible show wpList _ _ _ (⟨some 101, _, _, _, _, _⟩ :: _) _ _); refine wOld1 hk ?_ (hat := hatG6) (hv := HG.out); simp only [Act.put, List.setIfInBounds_toArray, List.set_cons_succ, List.set_cons_zero]) | ((with_reducible show wpList _ _ _ _ _ _); (first | ((with_reducible show wpList _ _ _ (⟨_, _, _, _, _, some _⟩ :: _) _ _); refine wpList_skip (by rfl) ?_; simp only [Act.put, List.setIfInBounds_toArray, List.set_cons_succ, List.set_cons_zero]) | ((first | refine wBuild hk ?_ | refine wFieldZ hk ?_ | refine wField0 hk ?_ | refine wField hk ?_ | refine wIndexA0 hk ?_ | refine wIndexS0 hk ?_ | refine wIndexA hk ?_ | refine wIndexS hk ?_ | refine wLoadR hk ?_ | refine wLoad1 hk ?_ | refine wOldR hk ?_ | refine wOld1 hk ?_ | refine wOldC hk ?_ | refine wOldG hk ?_ | refine wAssertY hk ?_ | refine wAssertN hk ?_); simp only [Act.put, List.setIfInBounds_toArray, List.set_cons_succ, List.set_cons_zero]) | ((first | refine wBox hk ?_ | refine wBox1I hk ?_ | refine wBox1B hk ?_ | refine wBox1S hk ?_ | refine wBox1P hk ?_ | refine wBox1F hk ?_ | refine wAllocR hk ?_ | refine wAlloc1 hk ?_ | refine wMake hk ?_); clear hk; intro w1 hk; simp only [Act.put, List.setIfInBounds_toArray, List.set_cons_succ, List.set_cons_zero]) | ((first | refine wStoreR hk ?_ | refine wStore1I hk ?_ | refine wStore1B hk ?_ | refine wStore1S hk ?_ | refine wStore1P hk ?_ | refine wStore1F hk ?_); clear hk; intro w1 hk; simp only [Act.put]))))
                        (refine wp_regK hk (.op 0 (.op 1 (.op 2 (.op 3 (.op 4 (.op 5 (.op 6 (.op 7 (.op 8 (.op 9 (.op 10 (.op 11 (.op 12 (.op 13 (.op 14 .nil))))))))))))))) (fun i => decide (i < 14)) mixT (by decide) (by kernel_rfl) (by kernel_rfl) ?_; clear hk; intro w1 hk)
                        (repeat ((first | refine vMoveI hk ?_ | refine vMoveB hk ?_ | refine uMoveS hk ?_ | refine uMoveP hk ?_ | refine uMoveT hk ?_ | refine vAssignI hk ?_ | refine vAssignB hk ?_ | refine uAssignS hk ?_ | refine uAssignP hk ?_ | refine sMove hk ?_ | refine sAssign hk ?_ | refine sExtract hk ?_ | refine sFieldZ hk ?_ | refine sField0 hk ?_ | refine sField hk ?_ | refine sIndexA0 hk ?_ | refine sIndexS0 hk ?_ | refine sIndexA hk ?_ | refine sIndexS hk ?_ | refine sLoadR hk ?_ | refine sLoad1 hk ?_ | refine sOldR hk ?_ | refine sOld1 hk ?_ | refine sOldC hk ?_ | refine sOldG hk ?_ | refine sBuild hk ?_ | refine sPickT hk ?_ | refine sPickF hk ?_ | refine sLss hk ?_ | refine sLeq hk ?_ | refine sGtr hk ?_ | refine sGeq hk ?_ | refine sEql hk ?_ | refine sNot hk ?_ | refine sSkip hk ?_ | refine sSkipA hk ?_); simp only [Act.put, List.setIfInBounds_toArray, List.set_cons_succ, List.set_cons_zero]))
                        refine sOld1 hk ?_ (hat := hatG6) (hv := HG.out); simp only [Act.put, List.setIfInBounds_toArray, List.set_cons_succ, List.set_cons_zero]
                        (repeat ((first | refine vMoveI hk ?_ | refine vMoveB hk ?_ | refine uMoveS hk ?_ | refine uMoveP hk ?_ | refine uMoveT hk ?_ | refine vAssignI hk ?_ | refine vAssignB hk ?_ | refine uAssignS hk ?_ | refine uAssignP hk ?_ | refine sMove hk ?_ | refine sAssign hk ?_ | refine sExtract hk ?_ | refine sFieldZ hk ?_ | refine sField0 hk ?_ | refine sField hk ?_ | refine sIndexA0 hk ?_ | refine sIndexS0 hk ?_ | refine sIndexA hk ?_ | refine sIndexS hk ?_ | refine sLoadR hk ?_ | refine sLoad1 hk ?_ | refine sOldR hk ?_ | refine sOld1 hk ?_ | refine sOldC hk ?_ | refine sOldG hk ?_ | refine sBuild hk ?_ | refine sPickT hk ?_ | refine sPickF hk ?_ | refine sLss hk ?_ | refine sLeq hk ?_ | refine sGtr hk ?_ | refine sGeq hk ?_ | refine sEql hk ?_ | refine sNot hk ?_ | refine sSkip hk ?_ | refine sSkipA hk ?_); simp only [Act.put, List.setIfInBounds_toArray, List.set_cons_succ, List.set_cons_zero]))
                        refine sCall ?_; intro K hK; go_step; go_at_call 30
                        refine (kLies_any _ _ _).mono ?_
                        rintro x w7 ⟨rfl, hb⟩
                        replace hk := hk.call hb
                        refine hK _ _ (fun _ => hk) ?_
                        clear hK K hb
                        obtain ⟨lb, hlb⟩ : ∃ lb, liesR c1.st c2.st = lb := ⟨_, rfl⟩
                        rw [hlb]
                        (repeat ((first | refine vMoveI hk ?_ | refine vMoveB hk ?_ | refine uMoveS hk ?_ | refine uMoveP hk ?_ | refine uMoveT hk ?_ | refine vAssignI hk ?_ | refine vAssignB hk ?_ | refine uAssignS hk ?_ | refine uAssignP hk ?_ | refine sMove hk ?_ | refine sAssign hk ?_ | refine sExtract hk ?_ | refine sFieldZ hk ?_ | refine sField0 hk ?_ | refine sField hk ?_ | refine sIndexA0 hk ?_ | refine sIndexS0 hk ?_ | refine sIndexA hk ?_ | refine sIndexS hk ?_ | refine sLoadR hk ?_ | refine sLoad1 hk ?_ | refine sOldR hk ?_ | refine sOld1 hk ?_ | refine sOldC hk ?_ | refine sOldG hk ?_ | refine sBuild hk ?_ | refine sPickT hk ?_ | refine sPickF hk ?_ | refine sLss hk ?_ | refine sLeq hk ?_ | refine sGtr hk ?_ | refine sGeq hk ?_ | refine sEql hk ?_ | refine sNot hk ?_ | refine sSkip hk ?_ | refine sSkipA hk ?_); simp only [Act.put, List.setIfInBounds_toArray, List.set_cons_succ, List.set_cons_zero]))
                        refine tNil ?_
                        go_wp2_with (first | ((with_reducible show wpList _ _ _ _ _ _); (first | ((with_reducible show wpList _ _ _ (⟨_, _, _, _, _, some _⟩ :: _) _ _); refine wpList_skip (by rfl) ?_; simp only [Act.put, List.setIfInBounds_toArray, List.set_cons_succ, List.set_cons_zero]) | ((first | refine wBuild hk ?_ | refine wFieldZ hk ?_ | refine wField0 hk ?_ | refine wField hk ?_ | refine wIndexA0 hk ?_ | refine wIndexS0 hk ?_ | refine wIndexA hk ?_ | refine wIndexS hk ?_ | refine wLoadR hk ?_ | refine wLoad1 hk ?_ | refine wOldR hk ?_ | refine wOld1 hk ?_ | refine wOldC hk ?_ | refine wOldG hk ?_ | refine wAssertY hk ?_ | refine wAssertN hk ?_); simp only [Act.put, List.setIfInBounds_toArray, List.set_cons_succ, List.set_cons_zero]) | ((first | refine wBox hk ?_ | refine wBox1I hk ?_ | refine wBox1B hk ?_ | refine wBox1S hk ?_ | refine wBox1P hk ?_ | refine wBox1F hk ?_ | refine wAllocR hk ?_ | refine wAlloc1 hk ?_ | refine wMake hk ?_); clear hk; intro w1 hk; simp only [Act.put, List.setIfInBounds_toArray, List.set_cons_succ, List.set_cons_zero]) | ((first | refine wStoreR hk ?_ | refine wStore1I hk ?_ | refine wStore1B hk ?_ | refine wStore1S hk ?_ | refine wStore1P hk ?_ | refine wStore1F hk ?_); clear hk; intro w1 hk; simp only [Act.put]))))
                        (refine wp_regK hk (.op 0 (.op 1 (.op 2 (.op 3 (.op 4 (.op 5 (.op 6 (.op 7 (.op 8 (.op 9 (.op 10 (.op 11 (.op 12 (.op 13 (.op 14 (.op 15 (.op 16 (.op 17 (.op 18 (.op 19 (.op 20 .nil))))))))))))))))))))) (fun i => decide (i < 20)) mixT (by decide) (by kernel_rfl) (by kernel_rfl) ?_; clear hk; intro w1 hk)
                        (repeat ((first | refine vMoveI hk ?_ | refine vMoveB hk ?_ | refine uMoveS hk ?_ | refine uMoveP hk ?_ | refine uMoveT hk ?_ | refine vAssignI hk ?_ | refine vAssignB hk ?_ | refine uAssignS hk ?_ | refine uAssignP hk ?_ | refine sMove hk ?_ | refine sAssign hk ?_ | refine sExtract hk ?_ | refine sFieldZ hk ?_ | refine sField0 hk ?_ | refine sField hk ?_ | refine sIndexA0 hk ?_ | refine sIndexS0 hk ?_ | refine sIndexA hk ?_ | refine sIndexS hk ?_ | refine sLoadR hk ?_ | refine sLoad1 hk ?_ | refine sOldR hk ?_ | refine sOld1 hk ?_ | refine sOldC hk ?_ | refine sOldG hk ?_ | refine sBuild hk ?_ | refine sPickT hk ?_ | refine sPickF hk ?_ | refine sLss hk ?_ | refine sLeq hk ?_ | refine sGtr hk ?_ | refine sGeq hk ?_ | refine sEql hk ?_ | refine sNot hk ?_ | refine sSkip hk ?_ | refine sSkipA hk ?_); simp only [Act.put, List.setIfInBounds_toArray, List.set_cons_succ, List.set_cons_zero]; (try rw [D2.out])))
                        refine sOld1 hk ?_ (hat := hatG6) (hv := HG.out); simp only [Act.put, List.setIfInBounds_toArray, List.set_cons_succ, List.set_cons_zero]
                        (repeat ((first | refine vMoveI hk ?_ | refine vMoveB hk ?_ | refine uMoveS hk ?_ | refine uMoveP hk ?_ | refine uMoveT hk ?_ | refine vAssignI hk ?_ | refine vAssignB hk ?_ | refine uAssignS hk ?_ | refine uAssignP hk ?_ | refine sMove hk ?_ | refine sAssign hk ?_ | refine sExtract hk ?_ | refine sFieldZ hk ?_ | refine sField0 hk ?_ | refine sField hk ?_ | refine sIndexA0 hk ?_ | refine sIndexS0 hk ?_ | refine sIndexA hk ?_ | refine sIndexS hk ?_ | refine sLoadR hk ?_ | refine sLoad1 hk ?_ | refine sOldR hk ?_ | refine sOld1 hk ?_ | refine sOldC hk ?_ | refine sOldG hk ?_ | refine sBuild hk ?_ | refine sPickT hk ?_ | refine sPickF hk ?_ | refine sLss hk ?_ | refine sLeq hk ?_ | refine sGtr hk ?_ | refine sGeq hk ?_ | refine sEql hk ?_ | refine sNot hk ?_ | refine sSkip hk ?_ | refine sSkipA hk ?_); simp only [Act.put, List.setIfInBounds_toArray, List.set_cons_succ, List.set_cons_zero]; (try rw [D2.out])))
                        refine tNil ?_
                        go_wp2_with (first | ((with_reducible show wpList _ _ _ _ _ _); (first | ((with_reducible show wpList _ _ _ (⟨_, _, _, _, _, some _⟩ :: _) _ _); refine wpList_skip (by rfl) ?_; simp only [Act.put, List.setIfInBounds_toArray, List.set_cons_succ, List.set_cons_zero]) | ((first | refine wBuild hk ?_ | refine wFieldZ hk ?_ | refine wField0 hk ?_ | refine wField hk ?_ | refine wIndexA0 hk ?_ | refine wIndexS0 hk ?_ | refine wIndexA hk ?_ | refine wIndexS hk ?_ | refine wLoadR hk ?_ | refine wLoad1 hk ?_ | refine wOldR hk ?_ | refine wOld1 hk ?_ | refine wOldC hk ?_ | refine wOldG hk ?_ | refine wAssertY hk ?_ | refine wAssertN hk ?_); simp only [Act.put, List.setIfInBounds_toArray, List.set_cons_succ, List.set_cons_zero]) | ((first | refine wBox hk ?_ | refine wBox1I hk ?_ | refine wBox1B hk ?_ | refine wBox1S hk ?_ | refine wBox1P hk ?_ | refine wBox1F hk ?_ | refine wAllocR hk ?_ | refine wAlloc1 hk ?_ | refine wMake hk ?_); clear hk; intro w1 hk; simp only [Act.put, List.setIfInBounds_toArray, List.set_cons_succ, List.set_cons_zero]) | ((first | refine wStoreR hk ?_ | refine wStore1I hk ?_ | refine wStore1B hk ?_ | refine wStore1S hk ?_ | refine wStore1P hk ?_ | refine wStore1F hk ?_); clear hk; intro w1 hk; simp only [Act.put]))))
                        go_roundw
                        case rel => exact ⟨n + 1, by omega, by go_num, by rw [R.out], hk⟩
                        case measure => simp [intOf]; omega
                  · have e9 : n = cl.length := by omega
                    subst e9
                    rw [HFN.out]
                    go_wp2_with (first | ((with_reducible show wpList _ _ _ (⟨some 101, _, _, _, _, _⟩ :: _) _ _); refine wOld1 hk ?_ (hat := hatG6) (hv := HG.out); simp only [Act.put, List.setIfInBounds_toArray, List.set_cons_succ, List.set_cons_zero]) | ((with_reducible show wpList _ _ _ _ _ _); (first | ((with_reducible show wpList _ _ _ (⟨_, _, _, _, _, some _⟩ :: _) _ _); refine wpList_skip (by rfl) ?_; simp only [Act.put, List.setIfInBounds_toArray, List.set_cons_succ, List.set_cons_zero]) | ((first | refine wBuild hk ?_ | refine wFieldZ hk ?_ | refine wField0 hk ?_ | refine wField hk ?_ | refine wIndexA0 hk ?_ | refine wIndexS0 hk ?_ | refine wIndexA hk ?_ | refine wIndexS hk ?_ | refine wLoadR hk ?_ | refine wLoad1 hk ?_ | refine wOldR hk ?_ | refine wOld1 hk ?_ | refine wOldC hk ?_ | refine wOldG hk ?_ | refine wAssertY hk ?_ | refine wAssertN hk ?_); simp only [Act.put, List.setIfInBounds_toArray, List.set_cons_succ, List.set_cons_zero]) | ((first | refine wBox hk ?_ | refine wBox1I hk ?_ | refine wBox1B hk ?_ | refine wBox1S hk ?_ | refine wBox1P hk ?_ | refine wBox1F hk ?_ | refine wAllocR hk ?_ | refine wAlloc1 hk ?_ | refine wMake hk ?_); clear hk; intro w1 hk; simp only [Act.put, List.setIfInBounds_toArray, List.set_cons_succ, List.set_cons_zero]) | ((first | refine wStoreR hk ?_ | refine wStore1I hk ?_ | refine wStore1B hk ?_ | refine wStore1S hk ?_ | refine wStore1P hk ?_ | refine wStore1F hk ?_); clear hk; intro w1 hk; simp only [Act.put]))))
                    go_roundw
                    case rel => exact ⟨k + 1, by omega, by go_num, hk⟩
                    case measure => simp [intOf]; omega
              · go_wp2_with (first | ((with_reducible show wpList _ _ _ _ _ _); (first | ((with_reducible show wpList _ _ _ (⟨_, _, _, _, _, some _⟩ :: _) _ _); refine wpList_skip (by rfl) ?_; simp only [Act.put, List.setIfInBounds_toArray, List.set_cons_succ, List.set_cons_zero]) | ((first | refine wBuild hk ?_ | refine wFieldZ hk ?_ | refine wField0 hk ?_ | refine wField hk ?_ | refine wIndexA0 hk ?_ | refine wIndexS0 hk ?_ | refine wIndexA hk ?_ | refine wIndexS hk ?_ | refine wLoadR hk ?_ | refine wLoad1 hk ?_ | refine wOldR hk ?_ | refine wOld1 hk ?_ | refine wOldC hk ?_ | refine wOldG hk ?_ | refine wAssertY hk ?_ | refine wAssertN hk ?_); simp only [Act.put, List.setIfInBounds_toArray, List.set_cons_succ, List.set_cons_zero]) | ((first | refine wBox hk ?_ | refine wBox1I hk ?_ | refine wBox1B hk ?_ | refine wBox1S hk ?_ | refine wBox1P hk ?_ | refine wBox1F hk ?_ | refine wAllocR hk ?_ | refine wAlloc1 hk ?_ | refine wMake hk ?_); clear hk; intro w1 hk; simp only [Act.put, List.setIfInBounds_toArray, List.set_cons_succ, List.set_cons_zero]) | ((first | refine wStoreR hk ?_ | refine wStore1I hk ?_ | refine wStore1B hk ?_ | refine wStore1S hk ?_ | refine wStore1P hk ?_ | refine wStore1F hk ?_); clear hk; intro w1 hk; simp only [Act.put]))))
                go_roundw
                case rel => exact ⟨i + 1, by omega, by go_num, HK6.out.call hk.mod.below⟩
                case measure => simp [intOf]; omega
          · have hq : (er == 0) = false := by rw [beq_eq_false_iff_ne]; exact h0
            go_wp2_with (first | ((with_reducible show wpList _ _ _ _ _ _); (first | ((with_reducible show wpList _ _ _ (⟨_, _, _, _, _, some _⟩ :: _) _ _); refine wpList_skip (by rfl) ?_; simp only [Act.put, List.setIfInBounds_toArray, List.set_cons_succ, List.set_cons_zero]) | ((first | refine wBuild hk ?_ | refine wFieldZ hk ?_ | refine wField0 hk ?_ | refine wField hk ?_ | refine wIndexA0 hk ?_ | refine wIndexS0 hk ?_ | refine wIndexA hk ?_ | refine wIndexS hk ?_ | refine wLoadR hk ?_ | refine wLoad1 hk ?_ | refine wOldR hk ?_ | refine wOld1 hk ?_ | refine wOldC hk ?_ | refine wOldG hk ?_ | refine wAssertY hk ?_ | refine wAssertN hk ?_); simp only [Act.put, List.setIfInBounds_toArray, List.set_cons_succ, List.set_cons_zero]) | ((first | refine wBox hk ?_ | refine wBox1I hk ?_ | refine wBox1B hk ?_ | refine wBox1S hk ?_ | refine wBox1P hk ?_ | refine wBox1F hk ?_ | refine wAllocR hk ?_ | refine wAlloc1 hk ?_ | refine wMake hk ?_); clear hk; intro w1 hk; simp only [Act.put, List.setIfInBounds_toArray, List.set_cons_succ, List.set_cons_zero]) | ((first | refine wStoreR hk ?_ | refine wStore1I hk ?_ | refine wStore1B hk ?_ | refine wStore1S hk ?_ | refine wStore1P hk ?_ | refine wStore1F hk ?_); clear hk; intro w1 hk; simp only [Act.put]))))
            go_roundw
            case rel => exact ⟨i + 1, by omega, by go_num, hk.none⟩
            case measure => simp [intOf]; omega
        · go_wp2_with (first | ((with_reducible show wpList _ _ _ _ _ _); (first | ((with_reducible show wpList _ _ _ (⟨_, _, _, _, _, some _⟩ :: _) _ _); refine wpList_skip (by rfl) ?_; simp only [Act.put, List.setIfInBounds_toArray, List.set_cons_succ, List.set_cons_zero]) | ((first | refine wBuild hk ?_ | refine wFieldZ hk ?_ | refine wField0 hk ?_ | refine wField hk ?_ | refine wIndexA0 hk ?_ | refine wIndexS0 hk ?_ | refine wIndexA hk ?_ | refine wIndexS hk ?_ | refine wLoadR hk ?_ | refine wLoad1 hk ?_ | refine wOldR hk ?_ | refine wOld1 hk ?_ | refine wOldC hk ?_ | refine wOldG hk ?_ | refine wAssertY hk ?_ | refine wAssertN hk ?_); simp only [Act.put, List.setIfInBounds_toArray, List.set_cons_succ, List.set_cons_zero]) | ((first | refine wBox hk ?_ | refine wBox1I hk ?_ | refine wBox1B hk ?_ | refine wBox1S hk ?_ | refine wBox1P hk ?_ | refine wBox1F hk ?_ | refine wAllocR hk ?_ | refine wAlloc1 hk ?_ | refine wMake hk ?_); clear hk; intro w1 hk; simp only [Act.put, List.setIfInBounds_toArray, List.set_cons_succ, List.set_cons_zero]) | ((first | refine wStoreR hk ?_ | refine wStore1I hk ?_ | refine wStore1B hk ?_ | refine wStore1S hk ?_ | refine wStore1P hk ?_ | refine wStore1F hk ?_); clear hk; intro w1 hk; simp only [Act.put]))))
          go_ret
          exact ⟨rfl, HB3.out.trans (hk.mod.below.mono HB3.out.size)⟩
end Go.Proofs.YtamiichlbmllcaaGreatDoor
/-
  What the given readings of a program, a state and a list of claims tell.
-/
namespace Go.Proofs.YtamiichlbmllcaaGreatDoor
open Go.ChangeShapes Go.WideShapes Go.ChangeAt Go.RowKit Go.Deep
theorem cClaim : Tryz.prog.cellsOf 78 = 17 := by kernel_rfl
theorem byInsC : Tryz.prog.bytesOf 62 = 40 := by kernel_rfl
theorem byClaim : Tryz.prog.bytesOf 78 = 136 := by kernel_rfl
/-- all that is read lies within the reach -/
def FitsC (t : TypeId) {H : Type} (d : DataW H) : Prop := ∀ n ∈ DataW.weights Tryz.prog t d, n ≤ reachBytes
section
variable {H : Type} {enc : TypeId × Value → H} {W : World} {base : Nat} {spare : Nat → Bool} {held : Bool}
set_option maxRecDepth 10000 in
theorem read_cl {n : Nat} {cs : List Value} {x : DataW H × List MemPlace} (h : DataW.trod enc Tryz.prog W base spare held n 78 cs = some x) : ∃ c : C2, cs = (clC c.pl c.st).toList ∧ St.in64 c.st := by
  obtain ⟨xs, m, _, _, hl, hlen, hf⟩ := DataW.trod_struct Tryz.underlying78 h
  rw [cClaim] at hl
  replace hlen : xs.length = 2 := hlen
  have g0 : DataW.trod enc Tryz.prog W base spare held m 3 ((cs.drop 0).take (Tryz.prog.cellsOf 3)) = xs[0]? := hf 0 _ rfl
  have g1 : DataW.trod enc Tryz.prog W base spare held m 30 ((cs.drop 1).take (Tryz.prog.cellsOf 30)) = xs[1]? := hf 1 _ rfl
  rw [cInt, List.getElem?_eq_getElem (by omega)] at g0
  rw [cState, List.getElem?_eq_getElem (by omega)] at g1
  obtain ⟨a0, e0, _, _⟩ := DataW.trod_int Tryz.underlying3 g0
  obtain ⟨s, e1, h64⟩ := read_st g1
  refine ⟨⟨a0, s⟩, ?_, h64⟩
  cases cs with
  | nil => simp at hl
  | cons y r =>
    simp at e0 hl
    rw [List.drop_succ_cons, List.drop_zero, List.take_of_length_le (by omega)] at e1
    rw [e1, e0]
    rfl
/-- A PROGRAM THAT CAME IN, NIL AS NIL. -/
theorem open_insA {v : Value} {d : DataW H} {ps : List MemPlace} (hv : ∃ a len cap, v = .slice a len cap) (h : DataW.Trod enc Tryz.prog W base spare held 26 v d ps) (hfit : FitsC 26 d) :
    ∃ l : List I5, Arg W v l ∧ (∀ i (h : i < l.length), l[i].in64) ∧ l.length * 40 ≤ 140737488351232 := by
  obtain ⟨l, hS, _, h64⟩ := open_ins hv h
  obtain ⟨a0, len0, cap0, rfl⟩ := hv
  obtain ⟨fuel, hf⟩ := h
  rcases open_slice Tryz.underlying26 hf with ⟨hcs, _⟩ | ⟨a, len, cap, m, n, D, Pl, hcs, _, hl, hm, hmm, hd, _⟩
  · simp [Value.cells] at hcs
    obtain ⟨rfl, rfl, rfl⟩ := hcs
    have hlen : l.length = 0 := by
      obtain ⟨a', c', e⟩ := hS.len
      simp at e; exact e.2.1.symm
    exact ⟨l, ⟨hS, fun n c hh => by simp at hh; omega⟩, h64, by rw [hlen]; omega⟩
  · simp [Value.cells] at hcs
    obtain ⟨rfl, rfl, rfl⟩ := hcs
    have hlen : l.length = len0 := by
      obtain ⟨a', c', e⟩ := hS.len
      simp at e; exact e.2.1.symm
    refine ⟨l, ⟨hS, fun n c hh => by simp at hh⟩, h64, ?_⟩
    simp only [Prod.mk.injEq] at hd
    obtain ⟨rfl, _⟩ := hd
    have := hfit _ (by simp only [DataW.weights, Tryz.underlying26]; exact List.mem_cons_self)
    rw [byInsC] at this
    simp only [List.length_map, List.length_range, reachBytes] at this
    omega
/-- CLAIMS THAT CAME IN. -/
theorem open_cls {v : Value} {d : DataW H} {ps : List MemPlace} (hv : ∃ a len cap, v = .slice a len cap) (h : DataW.Trod enc Tryz.prog W base spare held 41 v d ps) (hfit : FitsC 41 d) :
    ∃ cl : List C2, ArgC W v cl ∧ (∀ i, i < cl.length → St.in64 (clAt cl i).st) ∧ cl.length * 136 ≤ 140737488351232 := by
  obtain ⟨a0, len0, cap0, rfl⟩ := hv
  obtain ⟨fuel, hf⟩ := h
  rcases open_slice Tryz.underlying41 hf with ⟨hcs, _⟩ | ⟨a, len, cap, m, n, D, Pl, hcs, _, hl, hm, hmm, hd, hx⟩
  · simp [Value.cells] at hcs
    obtain ⟨rfl, rfl, rfl⟩ := hcs
    exact ⟨[], ⟨Or.inl ⟨⟨_, _, rfl⟩, rfl⟩, fun n c hh => by simp at hh; omega⟩, fun i h => by simp at h, by simp⟩
  · simp [Value.cells] at hcs
    obtain ⟨rfl, rfl, rfl⟩ := hcs
    have hlm : len0 ≤ m := by rw [hmm]; split <;> omega
    have hsz : len0 * 136 ≤ 140737488351232 := by
      simp only [Prod.mk.injEq] at hd
      obtain ⟨rfl, _⟩ := hd
      have := hfit _ (by simp only [DataW.weights, Tryz.underlying41]; exact List.mem_cons_self)
      rw [byClaim] at this
      simp only [List.length_map, List.length_range, reachBytes] at this
      omega
    have each : ∀ i, i < len0 → ∃ x : C2, St.in64 x.st ∧ ∀ f, f < 17 → W.cell? (a.add (i * 17 + f)) = (clC x.pl x.st).toList[f]? := by
      intro i hi
      obtain ⟨cs', h1, h2⟩ := hx i (by omega)
      obtain ⟨x, rfl, hx64⟩ := read_cl h2
      rw [cClaim] at h1
      obtain ⟨_, _, hcell⟩ := World.cells?_some h1
      exact ⟨x, hx64, fun f hf => by rw [← add_add]; exact hcell f hf⟩
    have : Inhabited C2 := ⟨zeroC⟩
    obtain ⟨q, hq⟩ := choose_lt each
    have hat : ∀ i, i < len0 → clAt ((List.range len0).map q) i = q i := fun i hi => by rw [clAt_get (by simpa using hi)]; simp
    refine ⟨(List.range len0).map q, ⟨?_, fun n c hh => by simp at hh⟩, fun i hi => by simp at hi; rw [hat i hi]; exact (hq i hi).1, by simpa using hsz⟩
    by_cases h0 : len0 = 0
    · subst h0
      exact Or.inl ⟨⟨_, _, rfl⟩, rfl⟩
    · obtain ⟨b, off, spot⟩ := a
      have hc := (hq 0 (by omega)).2 0 (by omega)
      have hspot : spot = none := by
        have e : (clC (q 0).pl (q 0).st).toList[0]? = some (.int .i64 (q 0).pl) := rfl
        rw [e] at hc
        simpa [Addr.add] using World.cell?_spot hc
      subst hspot
      have hadd : ∀ k, (⟨b, off, none⟩ : Addr).add k = ⟨b, off + k, none⟩ := fun k => add_plain _ _ _
      have hcl : ∀ i (hi : i < len0) f, f < 17 → W.cell? ⟨b, off + i * 17 + f, none⟩ = (clC (q i).pl (q i).st).toList[f]? := by
        intro i hi f hf
        have := (hq i hi).2 f hf
        rw [hadd, ← Nat.add_assoc] at this
        exact this
      refine Or.inr ⟨b, off, cap0, by simp, ?_, fun i hi => ?_⟩
      · have := hcl 0 (by omega) 0 (by omega)
        exact World.block_lt_of_cell? W ⟨b, _, none⟩ this
      · simp at hi
        rw [hat i hi]
        intro j u hj
        rw [hcl i hi j (by have := (List.getElem?_eq_some_iff.1 hj).1; exact this)]
        exact hj
end
end Go.Proofs.YtamiichlbmllcaaGreatDoor
/-
  What the given readings of eight registers and of a number tell.
-/
namespace Go.Proofs.YtamiichlbmllcaaGreatDoor
open Go.ChangeShapes Go.WideShapes Go.ChangeAt Go.RowKit Go.Deep
theorem cRegs : Tryz.prog.cellsOf 42 = 8 := by kernel_rfl
section
variable {H : Type} {enc : TypeId × Value → H} {W : World} {base : Nat} {spare : Nat → Bool} {held : Bool}
set_option maxRecDepth 10000 in
theorem read_regs {n : Nat} {cs : List Value} {x : DataW H × List MemPlace} (h : DataW.trod enc Tryz.prog W base spare held n 42 cs = some x) : ∃ r : Nat → Int, cs = (rgsC r).toList ∧ ∀ j, j < 8 → I64 (r j) := by
  obtain ⟨xs, m, _, _, hl, hlen, hf⟩ := DataW.trod_array Tryz.underlying42 h
  rw [cRegs] at hl
  have each : ∀ j, j < 8 → ∃ z : Int, I64 z ∧ cs[j]? = some (.int .i64 z) := by
    intro j hj
    have := hf j hj
    rw [cInt, List.getElem?_eq_getElem (by omega)] at this
    obtain ⟨z, e, _, w64⟩ := DataW.trod_int Tryz.underlying3 this
    refine ⟨z, wf64 w64, ?_⟩
    have c := congrArg (fun l => l[0]?) e
    simp only [Nat.mul_one, List.getElem?_take, List.getElem?_drop] at c
    rw [if_pos (by omega)] at c
    simpa using c
  obtain ⟨q, hq⟩ := choose_lt each
  refine ⟨q, ?_, fun j hj => (hq j hj).1⟩
  have hcs : cs.length = 8 := hl
  apply List.ext_getElem?
  intro j
  by_cases hj : j < 8
  · have h0 := (hq j hj).2
    rw [h0]
    match j, hj with
    | 0, _ => rfl
    | 1, _ => rfl
    | 2, _ => rfl
    | 3, _ => rfl
    | 4, _ => rfl
    | 5, _ => rfl
    | 6, _ => rfl
    | 7, _ => rfl
    | j + 8, hj => exact absurd hj (by omega)
  · rw [List.getElem?_eq_none (by omega), List.getElem?_eq_none (by show 8 ≤ j; omega)]
set_option maxRecDepth 100000 in
/-- REGISTERS THAT CAME IN. -/
theorem open_regs {r : Reach} {b0 : Nat} {v : Value} {d : DataW H} {ps : List MemPlace} (hv : Value.okWide Tryz.prog W r b0 42 v) (h : DataW.Trod enc Tryz.prog W base spare held 42 v d ps) : ∃ q : Nat → Int, v = .agg (rgsC q) ∧ ∀ j, j < 8 → I64 (q j) := by
  have hag : ∃ cs, v = .agg cs := by
    simp only [Value.okWide, Tryz.underlying42] at hv
    obtain ⟨cs, h1, _⟩ := hv
    exact ⟨cs, h1⟩
  obtain ⟨cs, rfl⟩ := hag
  obtain ⟨fuel, hf⟩ := h
  obtain ⟨s, e, h64⟩ := read_regs hf
  refine ⟨s, ?_, h64⟩
  have e' : cs.toList = (rgsC s).toList := e
  rw [Array.toList_inj.1 e']
end
end Go.Proofs.YtamiichlbmllcaaGreatDoor
namespace Go.Proofs.YtamiichlbmllcaaGreatDoor
open Go.ChangeShapes Go.WideShapes Go.ChangeAt Go.RowKit Go.Deep
/-- The door's own heap meets the condition. -/
theorem found_door (os : Os) (args : Array Value) : laidMetH Tryz.prog Rows.foundRow.laid ((World.doorLaid Tryz.prog 241 os).forCall (fun _ _ => 0) ⟨#[], args, []⟩).memory :=
  laidMetH_of_parts3 (fuel := 8) (laidMet_of_run' 8 (by kernel_rfl) (by kernel_rfl)) (by kernel_rfl) (by kernel_rfl)
set_option maxRecDepth 100000 in
theorem found_lifted (os : Os) (started : os.Started) (H : Type) (enc : TypeId × Value → H) :
    ReturnsInHanded {} Tryz.checked os 12 .any (fun w args => (Rows.foundSpec.pre enc Tryz.prog Tryz.f12 [] false w args ∧ laidMetH Tryz.prog Rows.foundRow.laid w) ∧ sizedMet enc Tryz.prog Tryz.f12 (OpenSpec.ofChange Rows.foundSpec) false w args)
      (Rows.foundSpec.post enc Tryz.prog Tryz.f12 false true false false) := by
  refine returnsInHanded_of_change_and (C := Tryz.checked) (X := fun w _ => laidMetH Tryz.prog Rows.foundRow.laid w) (fun _ _ _ hh h => h.of_heap hh) own started (by kernel_rfl) Tryz.func12
    (ChangeSpec.witness_shaped (enc := enc) (C := Tryz.checked) (os := os) (X := fun w _ => laidMetH Tryz.prog Rows.foundRow.laid w) false (World.doorLaid Tryz.prog 241 os) #[.slice none 0 0, .agg (stC zeroS), .slice none 0 0, .agg (stC zeroS)] 8 rfl (World.shaped_of_RefB (by kernel_rfl) (by kernel_rfl)) (by kernel_rfl) (by kernel_rfl) (by kernel_rfl) (found_door os _)) ?_
  intro W base args ds gs before hval0 hW _ hsz0 hL _
  have hval : ∀ (j : Nat) t v, Tryz.f12.params[j]? = some t → args[j]? = some v → Value.okWide Tryz.prog W .any base t v := hval0
  have hW' := hW
  obtain ⟨p, q, hA0, hV, rfl, hfz, hnd⟩ := hW
  have hA : DataW.TrodAll enc Tryz.prog W 0 (fun _ => true) true Tryz.f12.params.toList args.toList ds p := hA0
  have hsz : (DataW.weightsEach Tryz.prog (Tryz.f12.params.toList ++ Rows.foundSpec.plain.varTypes Tryz.prog) (ds ++ gs)).all (· ≤ reachBytes) = true := hsz0
  rw [Tryz.params12] at hA hval hsz
  obtain ⟨v0, vs0, d0, ds0, p0, q0, hargs, rfl, rfl, h0, r0⟩ := trodAll_cons hA
  obtain ⟨v1, vs1, d1, ds1, p1, q1, rfl, rfl, rfl, h1, r1⟩ := trodAll_cons r0
  obtain ⟨v2, vs2, d2, ds2, p2, q2, rfl, rfl, rfl, h2, r2⟩ := trodAll_cons r1
  obtain ⟨v3, vs3, d3, ds3, p3, q3, rfl, rfl, rfl, h3, r3⟩ := trodAll_cons r2
  obtain ⟨rfl, rfl, rfl⟩ := trodAll_nil r3
  obtain rfl : args = #[v0, v1, v2, v3] := by cases args; simp_all
  obtain ⟨rfl, rfl⟩ := trodVars_none hV
  have lt0 : ∀ x ∈ p0, x.block < W.heap.size := by obtain ⟨m, hm⟩ := h0; exact DataW.trod_lt m _ _ _ hm
  have lt1 : ∀ x ∈ p1, x.block < W.heap.size := by obtain ⟨m, hm⟩ := h1; exact DataW.trod_lt m _ _ _ hm
  have lt2 : ∀ x ∈ p2, x.block < W.heap.size := by obtain ⟨m, hm⟩ := h2; exact DataW.trod_lt m _ _ _ hm
  have lt3 : ∀ x ∈ p3, x.block < W.heap.size := by obtain ⟨m, hm⟩ := h3; exact DataW.trod_lt m _ _ _ hm
  have hv0 := okWide_slice Tryz.underlying26 (hval 0 26 v0 rfl rfl)
  have hfit2 : FitsC 41 d2 := fun n hn => by
    have := List.all_eq_true.1 hsz n (DataW.weights_mem_each (j := 2) (t := 41) (d := d2) rfl rfl n hn)
    simpa using this
  have hv2 := okWide_slice Tryz.underlying41 (hval 2 41 v2 rfl rfl)
  obtain ⟨l0, hS0, hlen0, h640⟩ := open_ins hv0 h0
  obtain ⟨s1, rfl, s641⟩ := open_st (hval 1 30 v1 rfl rfl) h1
  obtain ⟨cl2, hC2, c642, hcl2⟩ := open_cls hv2 h2 hfit2
  obtain ⟨ra2, rc2, rfl⟩ := hC2.1.len
  obtain ⟨s3, rfl, s643⟩ := open_st (hval 3 30 v3 rfl rfl) h3
  clear hA0 hval0
  refine (found_any l0 v0 W (shapes_of_laid hL) hS0 hlen0 h640 s1 s641 cl2 ra2 rc2 hC2.1 (by omega) c642 s3 s643).mono fun e W' ⟨he, bel⟩ => ?_
  subst he
  exact ⟨_, rfl, _, _, _, [], _, [], hW', trodAll_mk1 (shut_bool Tryz.underlying4 _), trodAll_cons_mk (Below.trod laidOut (by kernel_rfl) (of_decide_eq_true (by kernel_rfl)) h0 bel lt0) (trodAll_cons_mk (Below.trod laidOut (by kernel_rfl) (of_decide_eq_true (by kernel_rfl)) h1 bel lt1) (trodAll_cons_mk (Below.trod laidOut (by kernel_rfl) (of_decide_eq_true (by kernel_rfl)) h2 bel lt2) (trodAll_cons_mk (Below.trod laidOut (by kernel_rfl) (of_decide_eq_true (by kernel_rfl)) h3 bel lt3) trodAll_mk0))), rfl, bel.frame _, fun h => by cases h⟩
theorem found_said : Rows.FoundSaid :=
  OpenClaim.holds_of_wide 12 Tryz.f12 rfl rfl rfl rfl rfl rfl rfl ⟨rfl, rfl, rfl, rfl, rfl⟩ rfl rfl rfl rfl rfl (by kernel_rfl) Tryz.func12 (by kernel_rfl)
    (of_decide_eq_true (by kernel_rfl)) (by unfold Func.isWrapper; first | (rw [if_pos (by decide +kernel)]; kernel_rfl) | (rw [if_neg (by decide +kernel)]; exact ⟨rfl, rfl⟩))
    (fun os started H enc _ => found_lifted os started H enc)
theorem found_plain (f : FuncId) (fn : Func) (hf : Tryz.pinned.checked.prog.funcNamed "surety/suretykeep.Found" = some f) (hfn : Tryz.pinned.checked.prog.funcs[f]? = some fn) :
    true = Tryz.pinned.checked.prog.looks [] ∧ ∀ (j : Nat) t, fn.params[j]? = some t → Tryz.pinned.checked.prog.wantsStandIn t = false := by
  obtain rfl : f = 12 := Option.some.inj ((show Tryz.prog.funcNamed "surety/suretykeep.Found" = some 12 by kernel_rfl).symm.trans hf) |>.symm
  obtain rfl : fn = Tryz.f12 := (Option.some.inj (Tryz.func12.symm.trans hfn)).symm
  refine ⟨by kernel_rfl, fun j t ht => ?_⟩
  rw [Tryz.params12] at ht
  have hm : t ∈ [26, 30, 41, 30] := by simpa using Array.mem_of_getElem? ht
  have hall : ([26, 30, 41, 30].all fun u => !Tryz.prog.wantsStandIn u) = true := by kernel_rfl
  exact (show Tryz.prog.wantsStandIn t = false by simpa using List.all_eq_true.1 hall t hm)
/-- THE CARD. -/
theorem found_card : Rows.FoundCardSaid :=
  Claim7.holds_tied_plain_at .later [] _ _ _ _ found_said (fun _ h => by cases h) (by kernel_rfl) (fun _ h => by cases h) found_row_tie rfl ⟨rfl, rfl⟩ (by kernel_rfl) rfl found_plain (by kernel_rfl)
#print axioms found_card
end Go.Proofs.YtamiichlbmllcaaGreatDoor
