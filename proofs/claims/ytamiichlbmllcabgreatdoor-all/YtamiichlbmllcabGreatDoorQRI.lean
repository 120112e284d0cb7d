import Derived.Test.YtamiichlbmllcabGreatDoorProg
import Derived.WalkKit
import Derived.WalkSpells
import Derived.WalkLawsBesides
import Derived.Laws.BitsAllLaws
import Derived.Lib.Strings
set_option maxRecDepth 100000
set_option maxHeartbeats 32000000
namespace Go.Proofs.YtamiichlbmllcabGreatDoor
open Go.RowKit
theorem isBelow_any (n b : Int) (w : World) :
 Calls Tryz.prog 80 #[.int .i64 n, .int .i64 b] w fun e w' => e = .returned (.bool (decide (0 <= n /\ n < b))) /\ w' = w := by
 by_cases h0 : 0 <= n <;> by_cases h1 : n < b
 all_goals
  go_enter Tryz.func80, Tryz.ntmps80
  go_wp2
  go_ret
  exact ⟨by simp [h0, h1], rfl⟩
theorem registersOf_any (o a b c k : Int) (w : World) :
 Calls Tryz.prog 79 #[.agg #[.int .i64 o, .int .i64 a, .int .i64 b, .int .i64 c, .int .i64 k]] w fun e w' => e = .returned (.agg #[.int .i64 a, .int .i64 b, .int .i64 c]) /\ Below w.heap.size w w' := by
 go_enter Tryz.func79, Tryz.ntmps79
 go_wp2
 exact bodyPost_ret (v := .agg #[.int .i64 a, .int .i64 b, .int .i64 c]) (by simp [results, Tryz.results79, go_sem]) rfl ⟨rfl, ((Below.refl _ _).alloc (Nat.le_refl _) _).alloc (by simp) _⟩
def nregs (o : Int) : Int := if o = 0 \/ o = 9 then 0 else if o = 1 then 1 else if 3 <= o /\ o <= 6 then 3 else 2
def kbytes (o : Int) : Int := if o = 1 then 8 else if 9 <= o then 1 else 0
theorem nregs_bd (o : Int) : 0 <= nregs o /\ nregs o <= 3 := by unfold nregs; repeat' split <;> omega
def Shapes (w : World) : Prop := 0 < w.heap.size /\ ∀ o : Int, 0 <= o -> o < 12 -> w.cell? ⟨0, o.toNat * 3, none⟩ = some (.int .i64 (nregs o)) /\ w.cell? ⟨0, o.toNat * 3 + 1, none⟩ = some (.int .i64 (kbytes o)) /\ w.cell? ⟨0, o.toNat * 3 + 2, none⟩ = some (.int .i64 (1 + nregs o + kbytes o))
theorem bcell {W w1 : World} (hb : Below W.heap.size W w1) : (∀ b o, b < W.heap.size -> w1.cell? ⟨b, o, none⟩ = W.cell? ⟨b, o, none⟩) /\ (∀ b o, b < W.heap.size -> w1.frozen? ⟨b, o, none⟩ = W.frozen? ⟨b, o, none⟩) :=
 ⟨fun b o h => hb.cell (p := ⟨b, o, none⟩) h, fun b o h => hb.frozen (p := ⟨b, o, none⟩) h⟩
def regOk (need j r : Int) : Bool := if j < need then decide (0 <= r) && decide (r < 8) else decide (r = 0)
def kOk (kb k n : Int) : Bool := if kb = 8 then true else if kb = 1 then decide (0 <= k) && decide (k < n) else decide (k = 0)
def fitsB (o a b c k n : Int) : Bool := decide (0 <= o) && decide (o < 12) && regOk (nregs o) 0 a && regOk (nregs o) 1 b && regOk (nregs o) 2 c && kOk (kbytes o) k n
theorem regOk_lo {need j r : Int} (h : j < need) : regOk need j r = (decide (0 <= r) && decide (r < 8)) := by simp [regOk, h]
theorem regOk_hi {need j r : Int} (h : ¬ j < need) : regOk need j r = decide (r = 0) := by simp [regOk, h]
theorem kb_three (o : Int) : kbytes o = 8 \/ kbytes o = 1 \/ kbytes o = 0 := by unfold kbytes; (repeat' split) <;> omega
theorem fits_no0 {o a b c k n : Int} (h : regOk (nregs o) 0 a = false) : fitsB o a b c k n = false := by simp [fitsB, h]
theorem fits_no1 {o a b c k n : Int} (h : regOk (nregs o) 1 b = false) : fitsB o a b c k n = false := by simp [fitsB, h]
theorem fits_no2 {o a b c k n : Int} (h : regOk (nregs o) 2 c = false) : fitsB o a b c k n = false := by simp [fitsB, h]
theorem hide {p : Prop} (h : p) : Hid p := h
theorem ret_bool {a b : Bool} (h : a = b) : Ending.returned (.bool a) = .returned (.bool b) := by rw [h]
theorem mayStand_yes (o a b c k n : Int) (w : World) (hs : Shapes w) (ho0 : 0 <= o) (ho1 : o < 12) :
 Calls Tryz.prog 57 #[.agg #[.int .i64 o, .int .i64 a, .int .i64 b, .int .i64 c, .int .i64 k], .int .i64 n] w fun e w' => e = .returned (.bool (fitsB o a b c k n)) /\ Below w.heap.size w w' := by
 obtain ⟨h0, hs⟩ := hs
 obtain ⟨s0, s1, _⟩ := hs o ho0 ho1
 clear hs
 have d0 : decide (o < 0) = false := by simpa using ho0
 have d1 : decide (12 <= o) = false := by simpa using ho1
 obtain ⟨nb0, nb1⟩ := nregs_bd o
 have i0 : ∀ w, (Instr.index 183 (.agg #[.int .i64 a, .int .i64 b, .int .i64 c]) (.int .i64 0)).run Tryz.prog w = .ok (.int .i64 a) w := fun _ => by kernel_rfl
 have i1 : ∀ w, (Instr.index 183 (.agg #[.int .i64 a, .int .i64 b, .int .i64 c]) (.int .i64 1)).run Tryz.prog w = .ok (.int .i64 b) w := fun _ => by kernel_rfl
 have i2 : ∀ w, (Instr.index 183 (.agg #[.int .i64 a, .int .i64 b, .int .i64 c]) (.int .i64 2)).run Tryz.prog w = .ok (.int .i64 c) w := fun _ => by kernel_rfl
 go_enter Tryz.func57, Tryz.ntmps57
 go_wp2_with (go_at_call 79; refine (registersOf_any _ _ _ _ _ _).mono ?_; rintro e w1 ⟨rfl, hb⟩)
 obtain ⟨hc, hf⟩ := bcell hb
 clear hf
 simp at hc
 have hfin : Below w.heap.size w w1 := (((Below.refl _ _).alloc (Nat.le_refl _) _).trans (hb.mono (by simp)))
 go_loop [23] (fun i => ∃ j : Nat, j <= 3 /\ i = .int .i64 j /\ (0 < j -> regOk (nregs o) 0 a = true) /\ (1 < j -> regOk (nregs o) 1 b = true) /\ (2 < j -> regOk (nregs o) 2 c = true)) (fun i => 3 - (intOf i).toNat)
 case atStart => exact ⟨0, by omega, rfl, by simp, by simp, by simp⟩
 case round =>
  obtain ⟨j, hj, rfl, r0, r1, r2⟩ := hrel
  match j, hj, r0, r1, r2 with
  | 0, _, r0, r1, r2 =>
    clear i1 i2
    by_cases hn : 0 < nregs o
    · have R : Hid (regOk (nregs o) 0 a = (decide (0 <= a) && decide (a < 8))) := hide (regOk_lo (r := a) hn)
      by_cases hx : 0 <= a <;> by_cases hy : a < 8
      all_goals
       go_wp2_with (go_at_call 80; refine (isBelow_any _ _ _).mono ?_; rintro e w' ⟨rfl, rfl⟩)
       all_goals first
        | exact ⟨⟨1, by omega, rfl, (fun _ => R.out.trans (by simp [*])), (by omega), (by omega)⟩, by simp [intOf]⟩
        | (go_ret; exact ⟨ret_bool (fits_no0 (R.out.trans (by simp [hx, hy]))).symm, hfin⟩)
    · have R : Hid (regOk (nregs o) 0 a = decide (a = 0)) := hide (regOk_hi (r := a) hn)
      have hx : (a != 0) = !decide (a = 0) := by by_cases h : a = 0 <;> simp [h]
      cases hy : decide (a = 0)
      all_goals
       rw [hy] at hx
       go_wp2_with (go_at_call 80; refine (isBelow_any _ _ _).mono ?_; rintro e w' ⟨rfl, rfl⟩)
       all_goals first
        | exact ⟨⟨1, by omega, rfl, (fun _ => R.out.trans (by simp [*])), (by omega), (by omega)⟩, by simp [intOf]⟩
        | (go_ret; exact ⟨ret_bool (fits_no0 (R.out.trans hy)).symm, hfin⟩)
  | 1, _, r0, r1, r2 =>
    clear i0 i2
    by_cases hn : 1 < nregs o
    · have R : Hid (regOk (nregs o) 1 b = (decide (0 <= b) && decide (b < 8))) := hide (regOk_lo (r := b) hn)
      by_cases hx : 0 <= b <;> by_cases hy : b < 8
      all_goals
       go_wp2_with (go_at_call 80; refine (isBelow_any _ _ _).mono ?_; rintro e w' ⟨rfl, rfl⟩)
       all_goals first
        | exact ⟨⟨2, by omega, rfl, (fun _ => r0 (by omega)), (fun _ => R.out.trans (by simp [*])), (by omega)⟩, by simp [intOf]⟩
        | (go_ret; exact ⟨ret_bool (fits_no1 (R.out.trans (by simp [hx, hy]))).symm, hfin⟩)
    · have R : Hid (regOk (nregs o) 1 b = decide (b = 0)) := hide (regOk_hi (r := b) hn)
      have hx : (b != 0) = !decide (b = 0) := by by_cases h : b = 0 <;> simp [h]
      cases hy : decide (b = 0)
      all_goals
       rw [hy] at hx
       go_wp2_with (go_at_call 80; refine (isBelow_any _ _ _).mono ?_; rintro e w' ⟨rfl, rfl⟩)
       all_goals first
        | exact ⟨⟨2, by omega, rfl, (fun _ => r0 (by omega)), (fun _ => R.out.trans (by simp [*])), (by omega)⟩, by simp [intOf]⟩
        | (go_ret; exact ⟨ret_bool (fits_no1 (R.out.trans hy)).symm, hfin⟩)
  | 2, _, r0, r1, r2 =>
    clear i0 i1
    by_cases hn : 2 < nregs o
    · have R : Hid (regOk (nregs o) 2 c = (decide (0 <= c) && decide (c < 8))) := hide (regOk_lo (r := c) hn)
      by_cases hx : 0 <= c <;> by_cases hy : c < 8
      all_goals
       go_wp2_with (go_at_call 80; refine (isBelow_any _ _ _).mono ?_; rintro e w' ⟨rfl, rfl⟩)
       all_goals first
        | exact ⟨⟨3, by omega, rfl, (fun _ => r0 (by omega)), (fun _ => r1 (by omega)), (fun _ => R.out.trans (by simp [*]))⟩, by simp [intOf]⟩
        | (go_ret; exact ⟨ret_bool (fits_no2 (R.out.trans (by simp [hx, hy]))).symm, hfin⟩)
    · have R : Hid (regOk (nregs o) 2 c = decide (c = 0)) := hide (regOk_hi (r := c) hn)
      have hx : (c != 0) = !decide (c = 0) := by by_cases h : c = 0 <;> simp [h]
      cases hy : decide (c = 0)
      all_goals
       rw [hy] at hx
       go_wp2_with (go_at_call 80; refine (isBelow_any _ _ _).mono ?_; rintro e w' ⟨rfl, rfl⟩)
       all_goals first
        | exact ⟨⟨3, by omega, rfl, (fun _ => r0 (by omega)), (fun _ => r1 (by omega)), (fun _ => R.out.trans (by simp [*]))⟩, by simp [intOf]⟩
        | (go_ret; exact ⟨ret_bool (fits_no2 (R.out.trans hy)).symm, hfin⟩)
  | 3, _, r0, r1, r2 =>
    clear i0 i1 i2
    have r0 := hide (r0 (by omega))
    have r1 := hide (r1 (by omega))
    have r2 := hide (r2 (by omega))
    rcases kb_three o with hk | hk | hk
    · have R : Hid (fitsB o a b c k n = true) := hide (by simp [fitsB, r0.out, r1.out, r2.out, hk, kOk, ho0, ho1])
      rw [hk] at s1
      go_wp2
      go_ret
      exact ⟨ret_bool R.out.symm, hfin⟩
    · have R : Hid (fitsB o a b c k n = (decide (0 <= k) && decide (k < n))) := hide (by simp [fitsB, r0.out, r1.out, r2.out, hk, kOk, ho0, ho1])
      rw [hk] at s1
      go_wp2_with (go_at_call 80; refine (isBelow_any _ _ _).mono ?_; rintro e w' ⟨rfl, rfl⟩)
      go_ret
      exact ⟨ret_bool R.out.symm, hfin⟩
    · have R : Hid (fitsB o a b c k n = (k == 0)) := hide (by simp [fitsB, r0.out, r1.out, r2.out, hk, kOk, ho0, ho1]; rfl)
      rw [hk] at s1
      go_wp2
      go_ret
      exact ⟨ret_bool R.out.symm, hfin⟩
  | j + 4, hj, _, _, _ => omega
theorem mayStand_any (o a b c k n : Int) (w : World) (hs : Shapes w) :
 Calls Tryz.prog 57 #[.agg #[.int .i64 o, .int .i64 a, .int .i64 b, .int .i64 c, .int .i64 k], .int .i64 n] w fun e w' => e = .returned (.bool (fitsB o a b c k n)) /\ Below w.heap.size w w' := by
 by_cases ho0 : 0 <= o
 · by_cases ho1 : o < 12
   · exact mayStand_yes o a b c k n w hs ho0 ho1
   · have R : Hid (fitsB o a b c k n = false) := hide (by simp [fitsB, ho1])
     go_enter Tryz.func57, Tryz.ntmps57
     go_wp2
     go_ret
     exact ⟨ret_bool R.out.symm, (Below.refl _ _).alloc (Nat.le_refl _) _⟩
 · have R : Hid (fitsB o a b c k n = false) := hide (by simp [fitsB, ho0])
   go_enter Tryz.func57, Tryz.ntmps57
   go_wp2
   go_ret
   exact ⟨ret_bool R.out.symm, (Below.refl _ _).alloc (Nat.le_refl _) _⟩
structure I5 where
 o : Int
 a : Int
 b : Int
 c : Int
 k : Int
def I5.val (i : I5) : Value := .agg #[.int .i64 i.o, .int .i64 i.a, .int .i64 i.b, .int .i64 i.c, .int .i64 i.k]
def I5.fits (i : I5) (n : Int) : Bool := fitsB i.o i.a i.b i.c i.k n
def InsAt (w : World) (b o : Nat) (i : I5) : Prop := w.cell? ⟨b, o, none⟩ = some (.int .i64 i.o) /\ w.cell? ⟨b, o + 1, none⟩ = some (.int .i64 i.a) /\ w.cell? ⟨b, o + 2, none⟩ = some (.int .i64 i.b) /\ w.cell? ⟨b, o + 3, none⟩ = some (.int .i64 i.c) /\ w.cell? ⟨b, o + 4, none⟩ = some (.int .i64 i.k)
theorem InsAt.below {w w' : World} {b o B : Nat} {i : I5} (h : InsAt w b o i) (hb : Below B w w') (hlt : b < B) : InsAt w' b o i := by
 unfold InsAt at *
 rw [hb.cell (p := ⟨b, o, none⟩) hlt, hb.cell (p := ⟨b, o + 1, none⟩) hlt, hb.cell (p := ⟨b, o + 2, none⟩) hlt, hb.cell (p := ⟨b, o + 3, none⟩) hlt, hb.cell (p := ⟨b, o + 4, none⟩) hlt]
 exact h
theorem Shapes.below {w w' : World} {B : Nat} (h : Shapes w) (hb : Below B w w') (hB : 0 < B) : Shapes w' := by
 refine ⟨by have := hb.size; have := h.1; omega, fun o h0 h1 => ?_⟩
 rw [hb.cell (p := ⟨0, _, none⟩) hB, hb.cell (p := ⟨0, _, none⟩) hB, hb.cell (p := ⟨0, _, none⟩) hB]
 exact h.2 o h0 h1
def Slc (w : World) (v : Value) (l : List I5) : Prop :=
 ((∃ a cap, v = .slice a 0 cap) /\ l = []) \/ ∃ b off cap, v = .slice (some ⟨b, off, none⟩) l.length cap /\ b < w.heap.size /\ ∀ i (h : i < l.length), InsAt w b (off + i * 5) l[i]
def badFrom (l : List I5) (n : Int) : Option Nat := l.findIdx? fun x => !x.fits n
theorem badFrom_none {l : List I5} {n : Int} (h : ∀ i (h : i < l.length), l[i].fits n = true) : badFrom l n = none := by
 unfold badFrom; rw [List.findIdx?_eq_none_iff]; intro x hx
 obtain ⟨i, hi, rfl⟩ := List.getElem_of_mem hx
 simp [h i hi]
theorem badFrom_some {l : List I5} {n : Int} {j : Nat} (hj : j < l.length) (hb : l[j].fits n = false) (h : ∀ i (h : i < l.length), i < j -> l[i].fits n = true) : badFrom l n = some j := by
 unfold badFrom; rw [List.findIdx?_eq_some_iff_getElem]
 exact ⟨hj, by simp [hb], fun i hi => by simp [h i (by omega) hi]⟩
def rightR (l : List I5) : Int × Int :=
 if l.length = 0 \/ 64 < l.length then (1, 0) else match badFrom l l.length with
  | some j => (1, j)
  | none => (0, 0)
theorem ret_two {a b c d : Int} (h : a = c) (k : b = d) : Ending.returned (.tuple #[.int .i64 a, .int .i64 b]) = .returned (.tuple #[.int .i64 c, .int .i64 d]) := by rw [h, k]
theorem rightR_yes {l : List I5} (hl : 0 < l.length) (hl2 : l.length <= 64) (h : ∀ i (h : i < l.length), l[i].fits l.length = true) : rightR l = (0, 0) := by
 unfold rightR; rw [if_neg (by omega), badFrom_none h]
theorem rightR_no {l : List I5} (hl : 0 < l.length) (hl2 : l.length <= 64) {j : Nat} (hj : j < l.length) (hb : l[j].fits l.length = false) (h : ∀ i (h : i < l.length), i < j -> l[i].fits l.length = true) : rightR l = (1, (j : Int)) := by
 unfold rightR; rw [if_neg (by omega), badFrom_some hj hb h]
theorem rightR_len {l : List I5} (h : l.length = 0 \/ 64 < l.length) : rightR l = (1, 0) := by unfold rightR; rw [if_pos h]
theorem right_some (l : List I5) (b off cap : Nat) (w : World) (hs : Shapes w) (hb : b < w.heap.size) (hl : 0 < l.length) (hl2 : l.length <= 64) (hi : ∀ i (h : i < l.length), InsAt w b (off + i * 5) l[i]) :
 Calls Tryz.prog 24 #[.slice (some ⟨b, off, none⟩) l.length cap] w fun e w' => e = .returned (.tuple #[.int .i64 (rightR l).1, .int .i64 (rightR l).2]) /\ Below w.heap.size w w' := by
 have d0 : ((l.length : Int) == 0) = false := by rw [beq_eq_false_iff_ne]; omega
 have d1 : decide ((64 : Int) < l.length) = false := by rw [decide_eq_false_iff_not]; omega
 go_enter Tryz.func24, Tryz.ntmps24
 go_wp2_with fail
 go_loopw [16] (fun i w' => ∃ j : Nat, j <= l.length /\ i = .int .i64 j /\ (∀ i (h : i < l.length), i < j -> l[i].fits l.length = true) /\ Below w.heap.size w w') (fun i _ => l.length - (intOf i).toNat)
 case atStart => exact ⟨0, by omega, rfl, fun _ _ h => by omega, Below.refl _ _⟩
 case round =>
  obtain ⟨j, hj, rfl, hall, hbl⟩ := hrel
  have hall := hide hall
  by_cases hlt : j < l.length
  · obtain ⟨c0, c1, c2, c3, c4⟩ := (hi j hlt).below hbl hb
    have hz := hbl.size
    have hs1 := hs.below hbl hs.1
    cases hfit : l[j].fits l.length
    · have R : Hid (rightR l = (1, (j : Int))) := hide (rightR_no hl hl2 hlt hfit hall.out)
      have F : Hid (l[j].fits l.length = false) := hide hfit
      clear hfit
      go_wp2_with (go_at_call 57; refine (mayStand_any _ _ _ _ _ _ _ (hs1.below ((Below.refl _ _).alloc (Nat.le_refl _) _) hs1.1)).mono ?_; rintro e w' ⟨rfl, hb2⟩; rw [show fitsB l[j].o l[j].a l[j].b l[j].c l[j].k l.length = false from F.out])
      go_ret2
      exact ⟨ret_two (by rw [R.out]) (by rw [R.out]), hbl.trans (((Below.refl _ _).alloc hz _).trans (hb2.mono (by simp; omega)))⟩
    · have F : Hid (l[j].fits l.length = true) := hide hfit
      clear hfit
      go_wp2_with (go_at_call 57; refine (mayStand_any _ _ _ _ _ _ _ (hs1.below ((Below.refl _ _).alloc (Nat.le_refl _) _) hs1.1)).mono ?_; rintro e w' ⟨rfl, hb2⟩; rw [show fitsB l[j].o l[j].a l[j].b l[j].c l[j].k l.length = true from F.out])
      go_roundw
      case rel => exact ⟨j + 1, by omega, by go_num, fun i h h2 => by rcases Nat.lt_succ_iff_lt_or_eq.1 h2 with h3 | h3; exact hall.out i h h3; subst h3; exact F.out, hbl.trans (((Below.refl _ _).alloc hz _).trans (hb2.mono (by simp; omega)))⟩
      case measure => simp [intOf]; omega
  · have R : Hid (rightR l = (0, 0)) := hide (rightR_yes hl hl2 fun i h => hall.out i h (by omega))
    go_wp2
    go_ret2
    exact ⟨ret_two (by rw [R.out]) (by rw [R.out]), hbl⟩
theorem right_len (n : Nat) (a : Option Addr) (cap : Nat) (w : World) (h : n = 0 \/ 64 < n) :
 Calls Tryz.prog 24 #[.slice a n cap] w fun e w' => e = .returned (.tuple #[.int .i64 1, .int .i64 0]) /\ w' = w := by
 rcases h with h | h
 · subst h
   go_enter Tryz.func24, Tryz.ntmps24
   go_wp2
   go_ret2
   exact ⟨rfl, rfl⟩
 · have d0 : ((n : Int) == 0) = false := by rw [beq_eq_false_iff_ne]; omega
   go_enter Tryz.func24, Tryz.ntmps24
   go_wp2
   go_ret2
   exact ⟨rfl, rfl⟩
theorem Slc.len {w : World} {v : Value} {l : List I5} (h : Slc w v l) : ∃ a cap, v = .slice a l.length cap := by
 rcases h with ⟨⟨a, cap, rfl⟩, rfl⟩ | ⟨b, off, cap, rfl, _⟩
 · exact ⟨_, _, rfl⟩
 · exact ⟨_, _, rfl⟩
theorem Slc.below {w w' : World} {v : Value} {l : List I5} {B : Nat} (h : Slc w v l) (hb : Below B w w') (hB : w.heap.size <= B) : Slc w' v l := by
 rcases h with h | ⟨b, off, cap, rfl, h1, h2⟩
 · exact Or.inl h
 · exact Or.inr ⟨b, off, cap, rfl, by have := hb.size; omega, fun i h => (h2 i h).below hb (by omega)⟩
theorem codeRight_any (l : List I5) (v : Value) (w : World) (hs : Shapes w) (h : Slc w v l) :
 Calls Tryz.prog 24 #[v] w fun e w' => e = .returned (.tuple #[.int .i64 (rightR l).1, .int .i64 (rightR l).2]) /\ Below w.heap.size w w' := by
 by_cases hl : l.length = 0 \/ 64 < l.length
 · obtain ⟨a, cap, rfl⟩ := h.len
   refine (right_len l.length a cap w hl).mono ?_
   rintro e w' ⟨rfl, rfl⟩
   rw [rightR_len hl]
   exact ⟨rfl, Below.refl _ _⟩
 · rcases h with ⟨_, rfl⟩ | ⟨b, off, cap, rfl, h1, h2⟩
   · exact absurd (Or.inl rfl) hl
   · exact right_some l b off cap w hs h1 (by omega) (by omega) h2
theorem Right_any (l : List I5) (v : Value) (w : World) (hs : Shapes w) (h : Slc w v l) :
 Calls Tryz.prog 33 #[v] w fun e w' => e = .returned (.tuple #[.int .i64 (rightR l).1, .int .i64 (rightR l).2]) /\ Below w.heap.size w w' := by
 go_enter Tryz.func33, Tryz.ntmps33
 go_wp2_with (go_at_call 24; refine (codeRight_any l _ _ hs h).mono ?_; rintro e w' ⟨rfl, hb⟩)
 go_ret2
 exact ⟨rfl, hb⟩
def leNat : List UInt8 -> Nat
 | [] => 0
 | b :: r => b.toNat + 256 * leNat r
theorem leNat_snoc (l : List UInt8) (b : UInt8) : leNat (l ++ [b]) = leNat l + 256 ^ l.length * b.toNat := by
 induction l with
 | nil => simp [leNat]
 | cons x r ih => simp only [List.cons_append, leNat, ih, List.length_cons, Nat.pow_succ, Nat.mul_add]; rw [Nat.mul_comm (256 ^ r.length) 256, Nat.mul_assoc]; omega
theorem leNat_lt (l : List UInt8) : leNat l < 256 ^ l.length := by
 induction l with
 | nil => simp [leNat]
 | cons x r ih => simp only [leNat, List.length_cons, Nat.pow_succ]; have := x.toNat_lt; omega
theorem pow_lt8 {j : Nat} (h : j < 8) : 256 ^ j * 256 <= 18446744073709551616 := by
 have : j = 0 \/ j = 1 \/ j = 2 \/ j = 3 \/ j = 4 \/ j = 5 \/ j = 6 \/ j = 7 := by omega
 rcases this with rfl | rfl | rfl | rfl | rfl | rfl | rfl | rfl <;> decide
theorem take_snoc (s : ByteArray) (k : Nat) (h : k < s.size) : s.data.toList.take (k + 1) = s.data.toList.take k ++ [s[k]] := by
 rw [List.take_succ_eq_append_getElem (by simpa using h)]; rfl
theorem take_len (s : ByteArray) (k : Nat) (h : k <= s.size) : (s.data.toList.take k).length = k := by
 rw [List.length_take]; have : s.data.toList.length = s.size := by rw [Array.length_toList]; rfl
 omega
theorem u64_step (a b j : Nat) (hj : j < 8) (ha : a < 256 ^ j) (hb : b < 256) :
 bits .or .u64 (a : Int) (IntKind.u64.wrap (IntKind.u64.wrap (b : Int) * 2 ^ (8 * j))) = ((a + 256 ^ j * b : Nat) : Int) := by
 have hp := pow_lt8 hj
 have e2 : (2 : Nat) ^ (8 * j) = 256 ^ j := by rw [Nat.pow_mul]
 have hbj : 256 ^ j * b < 18446744073709551616 := Nat.lt_of_lt_of_le ((Nat.mul_lt_mul_left (Nat.pow_pos (by omega))).2 hb) hp
 have e1 : IntKind.u64.wrap (b : Int) = (b : Int) := by rw [IntKind.wrap_u64]; omega
 have e3 : (b : Int) * 2 ^ (8 * j) = ((256 ^ j * b : Nat) : Int) := by
  have : ((2 : Int) ^ (8 * j)) = (((2 : Nat) ^ (8 * j) : Nat) : Int) := by simp
  rw [this, e2, Int.mul_comm]; rfl
 have e4 : IntKind.u64.wrap ((256 ^ j * b : Nat) : Int) = ((256 ^ j * b : Nat) : Int) := by rw [IntKind.wrap_u64]; omega
 rw [e1, e3, e4, u64_or_nat _ _ (by omega) hbj]
 have h := Nat.two_pow_add_eq_or_of_lt (i := 8 * j) (b := a) (by rw [e2]; exact ha) b
 rw [e2] at h
 rw [Nat.or_comm, <- h, Nat.add_comm]
theorem leNat_step (s : ByteArray) (j : Nat) (hs : s.size <= 8) (h : j < s.size) :
 bits .or .u64 (leNat (s.data.toList.take j) : Int) (IntKind.u64.wrap (IntKind.u64.wrap (s[j].toNat : Int) * 2 ^ (8 * j))) = (leNat (s.data.toList.take (j + 1)) : Int) := by
 have hl := take_len s j (by omega)
 have := leNat_lt (s.data.toList.take j)
 rw [hl] at this
 rw [u64_step _ _ j (by omega) this s[j].toNat_lt, take_snoc s j h, leNat_snoc, hl]
theorem ret_int {k : IntKind} {a b : Int} (h : a = b) : Ending.returned (.int k a) = .returned (.int k b) := by rw [h]
theorem readNumber_any (s : ByteArray) (w : World) (hs : s.size <= 8) :
 Calls Tryz.prog 98 #[.string s] w fun e w' => e = .returned (.int .i64 (wrap64 (leNat s.data.toList))) /\ w' = w := by
 go_enter Tryz.func98, Tryz.ntmps98
 go_wp2
 go_loop [3, 7] (fun k i => ∃ j : Nat, j <= s.size /\ i = .int .i64 j /\ k = .int .u64 (leNat (s.data.toList.take j))) (fun _ i => s.size - (intOf i).toNat)
 case atStart => exact ⟨0, by omega, rfl, rfl⟩
 case round =>
  obtain ⟨j, hj, rfl, rfl⟩ := hrel
  by_cases hlt : j < s.size
  · have R := hide (leNat_step s j hs hlt)
    go_wp2
    exact ⟨⟨j + 1, by omega, by go_num, by rw [R.out]⟩, by simp [intOf]; omega⟩
  · have R : Hid (s.data.toList.take j = s.data.toList) := hide (List.take_of_length_le (by rw [Array.length_toList]; show s.size <= j; omega))
    go_wp2
    go_ret
    exact ⟨ret_int (by rw [R.out]), rfl⟩
def noIns : Value := .tuple #[.agg #[.int .i64 0, .int .i64 0, .int .i64 0, .int .i64 0, .int .i64 0], .int .i64 0]
theorem wb (b : UInt8) : wrap64 (b.toNat : Int) = b.toNat := by have := b.toNat_lt; unfold wrap64; omega
theorem empty_yes {s : ByteArray} (h : s.size = 0) : s.toList.isEmpty = true := by
 rw [Lib.toList_data, List.isEmpty_iff_length_eq_zero, Array.length_toList]; exact h
theorem empty_no {s : ByteArray} (h : 0 < s.size) : s.toList.isEmpty = false := by
 rw [Lib.toList_data, <- Bool.not_eq_true, List.isEmpty_iff_length_eq_zero, Array.length_toList]; have : s.data.size = s.size := rfl; omega
theorem readIns_empty (s : ByteArray) (w : World) (hs : s.size = 0) :
 Calls Tryz.prog 87 #[.string s] w fun e w' => e = .returned noIns /\ Below w.heap.size w w' := by
 have hd := empty_yes hs
 go_enter Tryz.func87, Tryz.ntmps87
 go_wp2
 exact bodyPost_ret (v := noIns) (by simp [results, Tryz.results87, go_sem, noIns]) rfl ⟨rfl, (Below.refl _ _).alloc (Nat.le_refl _) _⟩
theorem readIns_big (s : ByteArray) (w : World) (hs : 0 < s.size) (h1 : 12 <= s[0].toNat) :
 Calls Tryz.prog 87 #[.string s] w fun e w' => e = .returned noIns /\ Below w.heap.size w w' := by
 have hd := empty_no hs
 have hwb := wb
 go_enter Tryz.func87, Tryz.ntmps87
 go_wp2
 exact bodyPost_ret (v := noIns) (by simp [results, Tryz.results87, go_sem, noIns]) rfl ⟨rfl, (Below.refl _ _).alloc (Nat.le_refl _) _⟩
theorem readIns_short (s : ByteArray) (nr kb : Nat) (w : World) (hs : 0 < s.size) (h1 : s[0].toNat < 12) (hz : 0 < w.heap.size) (_h3 : nr <= 3) (_h8 : kb <= 8)
 (c2 : w.cell? ⟨0, s[0].toNat * 3 + 2, none⟩ = some (.int .i64 (1 + nr + kb))) (hlt : s.size < 1 + nr + kb) :
 Calls Tryz.prog 87 #[.string s] w fun e w' => e = .returned noIns /\ Below w.heap.size w w' := by
 have hd := empty_no hs
 have hwb := wb
 go_enter Tryz.func87, Tryz.ntmps87
 go_wp2
 exact bodyPost_ret (v := noIns) (by simp [results, Tryz.results87, go_sem, noIns]) rfl ⟨rfl, (Below.refl _ _).alloc (Nat.le_refl _) _⟩
def byteAt (s : ByteArray) (i : Nat) : Int := ((s.data.toList.getD i 0).toNat : Int)
theorem byteAt_eq (s : ByteArray) (i : Nat) (h : i < s.size) : byteAt s i = (s[i].toNat : Int) := by
 unfold byteAt; simp only [List.getD_eq_getElem?_getD]; rw [List.getElem?_eq_getElem (by rw [Array.length_toList]; exact h)]; rfl
def regAt (s : ByteArray) (nr j : Nat) : Int := if j < nr then byteAt s (1 + j) else 0
theorem regAt_new (s : ByteArray) (j : Nat) (h : 1 + j < s.size) : (s[1 + j].toNat : Int) = regAt s (j + 1) j := by rw [regAt, if_pos (by omega), byteAt_eq s (1 + j) h]
theorem regAt_succ (s : ByteArray) (i j : Nat) (h : i ≠ j) : regAt s (j + 1) i = regAt s j i := by
 unfold regAt; by_cases h2 : i < j
 · rw [if_pos h2, if_pos (by omega)]
 · rw [if_neg h2, if_neg (by omega)]
theorem readIns_yes (s : ByteArray) (nr kb : Nat) (w : World) (hs : 0 < s.size) (h1 : s[0].toNat < 12) (hz : 0 < w.heap.size) (h3 : nr <= 3) (h8 : kb <= 8)
 (c0 : w.cell? ⟨0, s[0].toNat * 3, none⟩ = some (.int .i64 nr)) (c1 : w.cell? ⟨0, s[0].toNat * 3 + 1, none⟩ = some (.int .i64 kb))
 (c2 : w.cell? ⟨0, s[0].toNat * 3 + 2, none⟩ = some (.int .i64 (1 + nr + kb))) (hge : 1 + nr + kb <= s.size) :
 Calls Tryz.prog 87 #[.string s] w fun e w' => e = .returned (.tuple #[.agg #[.int .i64 s[0].toNat, .int .i64 (regAt s nr 0), .int .i64 (regAt s nr 1), .int .i64 (regAt s nr 2), .int .i64 (wrap64 (leNat ((s.data.toList.drop (1 + nr)).take kb)))], .int .i64 (1 + nr + kb)]) /\ Below w.heap.size w w' := by
 have hd := empty_no hs
 have hwb := wb
 go_enter Tryz.func87, Tryz.ntmps87
 go_wp2
 go_loopw [34] (fun i w' => ∃ (j : Nat) (x0 x1 x2 : Int), j <= nr /\ i = .int .i64 j /\ x0 = regAt s j 0 /\ x1 = regAt s j 1 /\ x2 = regAt s j 2 /\
  w' = (w.alloc (.cells #[.int .i64 0, .int .i64 0, .int .i64 0, .int .i64 0, .int .i64 0] 35)).alloc (.cells #[.int .i64 x0, .int .i64 x1, .int .i64 x2] 183)) (fun i _ => nr - (intOf i).toNat)
 case atStart => exact ⟨0, 0, 0, 0, by omega, rfl, rfl, rfl, rfl, rfl⟩
 case round =>
  obtain ⟨j, x0, x1, x2, hj, rfl, hx0, hx1, hx2, rfl⟩ := hrel
  replace hx0 := hide hx0
  replace hx1 := hide hx1
  replace hx2 := hide hx2
  by_cases hlt : j < nr
  · have hb := hide (regAt_new s j (by omega))
    match j, hj, hlt, hx0, hx1, hx2, hb with
    | 0, _, hlt, hx0, hx1, hx2, hb =>
      go_wp2
      go_roundw
      case rel => exact ⟨1, _, _, _, by omega, rfl, hb.out, hx1.out.trans (regAt_succ s 1 0 (by omega)).symm, hx2.out.trans (regAt_succ s 2 0 (by omega)).symm, rfl⟩
      case measure => simp [intOf]; omega
    | 1, _, hlt, hx0, hx1, hx2, hb =>
      go_wp2
      go_roundw
      case rel => exact ⟨2, _, _, _, by omega, rfl, hx0.out.trans (regAt_succ s 0 1 (by omega)).symm, hb.out, hx2.out.trans (regAt_succ s 2 1 (by omega)).symm, rfl⟩
      case measure => simp [intOf]; omega
    | 2, _, hlt, hx0, hx1, hx2, hb =>
      go_wp2
      go_roundw
      case rel => exact ⟨3, _, _, _, by omega, rfl, hx0.out.trans (regAt_succ s 0 2 (by omega)).symm, hx1.out.trans (regAt_succ s 1 2 (by omega)).symm, hb.out, rfl⟩
      case measure => simp [intOf]; omega
    | j + 3, _, hlt, _, _, _, _ => omega
  · have ej : j = nr := by omega
    subst ej
    have R := hide (Lib.extract_data s (1 + j) (1 + j + kb))
    rw [show 1 + j + kb - (1 + j) = kb by omega] at R
    have hz8 : (s.extract (1 + j) (1 + j + kb)).size <= 8 := by rw [ByteArray.size_extract]; omega
    go_wp2_with (go_at_call 98; refine (readNumber_any _ _ hz8).mono ?_; rintro e w' ⟨rfl, rfl⟩; rw [R.out])
    refine bodyPost_ret (v := .tuple #[.agg #[.int .i64 s[0].toNat, .int .i64 x0, .int .i64 x1, .int .i64 x2, .int .i64 (wrap64 (leNat ((s.data.toList.drop (1 + j)).take kb)))], .int .i64 (1 + j + kb)]) (by simp [results, Tryz.results87, go_sem]) rfl ⟨?_, ((Below.refl _ _).alloc (Nat.le_refl _) _).alloc (by simp) _⟩
    rw [hx0.out, hx1.out, hx2.out]
def nrN (o : Nat) : Nat := (nregs o).toNat
def kbN (o : Nat) : Nat := (kbytes o).toNat
theorem nrN_eq (o : Nat) : ((nrN o : Nat) : Int) = nregs o := by have := nregs_bd o; unfold nrN; omega
theorem kbN_eq (o : Nat) : ((kbN o : Nat) : Int) = kbytes o := by have := kb_three o; unfold kbN; omega
theorem nrN_le (o : Nat) : nrN o <= 3 := by have := nregs_bd o; unfold nrN; omega
theorem kbN_le (o : Nat) : kbN o <= 8 := by have := kb_three o; unfold kbN; omega
def regL (l : List UInt8) (nr j : Nat) : Int := if j < nr then ((l.getD (1 + j) 0).toNat : Int) else 0
def readI (l : List UInt8) : Option (I5 × Nat) :=
 match l with
 | [] => none
 | b :: _ => if 12 <= b.toNat then none else if l.length < 1 + nrN b.toNat + kbN b.toNat then none else
   some (⟨b.toNat, regL l (nrN b.toNat) 0, regL l (nrN b.toNat) 1, regL l (nrN b.toNat) 2, wrap64 (leNat ((l.drop (1 + nrN b.toNat)).take (kbN b.toNat)))⟩, 1 + nrN b.toNat + kbN b.toNat)
def readVal : Option (I5 × Nat) -> Value
 | none => noIns
 | some (i, n) => .tuple #[i.val, .int .i64 n]
theorem readIns_any (s : ByteArray) (w : World) (hs : Shapes w) :
 Calls Tryz.prog 87 #[.string s] w fun e w' => e = .returned (readVal (readI s.data.toList)) /\ Below w.heap.size w w' := by
 by_cases h0 : s.size = 0
 · have e : s.data.toList = [] := List.eq_nil_of_length_eq_zero (by rw [Array.length_toList]; exact h0)
   rw [e]
   exact readIns_empty s w h0
 · have hp : 0 < s.size := by omega
   have hlen : s.data.toList.length = s.size := by rw [Array.length_toList]; rfl
   have hcons : s.data.toList = s[0] :: s.data.toList.tail := by
    have : s.data.toList ≠ [] := fun e => by rw [e] at hlen; simp at hlen; omega
    rw [<- List.cons_head_tail this]
    have h2 : s.data.toList.head this = s[0] := by rw [List.head_eq_getElem]; rfl
    rw [h2]; rfl
   by_cases h1 : 12 <= s[0].toNat
   · have R : readI s.data.toList = none := by rw [hcons]; simp only [readI]; rw [if_pos h1]
     rw [R]
     exact readIns_big s w hp h1
   · have hc := hs.2 (s[0].toNat) (by omega) (by omega)
     rw [<- nrN_eq, <- kbN_eq, Int.toNat_natCast] at hc
     obtain ⟨c0, c1, c2⟩ := hc
     by_cases h2 : s.size < 1 + nrN s[0].toNat + kbN s[0].toNat
     · have R : readI s.data.toList = none := by rw [hcons]; simp only [readI]; rw [if_neg h1, <- hcons, hlen, if_pos h2]
       rw [R]
       exact readIns_short s _ _ w hp (by omega) hs.1 (nrN_le _) (kbN_le _) c2 h2
     · have R : readI s.data.toList = some (⟨s[0].toNat, regL s.data.toList (nrN s[0].toNat) 0, regL s.data.toList (nrN s[0].toNat) 1, regL s.data.toList (nrN s[0].toNat) 2, wrap64 (leNat ((s.data.toList.drop (1 + nrN s[0].toNat)).take (kbN s[0].toNat)))⟩, 1 + nrN s[0].toNat + kbN s[0].toNat) := by
        rw [hcons]; simp only [readI]; rw [if_neg h1, <- hcons, hlen, if_neg h2]
       rw [R]
       exact readIns_yes s _ _ w hp (by omega) hs.1 (nrN_le _) (kbN_le _) c0 c1 c2 (by omega)
end Go.Proofs.YtamiichlbmllcabGreatDoor
