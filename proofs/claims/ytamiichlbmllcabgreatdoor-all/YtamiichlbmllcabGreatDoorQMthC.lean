import Derived.Test.YtamiichlbmllcabGreatDoorQStepA
import Derived.Test.YtamiichlbmllcabGreatDoorQLawB
import Derived.Deep.RegionHeld3
import Derived.Deep.LoopGhost
import Derived.Test.YtamiichlbmllcabGreatDoorQOpenC
set_option maxRecDepth 100000
set_option maxHeartbeats 32000000
namespace Go.Proofs.YtamiichlbmllcabGreatDoor
open Go.RowKit
def regsV (r : Nat -> Int) : Value := .agg #[.int .i64 (r 0), .int .i64 (r 1), .int .i64 (r 2), .int .i64 (r 3), .int .i64 (r 4), .int .i64 (r 5), .int .i64 (r 6), .int .i64 (r 7)]
def fuelI (f : Int) : Int := min (max f 0) 10000
def zeroW : Nat -> Int := fun _ => 0
def startS (r : Nat -> Int) : MS := ⟨r, zeroW, 0, 0⟩
def StartP (w : World) (pb cap : Nat) (n : Nat) (r : Nat -> Int) (f : Int) (e : Ending) (w' : World) : Prop :=
 ∃ g, e = .returned (.pointer (some ⟨g, 0, none⟩)) /\ MRow w' g (.slice (some ⟨pb, 0, none⟩) n cap) (startS r) (fuelI f) O4.zero /\ w.heap.size <= g /\ Below w.heap.size w w'
theorem own_low {w : World} {B B' e size n : Nat} {v : Value} {xs : List Value} (h : w.ownsRow B e size v n xs) (hB : B' <= B) : w.ownsRow B' e size v n xs := by
 refine ⟨h.1, ?_⟩
 rcases h.2 with h2 | ⟨g, cap, cur, h3, h4, h5⟩
 · exact Or.inl h2
 · exact Or.inr ⟨g, cap, cur, h3, by omega, h5⟩
theorem own_shape {w : World} {B e size n : Nat} {v : Value} {xs : List Value} (h : w.ownsRow B e size v n xs) (hn : 0 < n) : ∃ b c, v = .slice (some ⟨b, 0, none⟩) n c /\ B <= b /\ b < w.heap.size := by
 rcases h.2 with ⟨_, h2⟩ | ⟨g, cap, cur, h1, h2, h3, _⟩
 · omega
 · exact ⟨_, _, h1, h2, lt_of_block h3⟩
theorem mrow_new (w : World) (pv : Value) (r : Nat -> Int) (F : Int) : MRow (w.alloc (.cells #[pv, .int .i64 (r 0), .int .i64 (r 1), .int .i64 (r 2), .int .i64 (r 3), .int .i64 (r 4), .int .i64 (r 5), .int .i64 (r 6), .int .i64 (r 7), .int .i64 0, .int .i64 0, .int .i64 0, .int .i64 0, .int .i64 0, .int .i64 0, .int .i64 0, .int .i64 0, .int .i64 0, .int .i64 0, .int .i64 0, .int .i64 0, .int .i64 0, .int .i64 0, .int .i64 0, .int .i64 0, .int .i64 0, .int .i64 0, .int .i64 F, .int .i64 0, .int .i64 0, .int .i64 0, .int .i64 0] 82)) w.heap.size pv (startS r) F O4.zero := by
 refine ⟨_, heap_alloc_new _ _, rfl, fun j hj => ?_⟩
 match j, hj with
 | 0, _ => rfl
 | 1, _ => rfl
 | 2, _ => rfl
 | 3, _ => rfl
 | 4, _ => rfl
 | 5, _ => rfl
 | 6, _ => rfl
 | 7, _ => rfl
 | 8, _ => rfl
 | 9, _ => rfl
 | 10, _ => rfl
 | 11, _ => rfl
 | 12, _ => rfl
 | 13, _ => rfl
 | 14, _ => rfl
 | 15, _ => rfl
 | 16, _ => rfl
 | 17, _ => rfl
 | 18, _ => rfl
 | 19, _ => rfl
 | 20, _ => rfl
 | 21, _ => rfl
 | 22, _ => rfl
 | 23, _ => rfl
 | 24, _ => rfl
 | 25, _ => rfl
 | 26, _ => rfl
 | 27, _ => rfl
 | 28, _ => rfl
 | 29, _ => rfl
 | 30, _ => rfl
 | 31, _ => rfl
 | j + 32, h => omega
theorem mrow_new2 {w : World} {g : Nat} (hg : g = w.heap.size) (pv : Value) (r : Nat -> Int) (F : Int) : MRow (w.alloc (.cells #[pv, .int .i64 (r 0), .int .i64 (r 1), .int .i64 (r 2), .int .i64 (r 3), .int .i64 (r 4), .int .i64 (r 5), .int .i64 (r 6), .int .i64 (r 7), .int .i64 0, .int .i64 0, .int .i64 0, .int .i64 0, .int .i64 0, .int .i64 0, .int .i64 0, .int .i64 0, .int .i64 0, .int .i64 0, .int .i64 0, .int .i64 0, .int .i64 0, .int .i64 0, .int .i64 0, .int .i64 0, .int .i64 0, .int .i64 0, .int .i64 F, .int .i64 0, .int .i64 0, .int .i64 0, .int .i64 0] 82)) g pv (startS r) F O4.zero := by subst hg; exact mrow_new w pv r F
theorem start_any (n pb cap : Nat) (r : Nat -> Int) (f : Int) (w : World) :
 Calls Tryz.prog 29 #[.slice (some ⟨pb, 0, none⟩) n cap, regsV r, .int .i64 f] w fun e w' => StartP w pb cap n r f e w' := by
 unfold regsV
 have hcase : f < 0 \/ (0 <= f /\ f <= 10000) \/ 10000 < f := by omega
 rcases hcase with hf | ⟨hf, hf2⟩ | hf
 · have R : Hid (fuelI f = 0) := hide (by unfold fuelI; omega)
   go_enter Tryz.func29, Tryz.ntmps29
   go_wp2
   go_ret
   exact ⟨_, rfl, by rw [R.out]; exact mrow_new2 (by simp) _ r 0, by simp, (belA _ _).alloc (by simp) _⟩
 · have R : Hid (fuelI f = f) := hide (by unfold fuelI; omega)
   go_enter Tryz.func29, Tryz.ntmps29
   go_wp2
   go_ret
   exact ⟨_, rfl, by rw [R.out]; exact mrow_new2 (by simp) _ r f, by simp, (belA _ _).alloc (by simp) _⟩
 · have R : Hid (fuelI f = 10000) := hide (by unfold fuelI; omega)
   go_enter Tryz.func29, Tryz.ntmps29
   go_wp2
   go_ret
   exact ⟨_, rfl, by rw [R.out]; exact mrow_new2 (by simp) _ r 10000, by simp, (belA _ _).alloc (by simp) _⟩
structure V9 where
 pc : Nat
 r : Nat -> Int
def doAt (p : List I5) (s : MS) : Int × MS := doI (insAt p s.pc) (nxt s)
def runR (p : List I5) : Nat -> MS -> List V9 × O4
 | 0, s => if s.pc = p.length then ([], endO 5 s.pc s) else ([], endO 2 s.pc s)
 | k + 1, s => if s.pc = p.length then ([], endO 5 s.pc s) else
   if (doAt p s).1 = 0 then (⟨s.pc, s.r⟩ :: (runR p k (doAt p s).2).1, (runR p k (doAt p s).2).2) else ([⟨s.pc, s.r⟩], endO (doAt p s).1 s.pc (doAt p s).2)
theorem runR_end {p : List I5} {k : Nat} {s : MS} (h : s.pc = p.length) : runR p k s = ([], endO 5 s.pc s) := by
 cases k <;> unfold runR <;> rw [if_pos h]
theorem runR_fuel {p : List I5} {s : MS} (h : s.pc ≠ p.length) : runR p 0 s = ([], endO 2 s.pc s) := by
 unfold runR; rw [if_neg h]
theorem runR_go {p : List I5} {k : Nat} {s : MS} (h : s.pc ≠ p.length) (hd : (doAt p s).1 = 0) : runR p (k + 1) s = (⟨s.pc, s.r⟩ :: (runR p k (doAt p s).2).1, (runR p k (doAt p s).2).2) := by
 rw [runR, if_neg h, if_pos hd]
theorem runR_stop {p : List I5} {k : Nat} {s : MS} (h : s.pc ≠ p.length) (hd : (doAt p s).1 ≠ 0) : runR p (k + 1) s = ([⟨s.pc, s.r⟩], endO (doAt p s).1 s.pc (doAt p s).2) := by
 rw [runR, if_neg h, if_neg hd]
theorem doI_n (i : I5) (s : MS) : (doI i s).2.n = s.n := by
 unfold doI
 by_cases h1 : i.o = 1
 · rw [if_pos h1]
 rw [if_neg h1]
 by_cases h1 : i.o = 2
 · rw [if_pos h1]
 rw [if_neg h1]
 by_cases h1 : i.o = 3
 · rw [if_pos h1]
 rw [if_neg h1]
 by_cases h1 : i.o = 4
 · rw [if_pos h1]
 rw [if_neg h1]
 by_cases h1 : i.o = 5
 · rw [if_pos h1]
 rw [if_neg h1]
 by_cases h1 : i.o = 6
 · rw [if_pos h1]; split <;> rfl
 rw [if_neg h1]
 by_cases h1 : i.o = 7
 · rw [if_pos h1]; split <;> rfl
 rw [if_neg h1]
 by_cases h1 : i.o = 8
 · rw [if_pos h1]; split <;> rfl
 rw [if_neg h1]
 by_cases h1 : i.o = 9
 · rw [if_pos h1]
 rw [if_neg h1]
 by_cases h1 : i.o = 10
 · rw [if_pos h1]; simp only; split <;> rfl
 rw [if_neg h1]
 by_cases h1 : i.o = 11
 · rw [if_pos h1]; simp only; split <;> rfl
 rw [if_neg h1]
theorem doI_pc (i : I5) (s : MS) {N : Nat} (hs : s.pc <= N) (hk : 9 <= i.o -> i.k.toNat <= N) : (doI i s).2.pc <= N := by
 unfold doI
 by_cases h1 : i.o = 1
 · rw [if_pos h1]; exact hs
 rw [if_neg h1]
 by_cases h1 : i.o = 2
 · rw [if_pos h1]; exact hs
 rw [if_neg h1]
 by_cases h1 : i.o = 3
 · rw [if_pos h1]; exact hs
 rw [if_neg h1]
 by_cases h1 : i.o = 4
 · rw [if_pos h1]; exact hs
 rw [if_neg h1]
 by_cases h1 : i.o = 5
 · rw [if_pos h1]; exact hs
 rw [if_neg h1]
 by_cases h1 : i.o = 6
 · rw [if_pos h1]; split <;> exact hs
 rw [if_neg h1]
 by_cases h1 : i.o = 7
 · rw [if_pos h1]; split <;> exact hs
 rw [if_neg h1]
 by_cases h1 : i.o = 8
 · rw [if_pos h1]; split <;> exact hs
 rw [if_neg h1]
 by_cases h1 : i.o = 9
 · rw [if_pos h1]; exact hk (by omega)
 rw [if_neg h1]
 by_cases h1 : i.o = 10
 · rw [if_pos h1]; simp only; split; exact hk (by omega); exact hs
 rw [if_neg h1]
 by_cases h1 : i.o = 11
 · rw [if_pos h1]; simp only; split; exact hk (by omega); exact hs
 rw [if_neg h1]; exact hs
theorem doAt_pc {p : List I5} (h : AllFit p) {s : MS} (hpc : s.pc < p.length) : (doAt p s).2.pc <= p.length :=
 doI_pc _ _ (show s.pc + 1 <= p.length by omega) (fun h9 => by have := (h.k hpc h9).2; omega)
theorem doAt_n {p : List I5} {s : MS} : (doAt p s).2.n = s.n + 1 := doI_n _ _
def runO (p : List I5) (r : Nat -> Int) (f : Int) : O4 := (runR p (fuelI f).toNat (startS r)).2
def runV (p : List I5) (r : Nat -> Int) (f : Int) : List V9 := (runR p (fuelI f).toNat (startS r)).1.take 100
theorem fuelI_bd (f : Int) : 0 <= fuelI f /\ fuelI f <= 10000 := by unfold fuelI; omega
theorem OwnP.cell {w : World} {B b n c : Nat} {l : List I5} (h : OwnP w B (.slice (some ⟨b, 0, none⟩) n c) l) (pc : Nat) (hpc : pc < l.length) : w.cell? ⟨b, pc, none⟩ = some (iVal (insAt l pc)) := by
 have := World.ownsRow.cells h rfl pc (iVal (insAt l pc)) (by rw [List.getElem?_map, List.getElem?_eq_getElem hpc, insAt_get hpc]; rfl)
 have hadd : (⟨b, 0, none⟩ : Addr).add pc = ⟨b, pc, none⟩ := by unfold Addr.add; split <;> simp_all
 rw [hadd] at this
 exact this
structure Runner (vf : I5 -> Value) (l : List I5) (Can : MS -> Prop) : Prop where
 fit : AllFit l
 next : ∀ s, Can s -> s.pc < l.length -> (doAt l s).1 = 0 -> Can (doAt l s).2
 step : ∀ (g pb cap : Nat) (s : MS) (F : Int) (w : World), MRow w g (.slice (some ⟨pb, 0, none⟩) l.length cap) s F O4.zero -> s.pc < l.length -> s.n < 1000000 -> w.cell? ⟨pb, s.pc, none⟩ = some (vf (insAt l s.pc)) -> pb ≠ g -> Can s ->
  Calls Tryz.prog 31 #[.pointer (some ⟨g, 0, none⟩)] w fun e w' => e = .returned (.tuple #[]) /\ MRow w' g (.slice (some ⟨pb, 0, none⟩) l.length cap) (doI (insAt l s.pc) (nxt s)).2 F (outO (doI (insAt l s.pc) (nxt s)).1 s.pc (doI (insAt l s.pc) (nxt s)).2 O4.zero) /\ But g w w'
theorem runner_plain {l : List I5} (hl : AllFit l) : Runner iVal l (fun _ => True) :=
 ⟨hl, fun _ _ _ _ => trivial, fun g pb cap s F w h hpc hn hc hne _ => step_any (insAt l s.pc) g pb cap l.length s F O4.zero w h hpc hl.2.1 hn hc hne (by rw [insAt_get hpc]; exact hl.2.2 _ hpc)⟩
structure Live (vf : I5 -> Value) (Can : MS -> Prop) (W wr : World) (g pb cap : Nat) (l : List I5) (F : Nat) (res : List V9 × O4) (k : Nat) (s : MS) : Prop where
 row : MRow wr g (.slice (some ⟨pb, 0, none⟩) l.length cap) s F O4.zero
 prog : ProgAt wr pb vf l
 can : Can s
 bel : Below W.heap.size W wr
 hpc : s.pc <= l.length
 hk : s.n + k = F
 hres : runR l k s = res
structure Over (W wr : World) (g pb cap : Nat) (l : List I5) (F : Nat) (o : O4) : Prop where
 row : ∃ s, MRow wr g (.slice (some ⟨pb, 0, none⟩) l.length cap) s F o
 bel : Below W.heap.size W wr
 hk : o.kind ≠ 0
theorem endO_kind (k p : Int) (s : MS) : (endO k p s).kind = k := rfl
theorem Live.ready {vf : I5 -> Value} {Can : MS -> Prop} {W wr : World} {g pb cap : Nat} {l : List I5} {F : Nat} {res : List V9 × O4} {k : Nat} {s : MS} (h : Live vf Can W wr g pb cap l F res k s) (hg : W.heap.size <= g) :
 (∃ k', k = k' + 1 /\ s.pc < l.length /\ Calls Tryz.prog 30 #[.pointer (some ⟨g, 0, none⟩)] wr fun e w' => e = .returned (.bool true) /\ Live vf Can W w' g pb cap l F res k s /\ But g wr w') \/
 (res.1 = [] /\ Calls Tryz.prog 30 #[.pointer (some ⟨g, 0, none⟩)] wr fun e w' => e = .returned (.bool false) /\ Over W w' g pb cap l F res.2 /\ But g wr w') := by
 have hk0 : (O4.zero.kind != 0) = false := rfl
 have hsz := h.bel.size
 by_cases hp : s.pc = l.length
 · right
   have hr := h.hres
   rw [runR_end hp] at hr
   refine ⟨by rw [<- hr], (ready_end g _ _ _ s _ _ wr h.row hk0 (by simp; omega)).mono ?_⟩
   rintro e w' ⟨he, h2, b2⟩
   rw [<- hr]
   exact ⟨he, ⟨⟨_, h2⟩, h.bel.trans (b2.below hg hsz), by rw [endO_kind]; omega⟩, b2⟩
 · have hpb : ((s.pc : Int) == (l.length : Int)) = false := by rw [beq_eq_false_iff_ne]; omega
   match k, h with
   | 0, h =>
     right
     have hr := h.hres
     rw [runR_fuel hp] at hr
     have hk := h.hk
     refine ⟨by rw [<- hr], (ready_fuel g _ _ _ s _ _ wr h.row hk0 hpb (by simp; omega)).mono ?_⟩
     rintro e w' ⟨he, h2, b2⟩
     rw [<- hr]
     exact ⟨he, ⟨⟨_, h2⟩, h.bel.trans (b2.below hg hsz), by rw [endO_kind]; omega⟩, b2⟩
   | k + 1, h =>
     left
     have hk := h.hk
     have hpc := h.hpc
     refine ⟨k, rfl, by omega, (ready_go g _ _ _ s _ _ wr h.row hk0 hpb (by rw [beq_eq_false_iff_ne]; omega)).mono ?_⟩
     rintro e w' ⟨he, b2⟩
     exact ⟨he, ⟨h.row.bel b2, h.prog.bel b2 h.prog.1, h.can, h.bel.trans (b2.mono hsz), h.hpc, h.hk, h.hres⟩, But.ofBelow b2⟩
def Stepped (vf : I5 -> Value) (Can : MS -> Prop) (W w' : World) (g pb cap : Nat) (l : List I5) (F : Nat) (res : List V9 × O4) (k : Nat) (s : MS) : Prop :=
 (∃ s' vs, res = (⟨s.pc, s.r⟩ :: vs, res.2) /\ Live vf Can W w' g pb cap l F (vs, res.2) k s') \/ (res.1 = [⟨s.pc, s.r⟩] /\ Over W w' g pb cap l F res.2)
theorem Live.step {vf : I5 -> Value} {Can : MS -> Prop} {W wr : World} {g pb cap : Nat} {l : List I5} {F : Nat} {res : List V9 × O4} {k : Nat} {s : MS} (h : Live vf Can W wr g pb cap l F res (k + 1) s) (hg : W.heap.size <= g) (hne : pb ≠ g) (hN : Runner vf l Can) (hF : F <= 10000) (hpc : s.pc < l.length) :
 Calls Tryz.prog 31 #[.pointer (some ⟨g, 0, none⟩)] wr fun e w' => e = .returned (.tuple #[]) /\ Stepped vf Can W w' g pb cap l F res k s /\ But g wr w' := by
 have hk := h.hk
 have hsz := h.bel.size
 have hl := hN.fit
 refine (hN.step g pb cap s F wr h.row hpc (by omega) (h.prog.2 s.pc hpc) hne h.can).mono ?_
 rintro e w' ⟨he, h2, b2⟩
 refine ⟨he, ?_, b2⟩
 have hr := h.hres
 by_cases hd : (doAt l s).1 = 0
 · left
   rw [runR_go (by omega) hd] at hr
   refine ⟨(doAt l s).2, (runR l k (doAt l s).2).1, by rw [<- hr], ?_, h.prog.but b2 hne, hN.next s h.can hpc hd, h.bel.trans (b2.below hg hsz), doAt_pc hl hpc, by rw [doAt_n]; omega, by rw [<- hr]⟩
   have : outO (doI (insAt l s.pc) (nxt s)).1 s.pc (doI (insAt l s.pc) (nxt s)).2 O4.zero = O4.zero := by
    unfold outO; exact if_pos hd
   rw [this] at h2
   exact h2
 · right
   rw [runR_stop (by omega) hd] at hr
   have : outO (doI (insAt l s.pc) (nxt s)).1 s.pc (doI (insAt l s.pc) (nxt s)).2 O4.zero = res.2 := by
    unfold outO; rw [<- hr]; exact if_neg hd
   rw [this] at h2
   exact ⟨by rw [<- hr], ⟨_, h2⟩, h.bel.trans (b2.below hg hsz), by rw [<- hr]; exact hd⟩
theorem Over.ready {W wr : World} {g pb cap : Nat} {l : List I5} {F : Nat} {o : O4} (h : Over W wr g pb cap l F o) :
 Calls Tryz.prog 30 #[.pointer (some ⟨g, 0, none⟩)] wr fun e w' => e = .returned (.bool false) /\ Over W w' g pb cap l F o /\ But g wr w' := by
 obtain ⟨⟨s, hr⟩, hb, hk⟩ := h
 refine (ready_over g _ s _ o wr hr (by simpa using hk)).mono ?_
 rintro e w' ⟨he, rfl⟩
 exact ⟨he, ⟨⟨s, hr⟩, hb, hk⟩, But.refl _ _⟩
theorem start_live {vf : I5 -> Value} {Can : MS -> Prop} {w : World} {l : List I5} {pb cap : Nat} {r : Nat -> Int} {f : Int} {e : Ending} {w' : World} (h : StartP w pb cap l.length r f e w') (hp : ProgAt w pb vf l) (hc : Can (startS r)) :
 ∃ g, e = .returned (.pointer (some ⟨g, 0, none⟩)) /\ w.heap.size <= g /\ pb ≠ g /\ Live vf Can w w' g pb cap l (fuelI f).toNat (runR l (fuelI f).toNat (startS r)) (fuelI f).toNat (startS r) := by
 obtain ⟨g, he, hr, hg, hb⟩ := h
 have := hp.1
 refine ⟨g, he, hg, by omega, ?_, hp.bel hb hp.1, hc, hb, Nat.zero_le _, Nat.zero_add _, rfl⟩
 rw [Int.toNat_of_nonneg (fuelI_bd f).1]
 exact hr
theorem Live.keep {vf : I5 -> Value} {Can : MS -> Prop} {W wr w' : World} {g pb cap : Nat} {l : List I5} {F : Nat} {res : List V9 × O4} {k B : Nat} {s : MS} (h : Live vf Can W wr g pb cap l F res k s) (hb : Below B wr w') (hg : g < B) (hp : pb < B) (hW : W.heap.size <= B) : Live vf Can W w' g pb cap l F res k s :=
 ⟨RowF.block h.row (hb.block g hg), h.prog.bel hb hp, h.can, h.bel.trans (hb.mono hW), h.hpc, h.hk, h.hres⟩
def inS (r : Nat -> Int) (s : St) : Prop := ∀ j, j < 8 -> (s j).mem (r j)
theorem inS_lies {r : Nat -> Int} {s t : St} (h : inS r s) (k : liesR s t = true) : inS r t := fun j hj => (lies_iff.1 k j hj).mem (h j hj)
theorem inS_upd {r : Nat -> Int} {s : St} {a : Nat} {v : Int} {x : R2} (h : inS r s) (hv : x.mem v) : inS (upd r a v) (updS s a x) := fun j hj => by
 unfold upd updS
 by_cases e : j = a
 · rw [if_pos e, if_pos e]; exact hv
 · rw [if_neg e, if_neg e]; exact h j hj
theorem inS_narr {r : Nat -> Int} {s : St} {a b : Nat} {x y : R2} (h : inS r s) (hx : x.mem (r a)) (hy : y.mem (r b)) : ∃ s', narrR s a x b y = some s' /\ inS r s' := by
 unfold narrR
 rw [if_neg (by simp only [Bool.or_eq_true, not_or, emptyR, decide_eq_true_eq]; unfold R2.mem at *; omega)]
 refine ⟨_, rfl, fun j hj => ?_⟩
 by_cases e : j = b
 · subst e; rw [upd_same]; exact hy
 · rw [upd_other e]
   by_cases e2 : j = a
   · subst e2; rw [upd_same]; exact hx
   · rw [upd_other e2]; exact h j hj
theorem doI_sound {i : I5} {s : St} {m : MS} (hi : RegsIn i) (ho : 0 <= i.o /\ i.o < 12) (h64 : s.in64) (hm : inS m.r s) (hw : ∀ j, I64 (m.m j)) (hd : dangR i s = 0) :
 ((doI i m).1 = 1 /\ i.o = 0) \/ ((doI i m).1 = 0 /\ (∀ j, I64 ((doI i m).2.m j)) /\
  (((doI i m).2.pc = m.pc /\ ∃ s', flowOn i s = some s' /\ inS (doI i m).2.r s') \/ (9 <= i.o /\ (doI i m).2.pc = i.k.toNat /\ ∃ s', flowFar i s = some s' /\ inS (doI i m).2.r s'))) := by
 obtain ⟨a0, b0, _, ha, hb, hc⟩ := hi
 have ma := hm _ ha
 have mb := hm _ hb
 have mc := hm _ hc
 have ia := h64 _ ha
 have ib := h64 _ hb
 unfold doI flowOn flowFar
 unfold dangR at hd
 by_cases h1 : i.o = 1
 · simp only [if_pos h1]; exact Or.inr ⟨trivial, hw, Or.inl ⟨trivial, _, rfl, inS_upd hm (by unfold R2.mem; simp)⟩⟩
 simp only [if_neg h1]
 by_cases h1 : i.o = 2
 · simp only [if_pos h1]; exact Or.inr ⟨trivial, hw, Or.inl ⟨trivial, _, rfl, inS_upd hm mb⟩⟩
 simp only [if_neg h1]
 by_cases h1 : i.o = 3
 · simp only [if_pos h1]; exact Or.inr ⟨trivial, hw, Or.inl ⟨trivial, _, rfl, inS_upd hm (sum_mem mb mc)⟩⟩
 simp only [if_neg h1]
 by_cases h1 : i.o = 4
 · simp only [if_pos h1]; exact Or.inr ⟨trivial, hw, Or.inl ⟨trivial, _, rfl, inS_upd hm (dif_mem mb mc)⟩⟩
 simp only [if_neg h1]
 by_cases h1 : i.o = 5
 · simp only [if_pos h1]; exact Or.inr ⟨trivial, hw, Or.inl ⟨trivial, _, rfl, inS_upd hm (prod_mem mb mc)⟩⟩
 simp only [if_neg h1]
 by_cases h1 : i.o = 6
 · rw [if_pos h1] at hd
   have hz : ¬ (m.r i.c.toNat = 0) := by
    intro e
    rw [if_pos (has_iff.2 (by rw [e] at mc; exact mc))] at hd
    cases hd
   simp only [if_pos h1, if_neg hz]
   exact Or.inr ⟨trivial, hw, Or.inl ⟨trivial, _, rfl, inS_upd hm (quo_mem ib mb mc)⟩⟩
 simp only [if_neg h1]
 rw [if_neg h1] at hd
 by_cases h1 : i.o = 7
 · rw [if_pos h1] at hd
   by_cases h2 : inRg (s i.b.toNat) ⟨0, 15⟩ = true
   · rw [inRg_iff] at h2
     unfold R2.mem at mb
     simp only at h2
     simp only [if_pos h1, if_pos (show 0 <= m.r i.b.toNat /\ m.r i.b.toNat < 16 by omega)]
     exact Or.inr ⟨trivial, hw, Or.inl ⟨trivial, _, rfl, inS_upd hm (all_mem (hw _))⟩⟩
   · rw [if_neg h2] at hd; cases hd
 simp only [if_neg h1]
 rw [if_neg h1] at hd
 by_cases h1 : i.o = 8
 · rw [if_pos h1] at hd
   by_cases h2 : inRg (s i.a.toNat) ⟨0, 15⟩ = true
   · rw [inRg_iff] at h2
     unfold R2.mem at ma
     simp only at h2
     simp only [if_pos h1, if_pos (show 0 <= m.r i.a.toNat /\ m.r i.a.toNat < 16 by omega)]
     refine Or.inr ⟨trivial, fun j => ?_, Or.inl ⟨trivial, _, rfl, hm⟩⟩
     unfold upd
     by_cases e : j = (m.r i.a.toNat).toNat
     · rw [if_pos e]; unfold R2.mem at mb; unfold R2.in64 I64 at *; omega
     · rw [if_neg e]; exact hw j
   · rw [if_neg h2] at hd; cases hd
 simp only [if_neg h1]
 by_cases h1 : i.o = 9
 · simp only [if_pos h1]; exact Or.inr ⟨trivial, hw, Or.inr ⟨by omega, trivial, _, rfl, hm⟩⟩
 simp only [if_neg h1]
 by_cases h1 : i.o = 10
 · simp only [if_pos h1]
   by_cases h2 : m.r i.a.toNat < m.r i.b.toNat
   · have hne : ¬ (i.a = i.b) := by intro e; rw [e] at h2; omega
     simp only [if_pos h2, if_neg hne]
     unfold R2.mem at ma mb
     unfold R2.in64 I64 at ia ib
     rw [if_neg (by omega)]
     obtain ⟨s', e1, e2⟩ := inS_narr (a := i.a.toNat) (b := i.b.toNat) (x := ⟨(s i.a.toNat).lo, min (s i.a.toNat).hi ((s i.b.toNat).hi - 1)⟩) (y := ⟨max (s i.b.toNat).lo ((s i.a.toNat).lo + 1), (s i.b.toNat).hi⟩) hm (by unfold R2.mem; simp only; omega) (by unfold R2.mem; simp only; omega)
     exact Or.inr ⟨trivial, hw, Or.inr ⟨by omega, trivial, s', e1, e2⟩⟩
   · simp only [if_neg h2]
     by_cases hne : i.a = i.b
     · simp only [if_pos hne]; exact Or.inr ⟨trivial, hw, Or.inl ⟨trivial, _, rfl, hm⟩⟩
     · simp only [if_neg hne]
       unfold R2.mem at ma mb
       obtain ⟨s', e1, e2⟩ := inS_narr (a := i.a.toNat) (b := i.b.toNat) (x := ⟨max (s i.a.toNat).lo (s i.b.toNat).lo, (s i.a.toNat).hi⟩) (y := ⟨(s i.b.toNat).lo, min (s i.b.toNat).hi (s i.a.toNat).hi⟩) hm (by unfold R2.mem; simp only; omega) (by unfold R2.mem; simp only; omega)
       exact Or.inr ⟨trivial, hw, Or.inl ⟨trivial, s', e1, e2⟩⟩
 simp only [if_neg h1]
 by_cases h1 : i.o = 11
 · simp only [if_pos h1]
   by_cases h2 : m.r i.a.toNat = m.r i.b.toNat
   · simp only [if_pos h2]
     by_cases hne : i.a = i.b
     · simp only [if_pos hne]; exact Or.inr ⟨trivial, hw, Or.inr ⟨by omega, trivial, _, rfl, hm⟩⟩
     · simp only [if_neg hne]
       unfold R2.mem at ma mb
       obtain ⟨s', e1, e2⟩ := inS_narr (a := i.a.toNat) (b := i.b.toNat) (x := comR (s i.a.toNat) (s i.b.toNat)) (y := comR (s i.a.toNat) (s i.b.toNat)) hm (by unfold R2.mem comR; simp only; omega) (by unfold R2.mem comR; simp only; omega)
       exact Or.inr ⟨trivial, hw, Or.inr ⟨by omega, trivial, s', e1, e2⟩⟩
   · have hne : ¬ (i.a = i.b) := by intro e; rw [e] at h2; exact h2 rfl
     simp only [if_neg h2, if_neg hne]
     unfold R2.mem at ma mb
     rw [if_neg (by unfold oneR; simp only [decide_eq_true_eq]; omega)]
     exact Or.inr ⟨trivial, hw, Or.inl ⟨trivial, _, rfl, hm⟩⟩
 simp only [if_neg h1]
 exact Or.inl ⟨trivial, by omega⟩
def comeC (p : List I5) (cl : Nat -> Option St) (e : St) : Nat -> Option St
 | 0 => some e
 | n + 1 => (stepC p cl n (comeC p cl e n)).2
def hereC (p : List I5) (cl : Nat -> Option St) (e : St) (n : Nat) : Option St := if markB p n then cl n else comeC p cl e n
theorem passC_spec {p : List I5} {cl : Nat -> Option St} {e : St} : ∀ (k n : Nat), passC p cl k n (comeC p cl e n) = (0, 0) -> (∀ j, j < k -> (stepC p cl (n + j) (comeC p cl e (n + j))).1 = 0) /\ comeC p cl e (n + k) = none
 | 0, n, h => by
   refine ⟨fun j hj => by omega, ?_⟩
   unfold passC at h
   rw [Nat.add_zero]
   cases hc : comeC p cl e n with
   | none => rfl
   | some s => rw [hc] at h; simp at h
 | k + 1, n, h => by
   unfold passC at h
   by_cases h0 : (stepC p cl n (comeC p cl e n)).1 = 0
   · rw [if_neg (by simp [h0])] at h
     have ih := passC_spec k (n + 1) h
     refine ⟨fun j hj => ?_, by rw [show n + (k + 1) = n + 1 + k by omega]; exact ih.2⟩
     cases j with
     | zero => exact h0
     | succ j => rw [show n + (j + 1) = n + 1 + j by omega]; exact ih.1 j (by omega)
   · rw [if_pos h0] at h
     simp only [Prod.mk.injEq] at h
     exact absurd h.1 h0
theorem stepC_ok {p : List I5} {cl : Nat -> Option St} {n : Nat} {come : Option St} (h : (stepC p cl n come).1 = 0) :
 (markB p n = true -> liesO come (cl n) = true) /\ ∀ s, (if markB p n then cl n else come) = some s ->
  dangR (insAt p n) s = 0 /\ (9 <= (insAt p n).o -> liesO (flowFar (insAt p n) s) (cl (insAt p n).k.toNat) = true) /\ (stepC p cl n come).2 = flowOn (insAt p n) s := by
 unfold stepC at h ⊢
 by_cases h1 : (markB p n && !liesO come (cl n)) = true
 · rw [if_pos h1] at h; simp at h
 · rw [if_neg h1] at h ⊢
   refine ⟨fun hm => by simpa [hm] using h1, fun s hs => ?_⟩
   rw [hs] at h ⊢
   simp only at h ⊢
   by_cases h2 : dangR (insAt p n) s = 0
   · rw [if_neg (by simp [h2])] at h ⊢
     by_cases h3 : (decide (9 <= (insAt p n).o) && !liesO (flowFar (insAt p n) s) (cl (insAt p n).k.toNat)) = true
     · rw [if_pos h3] at h; simp at h
     · rw [if_neg h3]
       exact ⟨h2, fun h9 => by simpa [h9] using h3, rfl⟩
   · rw [if_pos h2] at h; exact absurd h h2
theorem stepC_none {p : List I5} {cl : Nat -> Option St} {n : Nat} {come : Option St} (h : (if markB p n then cl n else come) = none) : (stepC p cl n come).2 = none := by
 unfold stepC
 split
 · rfl
 · rw [h]
structure Taken (p : List I5) (cl : Nat -> Option St) (e : St) : Prop where
 regs : ∀ n, n < p.length -> RegsIn (insAt p n) /\ 0 <= (insAt p n).o /\ (insAt p n).o < 12 /\ I64 (insAt p n).k
 jump : ∀ n, n < p.length -> 9 <= (insAt p n).o -> 0 <= (insAt p n).k /\ (insAt p n).k.toNat < p.length
 pass : passC p cl p.length 0 (some e) = (0, 0)
 clok : ∀ n s, cl n = some s -> s.ok /\ s.in64
 eok : e.ok /\ e.in64
theorem liesO_some {s : St} {y : Option St} (h : liesO (some s) y = true) : ∃ t, y = some t /\ liesR s t = true := by
 cases y with
 | none => cases h
 | some t => exact ⟨t, rfl, h⟩
theorem Taken.steps {p : List I5} {cl : Nat -> Option St} {e : St} (h : Taken p cl e) : (∀ n, n < p.length -> (stepC p cl n (comeC p cl e n)).1 = 0) /\ comeC p cl e p.length = none := by
 have := passC_spec p.length 0 h.pass
 simpa using this
theorem Taken.come_ok {p : List I5} {cl : Nat -> Option St} {e : St} (h : Taken p cl e) : ∀ n, n <= p.length -> ∀ s, comeC p cl e n = some s -> s.ok /\ s.in64
 | 0, _, s, hs => by
   unfold comeC at hs
   simp only [Option.some.injEq] at hs
   rw [<- hs]; exact h.eok
 | n + 1, hn, s, hs => by
   have ih := h.come_ok n (by omega)
   unfold comeC at hs
   have h0 := stepC_ok (h.steps.1 n (by omega))
   cases hh : (if markB p n then cl n else comeC p cl e n) with
   | none => rw [stepC_none hh] at hs; cases hs
   | some t =>
     have ht : t.ok /\ t.in64 := by
      split at hh
      · exact h.clok n t hh
      · exact ih t hh
     obtain ⟨_, _, h3⟩ := h0.2 t hh
     rw [h3] at hs
     have hr := h.regs n (by omega)
     exact flowOn_keeps hr.1 hr.2.2.2 ht.1 ht.2 hs
theorem Taken.here_ok {p : List I5} {cl : Nat -> Option St} {e : St} (h : Taken p cl e) {n : Nat} (hn : n <= p.length) {s : St} (hs : hereC p cl e n = some s) : s.ok /\ s.in64 := by
 unfold hereC at hs
 split at hs
 · exact h.clok n s hs
 · exact h.come_ok n hn s hs
theorem markB_of {p : List I5} {n : Nat} (hn : n < p.length) (h9 : 9 <= (insAt p n).o) (hk : 0 <= (insAt p n).k) : markB p (insAt p n).k.toNat = true := by
 unfold markB
 rw [List.any_eq_true]
 refine ⟨insAt p n, ?_, ?_⟩
 · unfold insAt; rw [List.getElem?_eq_getElem hn]; exact List.getElem_mem hn
 · simp [h9]; omega
theorem Taken.arrive {p : List I5} {cl : Nat -> Option St} {e : St} (h : Taken p cl e) {n : Nat} (hn : n <= p.length) {r : Nat -> Int} {s : St} (hs : comeC p cl e n = some s) (hr : inS r s) : n < p.length /\ ∃ t, hereC p cl e n = some t /\ inS r t := by
 have hlt : n < p.length := by
  rcases Nat.lt_or_eq_of_le hn with h1 | h1
  · exact h1
  · rw [h1, h.steps.2] at hs; cases hs
 refine ⟨hlt, ?_⟩
 unfold hereC
 by_cases hm : markB p n = true
 · rw [if_pos hm]
   have h1 := (stepC_ok (h.steps.1 n hlt)).1 hm
   rw [hs] at h1
   obtain ⟨t, ht, hl⟩ := liesO_some h1
   exact ⟨t, ht, inS_lies hr hl⟩
 · rw [if_neg hm]; exact ⟨s, hs, hr⟩
theorem liesO_trans {x y z : Option St} (h : liesO x y = true) (k : liesO y z = true) : liesO x z = true := by
 cases x with
 | none => rfl
 | some s =>
   obtain ⟨t, rfl, h⟩ := liesO_some h
   obtain ⟨u, rfl, k⟩ := liesO_some k
   exact lies_trans h k
theorem liesO_refl (x : Option St) : liesO x x = true := by
 cases x with
 | none => rfl
 | some s => exact lies_refl s
def joinR (r o : R2) : R2 := ⟨min r.lo o.lo, max r.hi o.hi⟩
def stretchR (r o : R2) : R2 := ⟨if min r.lo o.lo = r.lo then r.lo else -9223372036854775808, if max r.hi o.hi = r.hi then r.hi else 9223372036854775807⟩
def joinO (f : R2 -> R2 -> R2) (x y : Option St) : Option St := match x, y with
 | none, y => y
 | some s, none => some s
 | some s, some t => some fun j => f (s j) (t j)
def backB (p : List I5) (m : Nat) : Bool := (List.range p.length).any fun n => decide (9 <= (insAt p n).o) && decide ((insAt p n).k = m) && decide (m <= n)
structure PS where
 W : Nat -> Option St
 cnt : Nat -> Nat
 chg : Nat -> Bool
def PS.zero : PS := ⟨fun _ => none, fun _ => 0, fun _ => false⟩
def widerP (back : Nat -> Bool) (v : PS) (m : Nat) (come : Option St) : Option St := if back m && decide (3 <= v.cnt m) then joinO stretchR (v.W m) come else joinO joinR (v.W m) come
def takesP (back : Nat -> Bool) (v : PS) (m : Nat) (come : Option St) : PS :=
 if liesO come (v.W m) then v else ⟨fun j => if j = m then widerP back v m come else v.W j, v.cnt, fun j => if j = m then true else v.chg j⟩
def stepP (p : List I5) (n : Nat) (come : Option St) (v : PS) : PS × Option St :=
 match (if markB p n then (takesP (backB p) v n come).W n else come) with
 | none => (if markB p n then takesP (backB p) v n come else v, none)
 | some s => (if 9 <= (insAt p n).o then takesP (backB p) (if markB p n then takesP (backB p) v n come else v) (insAt p n).k.toNat (flowFar (insAt p n) s) else (if markB p n then takesP (backB p) v n come else v), flowOn (insAt p n) s)
def passP (p : List I5) : Nat -> Nat -> Option St -> PS -> PS
 | 0, _, _, v => v
 | k + 1, n, come, v => passP p k (n + 1) (stepP p n come v).2 (stepP p n come v).1
def anyChg (p : List I5) (v : PS) : Bool := (List.range p.length).any v.chg
def countP (v : PS) : PS := ⟨v.W, fun m => if v.chg m then v.cnt m + 1 else v.cnt m, fun _ => false⟩
inductive Settles (p : List I5) (e : St) : PS -> PS -> Prop
 | done (v : PS) : anyChg p (passP p p.length 0 (some e) v) = false -> Settles p e v (passP p p.length 0 (some e) v)
 | more (v v' : PS) : anyChg p (passP p p.length 0 (some e) v) = true -> Settles p e (countP (passP p p.length 0 (some e) v)) v' -> Settles p e v v'
theorem Settles.det {p : List I5} {e : St} {v a b : PS} (h : Settles p e v a) (k : Settles p e v b) : a = b := by
 induction h with
 | done v h1 =>
   cases k with
   | done _ _ => rfl
   | more _ _ h2 _ => rw [h1] at h2; cases h2
 | more v v' h1 _ ih =>
   cases k with
   | done _ h2 => rw [h1] at h2; cases h2
   | more _ _ _ h3 => exact ih h3
theorem sub_join (r o : R2) : r.sub (joinR r o) /\ o.sub (joinR r o) := by unfold R2.sub joinR; simp only; omega
theorem sub_stretch {r o : R2} (hr : r.in64) (ho : o.in64) : r.sub (stretchR r o) /\ o.sub (stretchR r o) := by
 unfold R2.sub stretchR; unfold R2.in64 I64 at *
 refine ⟨⟨?_, ?_⟩, ?_, ?_⟩ <;> simp only <;> split <;> omega
theorem joinO_up {f : R2 -> R2 -> R2} {x y : Option St} (hf : ∀ s t, x = some s -> y = some t -> ∀ j, j < 8 -> (s j).sub (f (s j) (t j)) /\ (t j).sub (f (s j) (t j))) : liesO x (joinO f x y) = true /\ liesO y (joinO f x y) = true := by
 cases x with
 | none => exact ⟨rfl, liesO_refl y⟩
 | some s =>
   cases y with
   | none => exact ⟨liesO_refl _, rfl⟩
   | some t => exact ⟨lies_iff.2 fun j hj => (hf s t rfl rfl j hj).1, lies_iff.2 fun j hj => (hf s t rfl rfl j hj).2⟩
theorem joinO_ok {x y : Option St} (hx : OkO x) (hy : OkO y) : OkO (joinO joinR x y) := by
 cases x with
 | none => exact hy
 | some s =>
   cases y with
   | none => exact hx
   | some t =>
     obtain ⟨o1, i1⟩ := hx s rfl
     obtain ⟨o2, i2⟩ := hy t rfl
     intro u hu
     simp only [joinO, Option.some.injEq] at hu
     rw [<- hu]
     refine ⟨fun j hj => ?_, fun j hj => ?_⟩
     · have := o1 j hj; show (joinR (s j) (t j)).lo <= (joinR (s j) (t j)).hi; unfold joinR; simp only; omega
     · have := i1 j hj; have := i2 j hj; show (joinR (s j) (t j)).in64; unfold joinR; unfold R2.in64 I64 at *; simp only; omega
theorem stretchO_ok {x y : Option St} (hx : OkO x) (hy : OkO y) : OkO (joinO stretchR x y) := by
 cases x with
 | none => exact hy
 | some s =>
   cases y with
   | none => exact hx
   | some t =>
     obtain ⟨o1, i1⟩ := hx s rfl
     intro u hu
     simp only [joinO, Option.some.injEq] at hu
     rw [<- hu]
     refine ⟨fun j hj => ?_, fun j hj => ?_⟩
     · have := o1 j hj; have := i1 j hj; show (stretchR (s j) (t j)).lo <= (stretchR (s j) (t j)).hi; unfold stretchR; unfold R2.in64 I64 at *; simp only; split <;> split <;> omega
     · have := i1 j hj; show (stretchR (s j) (t j)).in64; unfold stretchR; unfold R2.in64 I64 at *; simp only; constructor <;> split <;> omega
theorem wider_ok {back : Nat -> Bool} {v : PS} {m : Nat} {come : Option St} (hv : OkO (v.W m)) (hc : OkO come) : OkO (widerP back v m come) := by
 unfold widerP; split
 · exact stretchO_ok hv hc
 · exact joinO_ok hv hc
theorem wider_up {back : Nat -> Bool} {v : PS} {m : Nat} {come : Option St} (hv : OkO (v.W m)) (hc : OkO come) : liesO (v.W m) (widerP back v m come) = true /\ liesO come (widerP back v m come) = true := by
 unfold widerP; split
 · exact joinO_up fun s t hs ht j hj => sub_stretch ((hv s hs).2 j hj) ((hc t ht).2 j hj)
 · exact joinO_up fun s t _ _ j _ => sub_join _ _
structure PInv (p : List I5) (v : PS) : Prop where
 mark : ∀ m s, v.W m = some s -> markB p m = true
 ok : ∀ m, OkO (v.W m)
theorem takes_inv {p : List I5} {back : Nat -> Bool} {v : PS} {m : Nat} {come : Option St} (hv : PInv p v) (hm : markB p m = true) (hc : OkO come) : PInv p (takesP back v m come) := by
 unfold takesP
 split
 · exact hv
 · refine ⟨fun j s hs => ?_, fun j => ?_⟩
   · by_cases e : j = m
     · rw [e]; exact hm
     · simp only [if_neg e] at hs; exact hv.mark j s hs
   · by_cases e : j = m
     · simp only [if_pos e]; exact wider_ok (hv.ok m) hc
     · simp only [if_neg e]; exact hv.ok j
structure Fit (p : List I5) : Prop where
 regs : ∀ n, n < p.length -> RegsIn (insAt p n) /\ 0 <= (insAt p n).o /\ (insAt p n).o < 12 /\ I64 (insAt p n).k
 jump : ∀ n, n < p.length -> 9 <= (insAt p n).o -> 0 <= (insAt p n).k /\ (insAt p n).k.toNat < p.length
theorem stepP_inv {p : List I5} (hp : Fit p) {n : Nat} (hn : n < p.length) {come : Option St} {v : PS} (hv : PInv p v) (hc : OkO come) : PInv p (stepP p n come v).1 /\ OkO (stepP p n come v).2 := by
 have hr := hp.regs n hn
 have h1 : PInv p (if markB p n then takesP (backB p) v n come else v) := by
  split
  · rename_i hm; exact takes_inv hv hm hc
  · exact hv
 have hh : OkO (if markB p n then (takesP (backB p) v n come).W n else come) := by
  split
  · rename_i hm; exact (takes_inv hv hm hc).ok n
  · exact hc
 unfold stepP
 cases hs : (if markB p n then (takesP (backB p) v n come).W n else come) with
 | none => exact ⟨h1, fun s h => by cases h⟩
 | some s =>
   have hso := hh s hs
   refine ⟨?_, fun t ht => flowOn_keeps hr.1 hr.2.2.2 hso.1 hso.2 ht⟩
   simp only
   split
   · rename_i h9
     exact takes_inv h1 (markB_of hn h9 (hp.jump n hn h9).1) (fun t ht => flowFar_keeps hr.1 hso.1 hso.2 ht)
   · exact h1
theorem passP_inv {p : List I5} (hp : Fit p) : ∀ (k n : Nat) (come : Option St) (v : PS), n + k = p.length -> PInv p v -> OkO come -> PInv p (passP p k n come v)
 | 0, _, _, _, _, hv, _ => hv
 | k + 1, n, come, v, hn, hv, hc => by
   have := stepP_inv hp (n := n) (by omega) hv hc
   exact passP_inv hp k (n + 1) _ _ (by omega) this.1 this.2
theorem count_inv {p : List I5} {v : PS} (hv : PInv p v) : PInv p (countP v) := ⟨hv.mark, hv.ok⟩
theorem zero_inv (p : List I5) : PInv p PS.zero := ⟨fun _ _ h => (by cases h), fun _ _ h => (by cases h)⟩
theorem Settles.inv {p : List I5} {e : St} (hp : Fit p) (he : e.ok /\ e.in64) {v v' : PS} (h : Settles p e v v') (hv : PInv p v) : PInv p v' := by
 have ho : OkO (some e) := fun s hs => by simp only [Option.some.injEq] at hs; rw [<- hs]; exact he
 induction h with
 | done v _ => exact passP_inv hp _ _ _ _ (by omega) hv ho
 | more v v' _ _ ih => exact ih (count_inv (passP_inv hp _ _ _ _ (by omega) hv ho))
theorem takes_at {back : Nat -> Bool} {v : PS} {m : Nat} {come : Option St} (h : liesO come (v.W m) = false) : takesP back v m come = ⟨fun j => if j = m then widerP back v m come else v.W j, v.cnt, fun j => if j = m then true else v.chg j⟩ := by
 unfold takesP; rw [if_neg (by simp [h])]
theorem takes_no {back : Nat -> Bool} {v : PS} {m : Nat} {come : Option St} (h : liesO come (v.W m) = true) : takesP back v m come = v := by
 unfold takesP; rw [if_pos h]
def gapR (r : R2) : Nat := (18446744073709551615 - (r.hi - r.lo)).toNat
def sum8 (f : Nat -> Nat) : Nat := f 0 + f 1 + f 2 + f 3 + f 4 + f 5 + f 6 + f 7
def muO (x : Option St) : Nat := match x with
 | none => 147573952589676412928
 | some s => sum8 fun j => gapR (s j)
theorem gap_le {r q : R2} (h : r.sub q) : gapR q <= gapR r := by unfold gapR; unfold R2.sub at h; omega
theorem gap_lt {r q : R2} (h : r.sub q) (hq : q.in64) (hne : ¬ q.sub r) : gapR q < gapR r := by
 unfold gapR; unfold R2.sub R2.in64 I64 at *; omega
theorem mu_some_lt {s : St} (hok : s.ok) : muO (some s) < 147573952589676412928 := by
 have h : ∀ j, j < 8 -> gapR (s j) <= 18446744073709551615 := fun j hj => by have := hok j hj; unfold gapR; omega
 have h0 := h 0 (by omega); have h1 := h 1 (by omega); have h2 := h 2 (by omega); have h3 := h 3 (by omega); have h4 := h 4 (by omega); have h5 := h 5 (by omega); have h6 := h 6 (by omega); have h7 := h 7 (by omega)
 unfold muO sum8; simp only; omega
theorem mu_lt {x y : Option St} (hy : OkO y) (h : liesO x y = true) (hne : liesO y x = false) : muO y < muO x := by
 cases y with
 | none => cases hne
 | some t =>
   cases x with
   | none => exact mu_some_lt (hy t rfl).1
   | some s =>
     have hl := lies_iff.1 (show liesR s t = true from h)
     have hn : ¬ ∀ j, j < 8 -> (t j).sub (s j) := fun hh => by
      have : liesR t s = true := lies_iff.2 hh
      rw [show liesO (some t) (some s) = liesR t s from rfl, this] at hne; cases hne
     have hle : ∀ j, j < 8 -> gapR (t j) <= gapR (s j) := fun j hj => gap_le (hl j hj)
     have hex : ∃ j, j < 8 /\ gapR (t j) < gapR (s j) := by
      refine Classical.byContradiction fun hno => hn fun j hj => ?_
      refine Classical.byContradiction fun hs => hno ⟨j, hj, gap_lt (hl j hj) ((hy t rfl).2 j hj) hs⟩
     obtain ⟨j, hj, hlt⟩ := hex
     have h0 := hle 0 (by omega); have h1 := hle 1 (by omega); have h2 := hle 2 (by omega); have h3 := hle 3 (by omega); have h4 := hle 4 (by omega); have h5 := hle 5 (by omega); have h6 := hle 6 (by omega); have h7 := hle 7 (by omega)
     unfold muO sum8; simp only
     rcases (by omega : j = 0 \/ j = 1 \/ j = 2 \/ j = 3 \/ j = 4 \/ j = 5 \/ j = 6 \/ j = 7) with rfl | rfl | rfl | rfl | rfl | rfl | rfl | rfl <;> omega
def muP (n : Nat) (v : PS) : Nat := match n with
 | 0 => 0
 | n + 1 => muP n v + muO (v.W n)
theorem muP_le {v v' : PS} (h : ∀ j, muO (v'.W j) <= muO (v.W j)) : ∀ n, muP n v' <= muP n v
 | 0 => Nat.le_refl _
 | n + 1 => Nat.add_le_add (muP_le h n) (h n)
theorem muP_lt {v v' : PS} (h : ∀ j, muO (v'.W j) <= muO (v.W j)) {m : Nat} (hm : muO (v'.W m) < muO (v.W m)) : ∀ n, m < n -> muP n v' < muP n v
 | 0, h0 => by omega
 | n + 1, h1 => by
   rcases Nat.lt_succ_iff_lt_or_eq.1 h1 with h2 | h2
   · exact Nat.add_lt_add_of_lt_of_le (muP_lt h hm n h2) (h n)
   · rw [<- h2]; exact Nat.add_lt_add_of_le_of_lt (muP_le h m) hm
theorem takes_mu {back : Nat -> Bool} {v : PS} {m : Nat} {come : Option St} (hv : OkO (v.W m)) (hc : OkO come) : (∀ j, muO ((takesP back v m come).W j) <= muO (v.W j)) /\ (liesO come (v.W m) = false -> muO ((takesP back v m come).W m) < muO (v.W m)) := by
 cases hl : liesO come (v.W m) with
 | true => rw [takes_no hl]; exact ⟨fun _ => Nat.le_refl _, fun h => by cases h⟩
 | false =>
   have hu := wider_up (back := back) hv hc
   have hlt : muO (widerP back v m come) < muO (v.W m) := by
    refine mu_lt (wider_ok hv hc) hu.1 ?_
    cases hx : liesO (widerP back v m come) (v.W m) with
    | false => rfl
    | true => have := liesO_trans hu.2 hx; rw [hl] at this; cases this
   rw [takes_at hl]
   refine ⟨fun j => ?_, fun _ => ?_⟩
   · simp only
     split
     · rename_i e; rw [e]; omega
     · exact Nat.le_refl _
   · simp only [if_true]; exact hlt
def Dec (p : List I5) (v v' : PS) : Prop := (∀ j, muO (v'.W j) <= muO (v.W j)) /\ ((∀ j, j < p.length -> v'.chg j = v.chg j) \/ ∃ m, m < p.length /\ muO (v'.W m) < muO (v.W m))
theorem Dec.refl (p : List I5) (v : PS) : Dec p v v := ⟨fun _ => Nat.le_refl _, Or.inl fun _ _ => rfl⟩
theorem Dec.trans {p : List I5} {a b c : PS} (h : Dec p a b) (k : Dec p b c) : Dec p a c := by
 refine ⟨fun j => Nat.le_trans (k.1 j) (h.1 j), ?_⟩
 rcases h.2 with h2 | ⟨m, hm, h2⟩
 · rcases k.2 with k2 | ⟨m, hm, k2⟩
   · exact Or.inl fun j hj => (k2 j hj).trans (h2 j hj)
   · exact Or.inr ⟨m, hm, Nat.lt_of_lt_of_le k2 (h.1 m)⟩
 · exact Or.inr ⟨m, hm, Nat.lt_of_le_of_lt (k.1 m) h2⟩
theorem takes_dec {p : List I5} {back : Nat -> Bool} {v : PS} {m : Nat} {come : Option St} (hm : m < p.length) (hv : OkO (v.W m)) (hc : OkO come) : Dec p v (takesP back v m come) := by
 have h := takes_mu (back := back) hv hc
 refine ⟨h.1, ?_⟩
 cases hl : liesO come (v.W m) with
 | true => rw [takes_no hl]; exact Or.inl fun _ _ => rfl
 | false => exact Or.inr ⟨m, hm, h.2 hl⟩
theorem stepP_dec {p : List I5} (hp : Fit p) {n : Nat} (hn : n < p.length) {come : Option St} {v : PS} (hv : PInv p v) (hc : OkO come) : Dec p v (stepP p n come v).1 := by
 have hr := hp.regs n hn
 have h1 : Dec p v (if markB p n then takesP (backB p) v n come else v) := by
  split
  · exact takes_dec hn (hv.ok n) hc
  · exact Dec.refl p v
 have hi : PInv p (if markB p n then takesP (backB p) v n come else v) := by
  split
  · rename_i hm; exact takes_inv hv hm hc
  · exact hv
 have hh : OkO (if markB p n then (takesP (backB p) v n come).W n else come) := by
  split
  · rename_i hm; exact (takes_inv hv hm hc).ok n
  · exact hc
 unfold stepP
 cases hs : (if markB p n then (takesP (backB p) v n come).W n else come) with
 | none => exact h1
 | some s =>
   have hso := hh s hs
   simp only
   split
   · rename_i h9
     exact h1.trans (takes_dec (hp.jump n hn h9).2 (hi.ok _) (fun t ht => flowFar_keeps hr.1 hso.1 hso.2 ht))
   · exact h1
theorem passP_dec {p : List I5} (hp : Fit p) : ∀ (k n : Nat) (come : Option St) (v : PS), n + k = p.length -> PInv p v -> OkO come -> Dec p v (passP p k n come v)
 | 0, _, _, v, _, _, _ => Dec.refl p v
 | k + 1, n, come, v, hn, hv, hc => by
   have h2 := stepP_inv hp (n := n) (by omega) hv hc
   exact (stepP_dec hp (n := n) (by omega) hv hc).trans (passP_dec hp k (n + 1) _ _ (by omega) h2.1 h2.2)
theorem pass_mu {p : List I5} (hp : Fit p) {e : St} (he : e.ok /\ e.in64) {v : PS} (hv : PInv p v) (h0 : ∀ j, j < p.length -> v.chg j = false) (h : anyChg p (passP p p.length 0 (some e) v) = true) : muP p.length (countP (passP p p.length 0 (some e) v)) < muP p.length v := by
 have ho : OkO (some e) := fun s hs => by simp only [Option.some.injEq] at hs; rw [<- hs]; exact he
 have hd := passP_dec hp p.length 0 (some e) v (by omega) hv ho
 have hc : muP p.length (countP (passP p p.length 0 (some e) v)) = muP p.length (passP p p.length 0 (some e) v) := by
  generalize p.length = n
  generalize passP p _ 0 (some e) v = u
  induction n with
  | zero => rfl
  | succ n ih => unfold muP; rw [ih]; rfl
 rw [hc]
 rcases hd.2 with h2 | ⟨m, hm, h2⟩
 · exfalso
   unfold anyChg at h
   rw [List.any_eq_true] at h
   obtain ⟨j, hj, hx⟩ := h
   have hj := List.mem_range.1 hj
   rw [h2 j hj, h0 j hj] at hx
   cases hx
 · exact muP_lt hd.1 h2 _ hm
end Go.Proofs.YtamiichlbmllcabGreatDoor
