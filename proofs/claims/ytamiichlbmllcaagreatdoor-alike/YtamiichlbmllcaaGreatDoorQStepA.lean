import Derived.Test.YtamiichlbmllcaaGreatDoorQDo2
import Derived.Test.YtamiichlbmllcaaGreatDoorQPrg
/-
  The contracts of 'do' of the instructions that do not look: sureDiv, sureLoad, sureStore.
-/
namespace Go.Proofs.YtamiichlbmllcaaGreatDoor
open Go.RowKit
set_option maxHeartbeats 2000000 in
theorem sdiv_do (a b c : Nat) (ha : a < 8) (hb : b < 8) (hc : c < 8) (g : Nat) (pv : Value) (s : MS) (F : Int) (o : O4) (w : World) (h : MRow w g pv s F o) (hz : (s.r c == 0) = false) :
    Calls Tryz.prog 206 #[.agg #[.int .i64 a, .int .i64 b, .int .i64 c], .pointer (some ⟨g, 0, none⟩)] w fun e w' => e = .returned (.int .i64 0) ∧ MRow w' g pv { s with r := upd s.r a (wrap64 ((s.r b).tdiv (s.r c))) } F o ∧ But g w w' := by
  obtain ⟨c1, f1⟩ := h.reg a ha
  obtain ⟨c2, f2⟩ := h.reg b hb
  obtain ⟨c3, f3⟩ := h.reg c hc
  have hg := RowF.lt h
  have hz2 : ¬ s.r c = 0 := by simpa using hz
  go_enter Tryz.func206, Tryz.ntmps206
  go_wp2_with fail
  go_region
  go_wp2
  go_ret
  exact ⟨rfl, fin2 (h.setReg a ha _) (But.set _ _ _ _) (belAD _ _)⟩
set_option maxHeartbeats 2000000 in
theorem sload_do (a b n : Nat) (ha : a < 8) (hb : b < 8) (hn : n < 16) (g : Nat) (pv : Value) (s : MS) (F : Int) (o : O4) (w : World) (h : MRow w g pv s F o) (hr : Hid (s.r b = n)) :
    Calls Tryz.prog 207 #[.agg #[.int .i64 a, .int .i64 b], .pointer (some ⟨g, 0, none⟩)] w fun e w' => e = .returned (.int .i64 0) ∧ MRow w' g pv { s with r := upd s.r a (s.m n) } F o ∧ But g w w' := by
  obtain ⟨c1, f1⟩ := h.reg a ha
  obtain ⟨c2, f2⟩ := h.reg b hb
  rw [hr.out] at c2
  obtain ⟨c3, f3⟩ := h.word n hn
  have hg := RowF.lt h
  go_enter Tryz.func207, Tryz.ntmps207
  go_wp2_with fail
  go_region
  go_wp2
  go_ret
  exact ⟨rfl, fin2 (h.setReg a ha _) (But.set _ _ _ _) (belAD _ _)⟩
set_option maxHeartbeats 2000000 in
theorem sstore_do (a b n : Nat) (ha : a < 8) (hb : b < 8) (hn : n < 16) (g : Nat) (pv : Value) (s : MS) (F : Int) (o : O4) (w : World) (h : MRow w g pv s F o) (hr : Hid (s.r a = n)) :
    Calls Tryz.prog 208 #[.agg #[.int .i64 a, .int .i64 b], .pointer (some ⟨g, 0, none⟩)] w fun e w' => e = .returned (.int .i64 0) ∧ MRow w' g pv { s with m := upd s.m n (s.r b) } F o ∧ But g w w' := by
  obtain ⟨c1, f1⟩ := h.reg a ha
  obtain ⟨c2, f2⟩ := h.reg b hb
  rw [hr.out] at c1
  obtain ⟨c3, f3⟩ := h.word n hn
  have hg := RowF.lt h
  by_cases hab : a = b
  · subst hab
    have HR := hide hr.out
    clear c2 f2 hr
    rw [HR.out]
    go_enter Tryz.func208, Tryz.ntmps208
    go_wp2_with fail
    go_region
    go_wp2
    go_ret
    exact ⟨rfl, fin2 (h.setWord n hn _) (But.set _ _ _ _) (belAD _ _)⟩
  · go_enter Tryz.func208, Tryz.ntmps208
    go_wp2_with fail
    go_region
    go_wp2
    go_ret
    exact ⟨rfl, fin2 (h.setWord n hn _) (But.set _ _ _ _) (belAD _ _)⟩
end Go.Proofs.YtamiichlbmllcaaGreatDoor
/-
  The contracts of (*machine.machine).end and isReady.
-/
namespace Go.Proofs.YtamiichlbmllcaaGreatDoor
open Go.RowKit
/-- how a run ends -/
def endO (kd place : Int) (s : MS) : O4 := ⟨kd, place, if kd = 1 then s.r 0 else 0, s.n⟩
theorem MRow.setO {w : World} {g : Nat} {pv : Value} {s : MS} {F : Int} {o : O4} (h : MRow w g pv s F o) (a b c d : Int) : MRow ((((w.setCell ⟨g, 28, none⟩ (.int .i64 a)).setCell ⟨g, 29, none⟩ (.int .i64 b)).setCell ⟨g, 30, none⟩ (.int .i64 c)).setCell ⟨g, 31, none⟩ (.int .i64 d)) g pv s F ⟨a, b, c, d⟩ :=
  (((h.setKind a).setPlace b).setValue c).setSteps d
theorem But.set4 (g : Nat) (w : World) (a b c d : Value) (i j k l : Nat) : But g w ((((w.setCell ⟨g, i, none⟩ a).setCell ⟨g, j, none⟩ b).setCell ⟨g, k, none⟩ c).setCell ⟨g, l, none⟩ d) :=
  (((But.set g w i a).trans (But.set g _ j b)).trans (But.set g _ k c)).trans (But.set g _ l d)
set_option maxHeartbeats 1000000 in
theorem end_any (kd place : Int) (g : Nat) (pv : Value) (s : MS) (F : Int) (o : O4) (w : World) (h : MRow w g pv s F o) :
    Calls Tryz.prog 104 #[.pointer (some ⟨g, 0, none⟩), .int .i64 kd, .int .i64 place] w fun e w' => e = .returned (.tuple #[]) ∧ MRow w' g pv s F (endO kd place s) ∧ But g w w' := by
  obtain ⟨_, _, c26, _, c28, c29, c30, c31⟩ := h.fields
  have f28 := h.free 28
  have f29 := h.free 29
  have f30 := h.free 30
  have f31 := h.free 31
  obtain ⟨r0, _⟩ := h.reg 0 (by omega)
  have hg := RowF.lt h
  by_cases hk : kd = 1
  · have R : Hid (endO kd place s = ⟨kd, place, s.r 0, s.n⟩) := hide (by simp [endO, hk])
    have hq : (kd == 1) = true := by simpa using hk
    clear hk
    go_enter Tryz.func104, Tryz.ntmps104
    go_wp2
    go_end0
    exact ⟨rfl, by rw [R.out]; exact (h.setO kd place 0 s.n).setValue (s.r 0), (But.set4 _ _ _ _ _ _ _ _ _ _).trans (But.set _ _ _ _)⟩
  · have R : Hid (endO kd place s = ⟨kd, place, 0, s.n⟩) := hide (by simp [endO, hk])
    have hq : (kd == 1) = false := by simpa using hk
    clear hk
    go_enter Tryz.func104, Tryz.ntmps104
    go_wp2
    go_end0
    exact ⟨rfl, by rw [R.out]; exact h.setO kd place 0 s.n, But.set4 _ _ _ _ _ _ _ _ _ _⟩
set_option maxHeartbeats 400000 in
theorem ready_over (g : Nat) (pv : Value) (s : MS) (F : Int) (o : O4) (w : World) (h : MRow w g pv s F o) (hk : (o.kind != 0) = true) :
    Calls Tryz.prog 69 #[.pointer (some ⟨g, 0, none⟩)] w fun e w' => e = .returned (.bool false) ∧ w = w' := by
  obtain ⟨_, _, _, _, c28, _⟩ := h.fields
  go_enter Tryz.func69, Tryz.ntmps69
  go_wp2
  go_ret
  exact ⟨rfl, rfl⟩
set_option maxHeartbeats 400000 in
theorem ready_end (g : Nat) (a : Option Addr) (n cap : Nat) (s : MS) (F : Int) (o : O4) (w : World) (h : MRow w g (.slice a n cap) s F o) (hk : (o.kind != 0) = false) (hp : ((s.pc : Int) == (n : Int)) = true) :
    Calls Tryz.prog 69 #[.pointer (some ⟨g, 0, none⟩)] w fun e w' => e = .returned (.bool false) ∧ MRow w' g (.slice a n cap) s F (endO 5 s.pc s) ∧ But g w w' := by
  obtain ⟨c0, c25, _, _, c28, _⟩ := h.fields
  have H1 : Hid (MRow w.drew g (.slice a n cap) s F o) := hide h
  go_enter Tryz.func69, Tryz.ntmps69
  go_wp2_with fail
  go_region
  go_wp2_with (go_at_call 104; refine (end_any _ _ g _ s F o _ H1.out).mono ?_; rintro e w2 ⟨rfl, h2, b2⟩)
  go_ret
  exact ⟨rfl, h2, (But.ofBelow ((Below.refl _ _).drew)).trans b2⟩
set_option maxHeartbeats 400000 in
theorem ready_fuel (g : Nat) (a : Option Addr) (n cap : Nat) (s : MS) (F : Int) (o : O4) (w : World) (h : MRow w g (.slice a n cap) s F o) (hk : (o.kind != 0) = false) (hp : ((s.pc : Int) == (n : Int)) = false) (hf : ((s.n : Int) == F) = true) :
    Calls Tryz.prog 69 #[.pointer (some ⟨g, 0, none⟩)] w fun e w' => e = .returned (.bool false) ∧ MRow w' g (.slice a n cap) s F (endO 2 s.pc s) ∧ But g w w' := by
  obtain ⟨c0, c25, c26, c27, c28, _⟩ := h.fields
  have H1 : Hid (MRow w.drew.drew g (.slice a n cap) s F o) := hide h
  go_enter Tryz.func69, Tryz.ntmps69
  go_wp2_with fail
  go_region
  go_wp2_with fail
  go_region
  go_wp2_with (go_at_call 104; refine (end_any _ _ g _ s F o _ H1.out).mono ?_; rintro e w2 ⟨rfl, h2, b2⟩)
  go_ret
  exact ⟨rfl, h2, (But.ofBelow ((Below.refl _ _).drew.drew)).trans b2⟩
set_option maxHeartbeats 400000 in
theorem ready_go (g : Nat) (a : Option Addr) (n cap : Nat) (s : MS) (F : Int) (o : O4) (w : World) (h : MRow w g (.slice a n cap) s F o) (hk : (o.kind != 0) = false) (hp : ((s.pc : Int) == (n : Int)) = false) (hf : ((s.n : Int) == F) = false) :
    Calls Tryz.prog 69 #[.pointer (some ⟨g, 0, none⟩)] w fun e w' => e = .returned (.bool true) ∧ Below w.heap.size w w' := by
  obtain ⟨c0, c25, c26, c27, c28, _⟩ := h.fields
  go_enter Tryz.func69, Tryz.ntmps69
  go_wp2_with fail
  go_region
  go_wp2_with fail
  go_region
  go_wp2
  go_ret
  exact ⟨rfl, ((Below.refl _ _).drew.drew)⟩
end Go.Proofs.YtamiichlbmllcaaGreatDoor
/-
  The contract of (*machine.machine).step: one instruction of a right program.
-/
namespace Go.Proofs.YtamiichlbmllcaaGreatDoor
open Go.RowKit
/-- behind an instruction -/
def nxt (s : MS) : MS := { s with pc := s.pc + 1, n := s.n + 1 }
def outO (kd : Int) (pc : Nat) (s : MS) (o : O4) : O4 := if kd = 0 then o else endO kd pc s
theorem outO_on (pc : Nat) (s : MS) (o : O4) : outO 0 pc s o = o := rfl
theorem MRow.nxt {w : World} {g : Nat} {pv : Value} {s : MS} {F : Int} {o : O4} (h : MRow w g pv s F o) : MRow ((w.setCell ⟨g, 25, none⟩ (.int .i64 ((s.pc : Int) + 1))).setCell ⟨g, 26, none⟩ (.int .i64 ((s.n : Int) + 1))) g pv (nxt s) F o := by
  have := (h.setPc (s.pc + 1)).setN (s.n + 1)
  simpa [Go.Proofs.YtamiichlbmllcaaGreatDoor.nxt] using this
set_option maxHeartbeats 1000000 in
set_option maxRecDepth 100000 in
theorem step_gen (T f : Nat) (v : Value) (kd : Int) (s' : MS) (g pb cap n : Nat) (s : MS) (F : Int) (o : O4) (w : World) (h : MRow w g (.slice (some ⟨pb, 0, none⟩) n cap) s F o) (hp : s.pc < n) (hn64 : n ≤ 64) (hn : s.n < 1000000)
    (hi : w.cell? ⟨pb, s.pc, none⟩ = some (.iface T v)) (hpg : pb ≠ g)
    (hm : ∀ w, (method 367 T v "surety/machine.do").run Tryz.prog w = .ok (f, v) w)
    (hcf : ∀ w, (callFunc f #[v, .pointer (some ⟨g, 0, none⟩)]).run Tryz.prog w = .ok (.enter f #[v, .pointer (some ⟨g, 0, none⟩)]) w)
    (hcall : Hid (∀ w1, MRow w1 g (.slice (some ⟨pb, 0, none⟩) n cap) (nxt s) F o → Calls Tryz.prog f #[v, .pointer (some ⟨g, 0, none⟩)] w1 fun e w' => e = .returned (.int .i64 kd) ∧ MRow w' g (.slice (some ⟨pb, 0, none⟩) n cap) s' F o ∧ But g w1 w')) :
    Calls Tryz.prog 70 #[.pointer (some ⟨g, 0, none⟩)] w fun e w' => e = .returned (.tuple #[]) ∧ MRow w' g (.slice (some ⟨pb, 0, none⟩) n cap) s' F (outO kd s.pc s' o) ∧ But g w w' := by
  obtain ⟨c0, c25, c26, _⟩ := h.fields
  have f25 := h.free 25
  have f26 := h.free 26
  have hg := RowF.lt h
  have H1 := hide h.nxt
  have hp64 : s.pc < 64 := by omega
  go_enter Tryz.func70, Tryz.ntmps70
  go_wp2_with (fail)
  refine (hcall.out _ H1.out).mono ?_
  rintro e w2 ⟨rfl, h2, b2⟩
  have B2 := hide (((But.set g w 25 (.int .i64 ((s.pc : Int) + 1))).trans (But.set g _ 26 (.int .i64 ((s.n : Int) + 1)))).trans b2)
  have H2 := hide h2
  clear b2 h2 c0 c25 c26 f25 f26
  by_cases hk : kd = 0
  · have R : Hid (outO kd s.pc s' o = o) := hide (by unfold outO; rw [if_pos hk])
    have hq : (kd != 0) = false := by simpa using hk
    clear hk
    go_wp2_with (fail)
    go_end0
    exact ⟨rfl, by rw [R.out]; exact H2.out, B2.out⟩
  · have R : Hid (outO kd s.pc s' o = endO kd s.pc s') := hide (by unfold outO; rw [if_neg hk])
    have hq : (kd != 0) = true := by simpa using hk
    clear hk
    go_wp2_with (go_at_call 104; refine (end_any _ _ g _ s' F o _ H2.out).mono ?_; rintro e w3 ⟨rfl, h3, b3⟩; have H3 := hide h3; have B3 := hide b3; clear h3 b3)
    go_end0
    exact ⟨rfl, by rw [R.out]; exact H3.out, B2.out.trans B3.out⟩
end Go.Proofs.YtamiichlbmllcaaGreatDoor
/-
  Programs whose every instruction may stand there; where their instructions lie.
-/
namespace Go.Proofs.YtamiichlbmllcaaGreatDoor
open Go.RowKit
def inR (a : Int) : Prop := 0 ≤ a ∧ a < 8
theorem fit_cases {i : I5} {n : Nat} (h : i.fits n = true) :
    (i.o = 0) ∨ (i.o = 1 ∧ inR i.a) ∨ (i.o = 2 ∧ inR i.a ∧ inR i.b) ∨ (i.o = 3 ∧ inR i.a ∧ inR i.b ∧ inR i.c) ∨ (i.o = 4 ∧ inR i.a ∧ inR i.b ∧ inR i.c) ∨ (i.o = 5 ∧ inR i.a ∧ inR i.b ∧ inR i.c) ∨ (i.o = 6 ∧ inR i.a ∧ inR i.b ∧ inR i.c) ∨
    (i.o = 7 ∧ inR i.a ∧ inR i.b) ∨ (i.o = 8 ∧ inR i.a ∧ inR i.b) ∨ (i.o = 9 ∧ 0 ≤ i.k ∧ i.k < n) ∨ (i.o = 10 ∧ inR i.a ∧ inR i.b ∧ 0 ≤ i.k ∧ i.k < n) ∨ (i.o = 11 ∧ inR i.a ∧ inR i.b ∧ 0 ≤ i.k ∧ i.k < n) := by
  obtain ⟨o, a, b, c, k⟩ := i
  unfold I5.fits fitsB at h
  simp only [Bool.and_eq_true, decide_eq_true_eq] at h
  obtain ⟨⟨⟨⟨⟨h0, h1⟩, ha⟩, hb⟩, hc⟩, hk⟩ := h
  have : o = 0 ∨ o = 1 ∨ o = 2 ∨ o = 3 ∨ o = 4 ∨ o = 5 ∨ o = 6 ∨ o = 7 ∨ o = 8 ∨ o = 9 ∨ o = 10 ∨ o = 11 := by omega
  unfold inR
  rcases this with rfl | rfl | rfl | rfl | rfl | rfl | rfl | rfl | rfl | rfl | rfl | rfl <;> simp [regOk, kOk, nregs, kbytes] at ha hb hc hk ⊢ <;> omega
theorem inR.nat {a : Int} (h : inR a) : ∃ n : Nat, n < 8 ∧ a = n := ⟨a.toNat, by have := h.1; have := h.2; omega, by have := h.1; omega⟩
def insAt (p : List I5) (pc : Nat) : I5 := (p[pc]?).getD ⟨0, 0, 0, 0, 0⟩
theorem insAt_get {p : List I5} {pc : Nat} (h : pc < p.length) : insAt p pc = p[pc] := by unfold insAt; rw [List.getElem?_eq_getElem h]; rfl
/-- a program's instructions lie in block pb -/
def ProgAt (w : World) (pb : Nat) (vf : I5 → Value) (l : List I5) : Prop := pb < w.heap.size ∧ ∀ pc, pc < l.length → w.cell? ⟨pb, pc, none⟩ = some (vf (insAt l pc))
theorem ProgAt.bel {w w' : World} {pb B : Nat} {vf : I5 → Value} {l : List I5} (h : ProgAt w pb vf l) (hb : Below B w w') (hB : pb < B) : ProgAt w' pb vf l :=
  ⟨Nat.lt_of_lt_of_le h.1 hb.size, fun pc hpc => by rw [hb.cell (p := ⟨pb, pc, none⟩) hB]; exact h.2 pc hpc⟩
theorem ProgAt.but {w w' : World} {pb g : Nat} {vf : I5 → Value} {l : List I5} (h : ProgAt w pb vf l) (hb : But g w w') (hne : pb ≠ g) : ProgAt w' pb vf l :=
  ⟨Nat.lt_of_lt_of_le h.1 hb.size, fun pc hpc => by rw [World.cell?_of_block (w := w) (a := ⟨pb, pc, none⟩) (hb.block pb h.1 hne)]; exact h.2 pc hpc⟩
/-- every instruction may stand there -/
def AllFit (p : List I5) : Prop := 0 < p.length ∧ p.length ≤ 64 ∧ ∀ i (h : i < p.length), p[i].fits p.length = true
theorem AllFit.k {p : List I5} (h : AllFit p) {pc : Nat} (hpc : pc < p.length) (h9 : 9 ≤ (insAt p pc).o) : 0 ≤ (insAt p pc).k ∧ (insAt p pc).k.toNat < p.length := by
  rw [insAt_get hpc] at *
  rcases fit_cases (h.2.2 pc hpc) with h | ⟨h, _⟩ | ⟨h, _⟩ | ⟨h, _⟩ | ⟨h, _⟩ | ⟨h, _⟩ | ⟨h, _⟩ | ⟨h, _⟩ | ⟨h, _⟩ | ⟨_, h⟩ | ⟨_, _, _, h⟩ | ⟨_, _, _, h⟩
  all_goals omega
end Go.Proofs.YtamiichlbmllcaaGreatDoor
/-
  The contract of (*machine.machine).step, for every instruction that may stand in a program.
-/
namespace Go.Proofs.YtamiichlbmllcaaGreatDoor
open Go.RowKit
set_option maxHeartbeats 1000000 in
theorem step_any (i : I5) (g pb cap n : Nat) (s : MS) (F : Int) (o : O4) (w : World) (h : MRow w g (.slice (some ⟨pb, 0, none⟩) n cap) s F o) (hp : s.pc < n) (hn64 : n ≤ 64) (hn : s.n < 1000000)
    (hi : w.cell? ⟨pb, s.pc, none⟩ = some (iVal i)) (hpg : pb ≠ g) (hfit : i.fits n = true) :
    Calls Tryz.prog 70 #[.pointer (some ⟨g, 0, none⟩)] w fun e w' => e = .returned (.tuple #[]) ∧ MRow w' g (.slice (some ⟨pb, 0, none⟩) n cap) (doI i (nxt s)).2 F (outO (doI i (nxt s)).1 s.pc (doI i (nxt s)).2 o) ∧ But g w w' := by
  have hc := fit_cases hfit
  obtain ⟨op, a, b, c, k⟩ := i
  simp only at hc
  rcases hc with rfl | ⟨rfl, ha⟩ | ⟨rfl, ha, hb⟩ | ⟨rfl, ha, hb, hc⟩ | ⟨rfl, ha, hb, hc⟩ | ⟨rfl, ha, hb, hc⟩ | ⟨rfl, ha, hb, hc⟩ | ⟨rfl, ha, hb⟩ | ⟨rfl, ha, hb⟩ | ⟨rfl, hk0, hk1⟩ | ⟨rfl, ha, hb, hk0, hk1⟩ | ⟨rfl, ha, hb, hk0, hk1⟩
  · exact step_gen 199 204 (.agg #[]) 1 _ g pb cap n s F o w h hp hn64 hn hi hpg (fun _ => by kernel_rfl) (fun _ => by kernel_rfl) (hide fun w1 h1 => (halt_do g w1).mono fun e w' ⟨he, hb⟩ => ⟨he, h1.bel hb, But.ofBelow hb⟩)
  · obtain ⟨a, ha', rfl⟩ := ha.nat
    replace ha := ha'
    exact step_gen 183 162 (.agg #[.int .i64 a, .int .i64 k]) 0 _ g pb cap n s F o w h hp hn64 hn hi hpg (fun _ => by kernel_rfl) (fun _ => by kernel_rfl) (hide fun w1 h1 => set_do a k ha g _ _ F o w1 h1)
  · obtain ⟨a, ha', rfl⟩ := ha.nat
    replace ha := ha'
    obtain ⟨b, hb', rfl⟩ := hb.nat
    replace hb := hb'
    exact step_gen 185 167 (.agg #[.int .i64 a, .int .i64 b]) 0 _ g pb cap n s F o w h hp hn64 hn hi hpg (fun _ => by kernel_rfl) (fun _ => by kernel_rfl) (hide fun w1 h1 => move_do a b ha hb g _ _ F o w1 h1)
  · obtain ⟨a, ha', rfl⟩ := ha.nat
    replace ha := ha'
    obtain ⟨b, hb', rfl⟩ := hb.nat
    replace hb := hb'
    obtain ⟨c, hc', rfl⟩ := hc.nat
    replace hc := hc'
    exact step_gen 187 169 (.agg #[.int .i64 a, .int .i64 b, .int .i64 c]) 0 _ g pb cap n s F o w h hp hn64 hn hi hpg (fun _ => by kernel_rfl) (fun _ => by kernel_rfl) (hide fun w1 h1 => add_do a b c ha hb hc g _ _ F o w1 h1)
  · obtain ⟨a, ha', rfl⟩ := ha.nat
    replace ha := ha'
    obtain ⟨b, hb', rfl⟩ := hb.nat
    replace hb := hb'
    obtain ⟨c, hc', rfl⟩ := hc.nat
    replace hc := hc'
    exact step_gen 188 180 (.agg #[.int .i64 a, .int .i64 b, .int .i64 c]) 0 _ g pb cap n s F o w h hp hn64 hn hi hpg (fun _ => by kernel_rfl) (fun _ => by kernel_rfl) (hide fun w1 h1 => sub_do a b c ha hb hc g _ _ F o w1 h1)
  · obtain ⟨a, ha', rfl⟩ := ha.nat
    replace ha := ha'
    obtain ⟨b, hb', rfl⟩ := hb.nat
    replace hb := hb'
    obtain ⟨c, hc', rfl⟩ := hc.nat
    replace hc := hc'
    exact step_gen 189 184 (.agg #[.int .i64 a, .int .i64 b, .int .i64 c]) 0 _ g pb cap n s F o w h hp hn64 hn hi hpg (fun _ => by kernel_rfl) (fun _ => by kernel_rfl) (hide fun w1 h1 => mul_do a b c ha hb hc g _ _ F o w1 h1)
  · obtain ⟨a, ha', rfl⟩ := ha.nat
    replace ha := ha'
    obtain ⟨b, hb', rfl⟩ := hb.nat
    replace hb := hb'
    obtain ⟨c, hc', rfl⟩ := hc.nat
    replace hc := hc'
    by_cases hz : (nxt s).r c = 0
    · have hd : doI ⟨6, a, b, c, k⟩ (nxt s) = (3, nxt s) := by unfold doI; simp; exact hz
      rw [hd]
      exact step_gen 190 188 (.agg #[.int .i64 a, .int .i64 b, .int .i64 c]) 3 _ g pb cap n s F o w h hp hn64 hn hi hpg (fun _ => by kernel_rfl) (fun _ => by kernel_rfl) (hide fun w1 h1 => div_zero a b c hc g _ _ F o w1 h1 (by simpa using hz))
    · have hd : doI ⟨6, a, b, c, k⟩ (nxt s) = (0, { nxt s with r := upd (nxt s).r a (wrap64 (((nxt s).r b).tdiv ((nxt s).r c))) }) := by unfold doI; simp; intro h; exact absurd h hz
      rw [hd]
      exact step_gen 190 188 (.agg #[.int .i64 a, .int .i64 b, .int .i64 c]) 0 _ g pb cap n s F o w h hp hn64 hn hi hpg (fun _ => by kernel_rfl) (fun _ => by kernel_rfl) (hide fun w1 h1 => div_do a b c ha hb hc g _ _ F o w1 h1 (by simpa using hz))
  · obtain ⟨a, ha', rfl⟩ := ha.nat
    replace ha := ha'
    obtain ⟨b, hb', rfl⟩ := hb.nat
    replace hb := hb'
    by_cases hz : 0 ≤ (nxt s).r b ∧ (nxt s).r b < 16
    · have hd : doI ⟨7, a, b, c, k⟩ (nxt s) = (0, { nxt s with r := upd (nxt s).r a ((nxt s).m ((nxt s).r b).toNat) }) := by unfold doI; simp; exact hz
      rw [hd]
      exact step_gen 191 191 (.agg #[.int .i64 a, .int .i64 b]) 0 _ g pb cap n s F o w h hp hn64 hn hi hpg (fun _ => by kernel_rfl) (fun _ => by kernel_rfl) (hide fun w1 h1 => load_do a b ((nxt s).r b).toNat ha hb (by omega) g _ _ F o w1 h1 (hide (by omega)))
    · have hd : doI ⟨7, a, b, c, k⟩ (nxt s) = (4, nxt s) := by unfold doI; simp; intro h; omega
      rw [hd]
      exact step_gen 191 191 (.agg #[.int .i64 a, .int .i64 b]) 4 _ g pb cap n s F o w h hp hn64 hn hi hpg (fun _ => by kernel_rfl) (fun _ => by kernel_rfl) (hide fun w1 h1 => load_bad a b hb g _ _ F o w1 h1 (by simpa using hz))
  · obtain ⟨a, ha', rfl⟩ := ha.nat
    replace ha := ha'
    obtain ⟨b, hb', rfl⟩ := hb.nat
    replace hb := hb'
    by_cases hz : 0 ≤ (nxt s).r a ∧ (nxt s).r a < 16
    · have hd : doI ⟨8, a, b, c, k⟩ (nxt s) = (0, { nxt s with m := upd (nxt s).m ((nxt s).r a).toNat ((nxt s).r b) }) := by unfold doI; simp; exact hz
      rw [hd]
      exact step_gen 192 194 (.agg #[.int .i64 a, .int .i64 b]) 0 _ g pb cap n s F o w h hp hn64 hn hi hpg (fun _ => by kernel_rfl) (fun _ => by kernel_rfl) (hide fun w1 h1 => store_do a b ((nxt s).r a).toNat ha hb (by omega) g _ _ F o w1 h1 (hide (by omega)))
    · have hd : doI ⟨8, a, b, c, k⟩ (nxt s) = (4, nxt s) := by unfold doI; simp; intro h; omega
      rw [hd]
      exact step_gen 192 194 (.agg #[.int .i64 a, .int .i64 b]) 4 _ g pb cap n s F o w h hp hn64 hn hi hpg (fun _ => by kernel_rfl) (fun _ => by kernel_rfl) (hide fun w1 h1 => store_bad a b ha g _ _ F o w1 h1 (by simpa using hz))
  · obtain ⟨k, rfl⟩ := Int.eq_ofNat_of_zero_le hk0
    exact step_gen 194 196 (.agg #[.int .i64 k]) 0 _ g pb cap n s F o w h hp hn64 hn hi hpg (fun _ => by kernel_rfl) (fun _ => by kernel_rfl) (hide fun w1 h1 => jump_do k g _ _ F o w1 h1)
  · obtain ⟨a, ha', rfl⟩ := ha.nat
    replace ha := ha'
    obtain ⟨b, hb', rfl⟩ := hb.nat
    replace hb := hb'
    obtain ⟨k, rfl⟩ := Int.eq_ofNat_of_zero_le hk0
    exact step_gen 196 198 (.agg #[.int .i64 a, .int .i64 b, .int .i64 k]) 0 _ g pb cap n s F o w h hp hn64 hn hi hpg (fun _ => by kernel_rfl) (fun _ => by kernel_rfl) (hide fun w1 h1 => less_do a b k ha hb g _ _ F o w1 h1)
  · obtain ⟨a, ha', rfl⟩ := ha.nat
    replace ha := ha'
    obtain ⟨b, hb', rfl⟩ := hb.nat
    replace hb := hb'
    obtain ⟨k, rfl⟩ := Int.eq_ofNat_of_zero_le hk0
    exact step_gen 197 201 (.agg #[.int .i64 a, .int .i64 b, .int .i64 k]) 0 _ g pb cap n s F o w h hp hn64 hn hi hpg (fun _ => by kernel_rfl) (fun _ => by kernel_rfl) (hide fun w1 h1 => same_do a b k ha hb g _ _ F o w1 h1)
end Go.Proofs.YtamiichlbmllcaaGreatDoor
