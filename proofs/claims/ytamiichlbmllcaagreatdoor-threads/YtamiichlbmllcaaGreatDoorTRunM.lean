import Derived.Test.YtamiichlbmllcaaGreatDoorTDo2
import Derived.Test.YtamiichlbmllcaaGreatDoorTChA
import Derived.Deep.RegionHeld3
import Derived.Deep.LoopGhost
/-
  The contracts of 'do' of the instructions that do not look: sureDiv, sureLoad, sureStore.
-/
namespace Go.Proofs.YtamiichlbmllcaaGreatDoor
open Go.RowKit
set_option maxHeartbeats 8000000 in
theorem sdiv_do (a b c : Nat) (ha : a < 8) (hb : b < 8) (hc : c < 8) (g : Nat) (pv : Value) (s : MS) (F : Int) (o : O4) (w : World) (h : MRow w g pv s F o) (hz : (s.r c == 0) = false) :
    Calls Tryz.prog 206 #[.agg #[.int .i64 a, .int .i64 b, .int .i64 c], .pointer (some ⟨g, 0, none⟩)] w fun e w' => e = .returned (.int .i64 0) ∧ MRow w' g pv { s with r := upd s.r a (wrap64 ((s.r b).tdiv (s.r c))) } F o ∧ But g w w' := by
  obtain ⟨c1, f1⟩ := h.reg a ha
  obtain ⟨c2, f2⟩ := h.reg b hb
  obtain ⟨c3, f3⟩ := h.reg c hc
  have hg := RowF.lt h
  have hz2 : ¬ s.r c = 0 := by simpa using hz
  go_enter Tryz.func206, Tryz.ntmps206
  go_wp2_with fail
  go_region
  go_wp2
  go_ret
  exact ⟨rfl, fin2 (h.setReg a ha _) (But.set _ _ _ _) (belAD _ _)⟩
set_option maxHeartbeats 8000000 in
theorem sload_do (a b n : Nat) (ha : a < 8) (hb : b < 8) (hn : n < 16) (g : Nat) (pv : Value) (s : MS) (F : Int) (o : O4) (w : World) (h : MRow w g pv s F o) (hr : Hid (s.r b = n)) :
    Calls Tryz.prog 207 #[.agg #[.int .i64 a, .int .i64 b], .pointer (some ⟨g, 0, none⟩)] w fun e w' => e = .returned (.int .i64 0) ∧ MRow w' g pv { s with r := upd s.r a (s.m n) } F o ∧ But g w w' := by
  obtain ⟨c1, f1⟩ := h.reg a ha
  obtain ⟨c2, f2⟩ := h.reg b hb
  rw [hr.out] at c2
  obtain ⟨c3, f3⟩ := h.word n hn
  have hg := RowF.lt h
  go_enter Tryz.func207, Tryz.ntmps207
  go_wp2_with fail
  go_region
  go_wp2
  go_ret
  exact ⟨rfl, fin2 (h.setReg a ha _) (But.set _ _ _ _) (belAD _ _)⟩
set_option maxHeartbeats 8000000 in
theorem sstore_do (a b n : Nat) (ha : a < 8) (hb : b < 8) (hn : n < 16) (g : Nat) (pv : Value) (s : MS) (F : Int) (o : O4) (w : World) (h : MRow w g pv s F o) (hr : Hid (s.r a = n)) :
    Calls Tryz.prog 208 #[.agg #[.int .i64 a, .int .i64 b], .pointer (some ⟨g, 0, none⟩)] w fun e w' => e = .returned (.int .i64 0) ∧ MRow w' g pv { s with m := upd s.m n (s.r b) } F o ∧ But g w w' := by
  obtain ⟨c1, f1⟩ := h.reg a ha
  obtain ⟨c2, f2⟩ := h.reg b hb
  rw [hr.out] at c1
  obtain ⟨c3, f3⟩ := h.word n hn
  have hg := RowF.lt h
  by_cases hab : a = b
  · subst hab
    have HR := hide hr.out
    clear c2 f2 hr
    rw [HR.out]
    go_enter Tryz.func208, Tryz.ntmps208
    go_wp2_with fail
    go_region
    go_wp2
    go_ret
    exact ⟨rfl, fin2 (h.setWord n hn _) (But.set _ _ _ _) (belAD _ _)⟩
  · go_enter Tryz.func208, Tryz.ntmps208
    go_wp2_with fail
    go_region
    go_wp2
    go_ret
    exact ⟨rfl, fin2 (h.setWord n hn _) (But.set _ _ _ _) (belAD _ _)⟩
end Go.Proofs.YtamiichlbmllcaaGreatDoor
/-
  The contracts of (*machine.machine).end and isReady.
-/
namespace Go.Proofs.YtamiichlbmllcaaGreatDoor
open Go.RowKit
/-- how a run ends -/
def endO (kd place : Int) (s : MS) : O4 := ⟨kd, place, if kd = 1 then s.r 0 else 0, s.n⟩
theorem MRow.setO {w : World} {g : Nat} {pv : Value} {s : MS} {F : Int} {o : O4} (h : MRow w g pv s F o) (a b c d : Int) : MRow ((((w.setCell ⟨g, 28, none⟩ (.int .i64 a)).setCell ⟨g, 29, none⟩ (.int .i64 b)).setCell ⟨g, 30, none⟩ (.int .i64 c)).setCell ⟨g, 31, none⟩ (.int .i64 d)) g pv s F ⟨a, b, c, d⟩ :=
  (((h.setKind a).setPlace b).setValue c).setSteps d
theorem But.set4 (g : Nat) (w : World) (a b c d : Value) (i j k l : Nat) : But g w ((((w.setCell ⟨g, i, none⟩ a).setCell ⟨g, j, none⟩ b).setCell ⟨g, k, none⟩ c).setCell ⟨g, l, none⟩ d) :=
  (((But.set g w i a).trans (But.set g _ j b)).trans (But.set g _ k c)).trans (But.set g _ l d)
set_option maxHeartbeats 4000000 in
theorem end_any (kd place : Int) (g : Nat) (pv : Value) (s : MS) (F : Int) (o : O4) (w : World) (h : MRow w g pv s F o) :
    Calls Tryz.prog 104 #[.pointer (some ⟨g, 0, none⟩), .int .i64 kd, .int .i64 place] w fun e w' => e = .returned (.tuple #[]) ∧ MRow w' g pv s F (endO kd place s) ∧ But g w w' := by
  obtain ⟨_, _, c26, _, c28, c29, c30, c31⟩ := h.fields
  have f28 := h.free 28
  have f29 := h.free 29
  have f30 := h.free 30
  have f31 := h.free 31
  obtain ⟨r0, _⟩ := h.reg 0 (by omega)
  have hg := RowF.lt h
  by_cases hk : kd = 1
  · have R : Hid (endO kd place s = ⟨kd, place, s.r 0, s.n⟩) := hide (by simp [endO, hk])
    have hq : (kd == 1) = true := by simpa using hk
    clear hk
    go_enter Tryz.func104, Tryz.ntmps104
    go_wp2
    go_end0
    exact ⟨rfl, by rw [R.out]; exact (h.setO kd place 0 s.n).setValue (s.r 0), (But.set4 _ _ _ _ _ _ _ _ _ _).trans (But.set _ _ _ _)⟩
  · have R : Hid (endO kd place s = ⟨kd, place, 0, s.n⟩) := hide (by simp [endO, hk])
    have hq : (kd == 1) = false := by simpa using hk
    clear hk
    go_enter Tryz.func104, Tryz.ntmps104
    go_wp2
    go_end0
    exact ⟨rfl, by rw [R.out]; exact h.setO kd place 0 s.n, But.set4 _ _ _ _ _ _ _ _ _ _⟩
set_option maxHeartbeats 1600000 in
theorem ready_over (g : Nat) (pv : Value) (s : MS) (F : Int) (o : O4) (w : World) (h : MRow w g pv s F o) (hk : (o.kind != 0) = true) :
    Calls Tryz.prog 69 #[.pointer (some ⟨g, 0, none⟩)] w fun e w' => e = .returned (.bool false) ∧ w = w' := by
  obtain ⟨_, _, _, _, c28, _⟩ := h.fields
  go_enter Tryz.func69, Tryz.ntmps69
  go_wp2
  go_ret
  exact ⟨rfl, rfl⟩
set_option maxHeartbeats 1600000 in
theorem ready_end (g : Nat) (a : Option Addr) (n cap : Nat) (s : MS) (F : Int) (o : O4) (w : World) (h : MRow w g (.slice a n cap) s F o) (hk : (o.kind != 0) = false) (hp : ((s.pc : Int) == (n : Int)) = true) :
    Calls Tryz.prog 69 #[.pointer (some ⟨g, 0, none⟩)] w fun e w' => e = .returned (.bool false) ∧ MRow w' g (.slice a n cap) s F (endO 5 s.pc s) ∧ But g w w' := by
  obtain ⟨c0, c25, _, _, c28, _⟩ := h.fields
  have H1 : Hid (MRow w.drew g (.slice a n cap) s F o) := hide h
  go_enter Tryz.func69, Tryz.ntmps69
  go_wp2_with fail
  go_region
  go_wp2_with (go_at_call 104; refine (end_any _ _ g _ s F o _ H1.out).mono ?_; rintro e w2 ⟨rfl, h2, b2⟩)
  go_ret
  exact ⟨rfl, h2, (But.ofBelow ((Below.refl _ _).drew)).trans b2⟩
set_option maxHeartbeats 1600000 in
theorem ready_fuel (g : Nat) (a : Option Addr) (n cap : Nat) (s : MS) (F : Int) (o : O4) (w : World) (h : MRow w g (.slice a n cap) s F o) (hk : (o.kind != 0) = false) (hp : ((s.pc : Int) == (n : Int)) = false) (hf : ((s.n : Int) == F) = true) :
    Calls Tryz.prog 69 #[.pointer (some ⟨g, 0, none⟩)] w fun e w' => e = .returned (.bool false) ∧ MRow w' g (.slice a n cap) s F (endO 2 s.pc s) ∧ But g w w' := by
  obtain ⟨c0, c25, c26, c27, c28, _⟩ := h.fields
  have H1 : Hid (MRow w.drew.drew g (.slice a n cap) s F o) := hide h
  go_enter Tryz.func69, Tryz.ntmps69
  go_wp2_with fail
  go_region
  go_wp2_with fail
  go_region
  go_wp2_with (go_at_call 104; refine (end_any _ _ g _ s F o _ H1.out).mono ?_; rintro e w2 ⟨rfl, h2, b2⟩)
  go_ret
  exact ⟨rfl, h2, (But.ofBelow ((Below.refl _ _).drew.drew)).trans b2⟩
set_option maxHeartbeats 1600000 in
theorem ready_go (g : Nat) (a : Option Addr) (n cap : Nat) (s : MS) (F : Int) (o : O4) (w : World) (h : MRow w g (.slice a n cap) s F o) (hk : (o.kind != 0) = false) (hp : ((s.pc : Int) == (n : Int)) = false) (hf : ((s.n : Int) == F) = false) :
    Calls Tryz.prog 69 #[.pointer (some ⟨g, 0, none⟩)] w fun e w' => e = .returned (.bool true) ∧ Below w.heap.size w w' := by
  obtain ⟨c0, c25, c26, c27, c28, _⟩ := h.fields
  go_enter Tryz.func69, Tryz.ntmps69
  go_wp2_with fail
  go_region
  go_wp2_with fail
  go_region
  go_wp2
  go_ret
  exact ⟨rfl, ((Below.refl _ _).drew.drew)⟩
end Go.Proofs.YtamiichlbmllcaaGreatDoor
/-
  The contract of (*machine.machine).step: one instruction of a right program.
-/
namespace Go.Proofs.YtamiichlbmllcaaGreatDoor
open Go.RowKit
/-- behind an instruction -/
def nxt (s : MS) : MS := { s with pc := s.pc + 1, n := s.n + 1 }
def outO (kd : Int) (pc : Nat) (s : MS) (o : O4) : O4 := if kd = 0 then o else endO kd pc s
theorem outO_on (pc : Nat) (s : MS) (o : O4) : outO 0 pc s o = o := rfl
theorem MRow.nxt {w : World} {g : Nat} {pv : Value} {s : MS} {F : Int} {o : O4} (h : MRow w g pv s F o) : MRow ((w.setCell ⟨g, 25, none⟩ (.int .i64 ((s.pc : Int) + 1))).setCell ⟨g, 26, none⟩ (.int .i64 ((s.n : Int) + 1))) g pv (nxt s) F o := by
  have := (h.setPc (s.pc + 1)).setN (s.n + 1)
  simpa [Go.Proofs.YtamiichlbmllcaaGreatDoor.nxt] using this
set_option maxHeartbeats 4000000 in
set_option maxRecDepth 100000 in
theorem step_gen (T f : Nat) (v : Value) (kd : Int) (s' : MS) (g pb cap n : Nat) (s : MS) (F : Int) (o : O4) (w : World) (h : MRow w g (.slice (some ⟨pb, 0, none⟩) n cap) s F o) (hp : s.pc < n) (hn64 : n ≤ 64) (hn : s.n < 1000000)
    (hi : w.cell? ⟨pb, s.pc, none⟩ = some (.iface T v)) (hpg : pb ≠ g)
    (hm : ∀ w, (method 367 T v "surety/machine.do").run Tryz.prog w = .ok (f, v) w)
    (hcf : ∀ w, (callFunc f #[v, .pointer (some ⟨g, 0, none⟩)]).run Tryz.prog w = .ok (.enter f #[v, .pointer (some ⟨g, 0, none⟩)]) w)
    (hcall : Hid (∀ w1, MRow w1 g (.slice (some ⟨pb, 0, none⟩) n cap) (nxt s) F o → Calls Tryz.prog f #[v, .pointer (some ⟨g, 0, none⟩)] w1 fun e w' => e = .returned (.int .i64 kd) ∧ MRow w' g (.slice (some ⟨pb, 0, none⟩) n cap) s' F o ∧ But g w1 w')) :
    Calls Tryz.prog 70 #[.pointer (some ⟨g, 0, none⟩)] w fun e w' => e = .returned (.tuple #[]) ∧ MRow w' g (.slice (some ⟨pb, 0, none⟩) n cap) s' F (outO kd s.pc s' o) ∧ But g w w' := by
  obtain ⟨c0, c25, c26, _⟩ := h.fields
  have f25 := h.free 25
  have f26 := h.free 26
  have hg := RowF.lt h
  have H1 := hide h.nxt
  have hp64 : s.pc < 64 := by omega
  go_enter Tryz.func70, Tryz.ntmps70
  go_wp2_with (fail)
  refine (hcall.out _ H1.out).mono ?_
  rintro e w2 ⟨rfl, h2, b2⟩
  have B2 := hide (((But.set g w 25 (.int .i64 ((s.pc : Int) + 1))).trans (But.set g _ 26 (.int .i64 ((s.n : Int) + 1)))).trans b2)
  have H2 := hide h2
  clear b2 h2 c0 c25 c26 f25 f26
  by_cases hk : kd = 0
  · have R : Hid (outO kd s.pc s' o = o) := hide (by unfold outO; rw [if_pos hk])
    have hq : (kd != 0) = false := by simpa using hk
    clear hk
    go_wp2_with (fail)
    go_end0
    exact ⟨rfl, by rw [R.out]; exact H2.out, B2.out⟩
  · have R : Hid (outO kd s.pc s' o = endO kd s.pc s') := hide (by unfold outO; rw [if_neg hk])
    have hq : (kd != 0) = true := by simpa using hk
    clear hk
    go_wp2_with (go_at_call 104; refine (end_any _ _ g _ s' F o _ H2.out).mono ?_; rintro e w3 ⟨rfl, h3, b3⟩; have H3 := hide h3; have B3 := hide b3; clear h3 b3)
    go_end0
    exact ⟨rfl, by rw [R.out]; exact H3.out, B2.out.trans B3.out⟩
end Go.Proofs.YtamiichlbmllcaaGreatDoor
/-
  The contract of (*machine.machine).step, for every instruction that may stand in a program.
-/
namespace Go.Proofs.YtamiichlbmllcaaGreatDoor
open Go.RowKit
set_option maxHeartbeats 4000000 in
theorem step_any (i : I5) (g pb cap n : Nat) (s : MS) (F : Int) (o : O4) (w : World) (h : MRow w g (.slice (some ⟨pb, 0, none⟩) n cap) s F o) (hp : s.pc < n) (hn64 : n ≤ 64) (hn : s.n < 1000000)
    (hi : w.cell? ⟨pb, s.pc, none⟩ = some (iVal i)) (hpg : pb ≠ g) (hfit : i.fits n = true) :
    Calls Tryz.prog 70 #[.pointer (some ⟨g, 0, none⟩)] w fun e w' => e = .returned (.tuple #[]) ∧ MRow w' g (.slice (some ⟨pb, 0, none⟩) n cap) (doI i (nxt s)).2 F (outO (doI i (nxt s)).1 s.pc (doI i (nxt s)).2 o) ∧ But g w w' := by
  have hc := fit_cases hfit
  obtain ⟨op, a, b, c, k⟩ := i
  simp only at hc
  rcases hc with rfl | ⟨rfl, ha⟩ | ⟨rfl, ha, hb⟩ | ⟨rfl, ha, hb, hc⟩ | ⟨rfl, ha, hb, hc⟩ | ⟨rfl, ha, hb, hc⟩ | ⟨rfl, ha, hb, hc⟩ | ⟨rfl, ha, hb⟩ | ⟨rfl, ha, hb⟩ | ⟨rfl, hk0, hk1⟩ | ⟨rfl, ha, hb, hk0, hk1⟩ | ⟨rfl, ha, hb, hk0, hk1⟩
  · exact step_gen 199 204 (.agg #[]) 1 _ g pb cap n s F o w h hp hn64 hn hi hpg (fun _ => by kernel_rfl) (fun _ => by kernel_rfl) (hide fun w1 h1 => (halt_do g w1).mono fun e w' ⟨he, hb⟩ => ⟨he, h1.bel hb, But.ofBelow hb⟩)
  · obtain ⟨a, ha', rfl⟩ := ha.nat
    replace ha := ha'
    exact step_gen 183 162 (.agg #[.int .i64 a, .int .i64 k]) 0 _ g pb cap n s F o w h hp hn64 hn hi hpg (fun _ => by kernel_rfl) (fun _ => by kernel_rfl) (hide fun w1 h1 => set_do a k ha g _ _ F o w1 h1)
  · obtain ⟨a, ha', rfl⟩ := ha.nat
    replace ha := ha'
    obtain ⟨b, hb', rfl⟩ := hb.nat
    replace hb := hb'
    exact step_gen 185 167 (.agg #[.int .i64 a, .int .i64 b]) 0 _ g pb cap n s F o w h hp hn64 hn hi hpg (fun _ => by kernel_rfl) (fun _ => by kernel_rfl) (hide fun w1 h1 => move_do a b ha hb g _ _ F o w1 h1)
  · obtain ⟨a, ha', rfl⟩ := ha.nat
    replace ha := ha'
    obtain ⟨b, hb', rfl⟩ := hb.nat
    replace hb := hb'
    obtain ⟨c, hc', rfl⟩ := hc.nat
    replace hc := hc'
    exact step_gen 187 169 (.agg #[.int .i64 a, .int .i64 b, .int .i64 c]) 0 _ g pb cap n s F o w h hp hn64 hn hi hpg (fun _ => by kernel_rfl) (fun _ => by kernel_rfl) (hide fun w1 h1 => add_do a b c ha hb hc g _ _ F o w1 h1)
  · obtain ⟨a, ha', rfl⟩ := ha.nat
    replace ha := ha'
    obtain ⟨b, hb', rfl⟩ := hb.nat
    replace hb := hb'
    obtain ⟨c, hc', rfl⟩ := hc.nat
    replace hc := hc'
    exact step_gen 188 180 (.agg #[.int .i64 a, .int .i64 b, .int .i64 c]) 0 _ g pb cap n s F o w h hp hn64 hn hi hpg (fun _ => by kernel_rfl) (fun _ => by kernel_rfl) (hide fun w1 h1 => sub_do a b c ha hb hc g _ _ F o w1 h1)
  · obtain ⟨a, ha', rfl⟩ := ha.nat
    replace ha := ha'
    obtain ⟨b, hb', rfl⟩ := hb.nat
    replace hb := hb'
    obtain ⟨c, hc', rfl⟩ := hc.nat
    replace hc := hc'
    exact step_gen 189 184 (.agg #[.int .i64 a, .int .i64 b, .int .i64 c]) 0 _ g pb cap n s F o w h hp hn64 hn hi hpg (fun _ => by kernel_rfl) (fun _ => by kernel_rfl) (hide fun w1 h1 => mul_do a b c ha hb hc g _ _ F o w1 h1)
  · obtain ⟨a, ha', rfl⟩ := ha.nat
    replace ha := ha'
    obtain ⟨b, hb', rfl⟩ := hb.nat
    replace hb := hb'
    obtain ⟨c, hc', rfl⟩ := hc.nat
    replace hc := hc'
    by_cases hz : (nxt s).r c = 0
    · have hd : doI ⟨6, a, b, c, k⟩ (nxt s) = (3, nxt s) := by unfold doI; simp; exact hz
      rw [hd]
      exact step_gen 190 188 (.agg #[.int .i64 a, .int .i64 b, .int .i64 c]) 3 _ g pb cap n s F o w h hp hn64 hn hi hpg (fun _ => by kernel_rfl) (fun _ => by kernel_rfl) (hide fun w1 h1 => div_zero a b c hc g _ _ F o w1 h1 (by simpa using hz))
    · have hd : doI ⟨6, a, b, c, k⟩ (nxt s) = (0, { nxt s with r := upd (nxt s).r a (wrap64 (((nxt s).r b).tdiv ((nxt s).r c))) }) := by unfold doI; simp; intro h; exact absurd h hz
      rw [hd]
      exact step_gen 190 188 (.agg #[.int .i64 a, .int .i64 b, .int .i64 c]) 0 _ g pb cap n s F o w h hp hn64 hn hi hpg (fun _ => by kernel_rfl) (fun _ => by kernel_rfl) (hide fun w1 h1 => div_do a b c ha hb hc g _ _ F o w1 h1 (by simpa using hz))
  · obtain ⟨a, ha', rfl⟩ := ha.nat
    replace ha := ha'
    obtain ⟨b, hb', rfl⟩ := hb.nat
    replace hb := hb'
    by_cases hz : 0 ≤ (nxt s).r b ∧ (nxt s).r b < 16
    · have hd : doI ⟨7, a, b, c, k⟩ (nxt s) = (0, { nxt s with r := upd (nxt s).r a ((nxt s).m ((nxt s).r b).toNat) }) := by unfold doI; simp; exact hz
      rw [hd]
      exact step_gen 191 191 (.agg #[.int .i64 a, .int .i64 b]) 0 _ g pb cap n s F o w h hp hn64 hn hi hpg (fun _ => by kernel_rfl) (fun _ => by kernel_rfl) (hide fun w1 h1 => load_do a b ((nxt s).r b).toNat ha hb (by omega) g _ _ F o w1 h1 (hide (by omega)))
    · have hd : doI ⟨7, a, b, c, k⟩ (nxt s) = (4, nxt s) := by unfold doI; simp; intro h; omega
      rw [hd]
      exact step_gen 191 191 (.agg #[.int .i64 a, .int .i64 b]) 4 _ g pb cap n s F o w h hp hn64 hn hi hpg (fun _ => by kernel_rfl) (fun _ => by kernel_rfl) (hide fun w1 h1 => load_bad a b hb g _ _ F o w1 h1 (by simpa using hz))
  · obtain ⟨a, ha', rfl⟩ := ha.nat
    replace ha := ha'
    obtain ⟨b, hb', rfl⟩ := hb.nat
    replace hb := hb'
    by_cases hz : 0 ≤ (nxt s).r a ∧ (nxt s).r a < 16
    · have hd : doI ⟨8, a, b, c, k⟩ (nxt s) = (0, { nxt s with m := upd (nxt s).m ((nxt s).r a).toNat ((nxt s).r b) }) := by unfold doI; simp; exact hz
      rw [hd]
      exact step_gen 192 194 (.agg #[.int .i64 a, .int .i64 b]) 0 _ g pb cap n s F o w h hp hn64 hn hi hpg (fun _ => by kernel_rfl) (fun _ => by kernel_rfl) (hide fun w1 h1 => store_do a b ((nxt s).r a).toNat ha hb (by omega) g _ _ F o w1 h1 (hide (by omega)))
    · have hd : doI ⟨8, a, b, c, k⟩ (nxt s) = (4, nxt s) := by unfold doI; simp; intro h; omega
      rw [hd]
      exact step_gen 192 194 (.agg #[.int .i64 a, .int .i64 b]) 4 _ g pb cap n s F o w h hp hn64 hn hi hpg (fun _ => by kernel_rfl) (fun _ => by kernel_rfl) (hide fun w1 h1 => store_bad a b ha g _ _ F o w1 h1 (by simpa using hz))
  · obtain ⟨k, rfl⟩ := Int.eq_ofNat_of_zero_le hk0
    exact step_gen 194 196 (.agg #[.int .i64 k]) 0 _ g pb cap n s F o w h hp hn64 hn hi hpg (fun _ => by kernel_rfl) (fun _ => by kernel_rfl) (hide fun w1 h1 => jump_do k g _ _ F o w1 h1)
  · obtain ⟨a, ha', rfl⟩ := ha.nat
    replace ha := ha'
    obtain ⟨b, hb', rfl⟩ := hb.nat
    replace hb := hb'
    obtain ⟨k, rfl⟩ := Int.eq_ofNat_of_zero_le hk0
    exact step_gen 196 198 (.agg #[.int .i64 a, .int .i64 b, .int .i64 k]) 0 _ g pb cap n s F o w h hp hn64 hn hi hpg (fun _ => by kernel_rfl) (fun _ => by kernel_rfl) (hide fun w1 h1 => less_do a b k ha hb g _ _ F o w1 h1)
  · obtain ⟨a, ha', rfl⟩ := ha.nat
    replace ha := ha'
    obtain ⟨b, hb', rfl⟩ := hb.nat
    replace hb := hb'
    obtain ⟨k, rfl⟩ := Int.eq_ofNat_of_zero_le hk0
    exact step_gen 197 201 (.agg #[.int .i64 a, .int .i64 b, .int .i64 k]) 0 _ g pb cap n s F o w h hp hn64 hn hi hpg (fun _ => by kernel_rfl) (fun _ => by kernel_rfl) (hide fun w1 h1 => same_do a b k ha hb g _ _ F o w1 h1)
end Go.Proofs.YtamiichlbmllcaaGreatDoor
/-
  The contract of machine.start.
-/
namespace Go.Proofs.YtamiichlbmllcaaGreatDoor
open Go.RowKit
def regsV (r : Nat → Int) : Value := .agg #[.int .i64 (r 0), .int .i64 (r 1), .int .i64 (r 2), .int .i64 (r 3), .int .i64 (r 4), .int .i64 (r 5), .int .i64 (r 6), .int .i64 (r 7)]
def fuelI (f : Int) : Int := min (max f 0) 10000
def zeroW : Nat → Int := fun _ => 0
def startS (r : Nat → Int) : MS := ⟨r, zeroW, 0, 0⟩
def StartP (w : World) (pb cap : Nat) (n : Nat) (r : Nat → Int) (f : Int) (e : Ending) (w' : World) : Prop :=
  ∃ g, e = .returned (.pointer (some ⟨g, 0, none⟩)) ∧ MRow w' g (.slice (some ⟨pb, 0, none⟩) n cap) (startS r) (fuelI f) O4.zero ∧ w.heap.size ≤ g ∧ Below w.heap.size w w'
theorem own_low {w : World} {B B' e size n : Nat} {v : Value} {xs : List Value} (h : w.ownsRow B e size v n xs) (hB : B' ≤ B) : w.ownsRow B' e size v n xs := by
  refine ⟨h.1, ?_⟩
  rcases h.2 with h2 | ⟨g, cap, cur, h3, h4, h5⟩
  · exact Or.inl h2
  · exact Or.inr ⟨g, cap, cur, h3, by omega, h5⟩
theorem own_shape {w : World} {B e size n : Nat} {v : Value} {xs : List Value} (h : w.ownsRow B e size v n xs) (hn : 0 < n) : ∃ b c, v = .slice (some ⟨b, 0, none⟩) n c ∧ B ≤ b ∧ b < w.heap.size := by
  rcases h.2 with ⟨_, h2⟩ | ⟨g, cap, cur, h1, h2, h3, _⟩
  · omega
  · exact ⟨_, _, h1, h2, lt_of_block h3⟩
theorem rbox {w1 : World} {N : Nat} {r : Nat → Int} {T : TypeId} (hH : w1.heap[N]? = some (.cells #[.int .i64 (r 0), .int .i64 (r 1), .int .i64 (r 2), .int .i64 (r 3), .int .i64 (r 4), .int .i64 (r 5), .int .i64 (r 6), .int .i64 (r 7)] T (0, 0))) :
    w1.cell? ⟨N, 0, none⟩ = some (.int .i64 (r 0)) ∧ w1.cell? ⟨N, 1, none⟩ = some (.int .i64 (r 1)) ∧ w1.cell? ⟨N, 2, none⟩ = some (.int .i64 (r 2)) ∧ w1.cell? ⟨N, 3, none⟩ = some (.int .i64 (r 3)) ∧ w1.cell? ⟨N, 4, none⟩ = some (.int .i64 (r 4)) ∧ w1.cell? ⟨N, 5, none⟩ = some (.int .i64 (r 5)) ∧ w1.cell? ⟨N, 6, none⟩ = some (.int .i64 (r 6)) ∧ w1.cell? ⟨N, 7, none⟩ = some (.int .i64 (r 7)) := by
  refine ⟨?_, ?_, ?_, ?_, ?_, ?_, ?_, ?_⟩ <;> rw [cell_of_row _ _ _ _ _ _ hH] <;> rfl
theorem mrow_new (w : World) (pv : Value) (r : Nat → Int) (F : Int) : MRow (w.alloc (.cells #[pv, .int .i64 (r 0), .int .i64 (r 1), .int .i64 (r 2), .int .i64 (r 3), .int .i64 (r 4), .int .i64 (r 5), .int .i64 (r 6), .int .i64 (r 7), .int .i64 0, .int .i64 0, .int .i64 0, .int .i64 0, .int .i64 0, .int .i64 0, .int .i64 0, .int .i64 0, .int .i64 0, .int .i64 0, .int .i64 0, .int .i64 0, .int .i64 0, .int .i64 0, .int .i64 0, .int .i64 0, .int .i64 0, .int .i64 0, .int .i64 F, .int .i64 0, .int .i64 0, .int .i64 0, .int .i64 0] 130)) w.heap.size pv (startS r) F O4.zero := by
  refine ⟨_, heap_alloc_new _ _, rfl, fun j hj => ?_⟩
  match j, hj with
  | 0, _ => rfl
  | 1, _ => rfl
  | 2, _ => rfl
  | 3, _ => rfl
  | 4, _ => rfl
  | 5, _ => rfl
  | 6, _ => rfl
  | 7, _ => rfl
  | 8, _ => rfl
  | 9, _ => rfl
  | 10, _ => rfl
  | 11, _ => rfl
  | 12, _ => rfl
  | 13, _ => rfl
  | 14, _ => rfl
  | 15, _ => rfl
  | 16, _ => rfl
  | 17, _ => rfl
  | 18, _ => rfl
  | 19, _ => rfl
  | 20, _ => rfl
  | 21, _ => rfl
  | 22, _ => rfl
  | 23, _ => rfl
  | 24, _ => rfl
  | 25, _ => rfl
  | 26, _ => rfl
  | 27, _ => rfl
  | 28, _ => rfl
  | 29, _ => rfl
  | 30, _ => rfl
  | 31, _ => rfl
  | j + 32, h => omega
theorem mrow_new2 {w : World} {g : Nat} (hg : g = w.heap.size) (pv : Value) (r : Nat → Int) (F : Int) : MRow (w.alloc (.cells #[pv, .int .i64 (r 0), .int .i64 (r 1), .int .i64 (r 2), .int .i64 (r 3), .int .i64 (r 4), .int .i64 (r 5), .int .i64 (r 6), .int .i64 (r 7), .int .i64 0, .int .i64 0, .int .i64 0, .int .i64 0, .int .i64 0, .int .i64 0, .int .i64 0, .int .i64 0, .int .i64 0, .int .i64 0, .int .i64 0, .int .i64 0, .int .i64 0, .int .i64 0, .int .i64 0, .int .i64 0, .int .i64 0, .int .i64 0, .int .i64 F, .int .i64 0, .int .i64 0, .int .i64 0, .int .i64 0] 130)) g pv (startS r) F O4.zero := by subst hg; exact mrow_new w pv r F
set_option maxHeartbeats 4000000 in
set_option maxRecDepth 100000 in
theorem start_any (n pb cap : Nat) (r : Nat → Int) (f : Int) (w : World) :
    Calls Tryz.prog 68 #[.slice (some ⟨pb, 0, none⟩) n cap, regsV r, .int .i64 f] w fun e w' => StartP w pb cap n r f e w' := by
  unfold regsV
  have hcase : f < 0 ∨ (0 ≤ f ∧ f ≤ 10000) ∨ 10000 < f := by omega
  rcases hcase with hf | ⟨hf, hf2⟩ | hf
  · have R : Hid (fuelI f = 0) := hide (by unfold fuelI; omega)
    go_enter Tryz.func68, Tryz.ntmps68
    go_wp2
    go_ret
    exact ⟨_, rfl, by rw [R.out]; exact mrow_new2 (by simp) _ r 0, by simp, (belA _ _).alloc (by simp) _⟩
  · have R : Hid (fuelI f = f) := hide (by unfold fuelI; omega)
    go_enter Tryz.func68, Tryz.ntmps68
    go_wp2
    go_ret
    exact ⟨_, rfl, by rw [R.out]; exact mrow_new2 (by simp) _ r f, by simp, (belA _ _).alloc (by simp) _⟩
  · have R : Hid (fuelI f = 10000) := hide (by unfold fuelI; omega)
    go_enter Tryz.func68, Tryz.ntmps68
    go_wp2
    go_ret
    exact ⟨_, rfl, by rw [R.out]; exact mrow_new2 (by simp) _ r 10000, by simp, (belA _ _).alloc (by simp) _⟩
end Go.Proofs.YtamiichlbmllcaaGreatDoor
/-
  A whole run, as a function, and what is come to.
-/
namespace Go.Proofs.YtamiichlbmllcaaGreatDoor
open Go.RowKit
/-- what is come to: where, and the registers -/
structure V9 where
  pc : Nat
  r : Nat → Int
/-- what the instruction at which it stands does -/
def doAt (p : List I5) (s : MS) : Int × MS := doI (insAt p s.pc) (nxt s)
/-- a run with so much fuel left: what is come to, and the outcome -/
def runR (p : List I5) : Nat → MS → List V9 × O4
  | 0, s => if s.pc = p.length then ([], endO 5 s.pc s) else ([], endO 2 s.pc s)
  | k + 1, s => if s.pc = p.length then ([], endO 5 s.pc s) else
    if (doAt p s).1 = 0 then (⟨s.pc, s.r⟩ :: (runR p k (doAt p s).2).1, (runR p k (doAt p s).2).2) else ([⟨s.pc, s.r⟩], endO (doAt p s).1 s.pc (doAt p s).2)
theorem runR_end {p : List I5} {k : Nat} {s : MS} (h : s.pc = p.length) : runR p k s = ([], endO 5 s.pc s) := by
  cases k <;> unfold runR <;> rw [if_pos h]
theorem runR_fuel {p : List I5} {s : MS} (h : s.pc ≠ p.length) : runR p 0 s = ([], endO 2 s.pc s) := by
  unfold runR; rw [if_neg h]
theorem runR_go {p : List I5} {k : Nat} {s : MS} (h : s.pc ≠ p.length) (hd : (doAt p s).1 = 0) : runR p (k + 1) s = (⟨s.pc, s.r⟩ :: (runR p k (doAt p s).2).1, (runR p k (doAt p s).2).2) := by
  rw [runR, if_neg h, if_pos hd]
theorem runR_stop {p : List I5} {k : Nat} {s : MS} (h : s.pc ≠ p.length) (hd : (doAt p s).1 ≠ 0) : runR p (k + 1) s = ([⟨s.pc, s.r⟩], endO (doAt p s).1 s.pc (doAt p s).2) := by
  rw [runR, if_neg h, if_neg hd]
theorem doI_n (i : I5) (s : MS) : (doI i s).2.n = s.n := by
  unfold doI
  by_cases h1 : i.o = 1
  · rw [if_pos h1]
  rw [if_neg h1]
  by_cases h1 : i.o = 2
  · rw [if_pos h1]
  rw [if_neg h1]
  by_cases h1 : i.o = 3
  · rw [if_pos h1]
  rw [if_neg h1]
  by_cases h1 : i.o = 4
  · rw [if_pos h1]
  rw [if_neg h1]
  by_cases h1 : i.o = 5
  · rw [if_pos h1]
  rw [if_neg h1]
  by_cases h1 : i.o = 6
  · rw [if_pos h1]; split <;> rfl
  rw [if_neg h1]
  by_cases h1 : i.o = 7
  · rw [if_pos h1]; split <;> rfl
  rw [if_neg h1]
  by_cases h1 : i.o = 8
  · rw [if_pos h1]; split <;> rfl
  rw [if_neg h1]
  by_cases h1 : i.o = 9
  · rw [if_pos h1]
  rw [if_neg h1]
  by_cases h1 : i.o = 10
  · rw [if_pos h1]; simp only; split <;> rfl
  rw [if_neg h1]
  by_cases h1 : i.o = 11
  · rw [if_pos h1]; simp only; split <;> rfl
  rw [if_neg h1]
theorem doI_pc (i : I5) (s : MS) {N : Nat} (hs : s.pc ≤ N) (hk : 9 ≤ i.o → i.k.toNat ≤ N) : (doI i s).2.pc ≤ N := by
  unfold doI
  by_cases h1 : i.o = 1
  · rw [if_pos h1]; exact hs
  rw [if_neg h1]
  by_cases h1 : i.o = 2
  · rw [if_pos h1]; exact hs
  rw [if_neg h1]
  by_cases h1 : i.o = 3
  · rw [if_pos h1]; exact hs
  rw [if_neg h1]
  by_cases h1 : i.o = 4
  · rw [if_pos h1]; exact hs
  rw [if_neg h1]
  by_cases h1 : i.o = 5
  · rw [if_pos h1]; exact hs
  rw [if_neg h1]
  by_cases h1 : i.o = 6
  · rw [if_pos h1]; split <;> exact hs
  rw [if_neg h1]
  by_cases h1 : i.o = 7
  · rw [if_pos h1]; split <;> exact hs
  rw [if_neg h1]
  by_cases h1 : i.o = 8
  · rw [if_pos h1]; split <;> exact hs
  rw [if_neg h1]
  by_cases h1 : i.o = 9
  · rw [if_pos h1]; exact hk (by omega)
  rw [if_neg h1]
  by_cases h1 : i.o = 10
  · rw [if_pos h1]; simp only; split; exact hk (by omega); exact hs
  rw [if_neg h1]
  by_cases h1 : i.o = 11
  · rw [if_pos h1]; simp only; split; exact hk (by omega); exact hs
  rw [if_neg h1]; exact hs
theorem doAt_pc {p : List I5} (h : AllFit p) {s : MS} (hpc : s.pc < p.length) : (doAt p s).2.pc ≤ p.length :=
  doI_pc _ _ (show s.pc + 1 ≤ p.length by omega) (fun h9 => by have := (h.k hpc h9).2; omega)
theorem doAt_n {p : List I5} {s : MS} : (doAt p s).2.n = s.n + 1 := doI_n _ _
/-- the outcome of a run -/
def runO (p : List I5) (r : Nat → Int) (f : Int) : O4 := (runR p (fuelI f).toNat (startS r)).2
/-- the first hundred that are come to -/
def runV (p : List I5) (r : Nat → Int) (f : Int) : List V9 := (runR p (fuelI f).toNat (startS r)).1.take 100
theorem fuelI_bd (f : Int) : 0 ≤ fuelI f ∧ fuelI f ≤ 10000 := by unfold fuelI; omega
theorem OwnP.cell {w : World} {B b n c : Nat} {l : List I5} (h : OwnP w B (.slice (some ⟨b, 0, none⟩) n c) l) (pc : Nat) (hpc : pc < l.length) : w.cell? ⟨b, pc, none⟩ = some (iVal (insAt l pc)) := by
  have := World.ownsRow.cells h rfl pc (iVal (insAt l pc)) (by rw [List.getElem?_map, List.getElem?_eq_getElem hpc, insAt_get hpc]; rfl)
  have hadd : (⟨b, 0, none⟩ : Addr).add pc = ⟨b, pc, none⟩ := by unfold Addr.add; split <;> simp_all
  rw [hadd] at this
  exact this
theorem OwnP.but {w w' : World} {B b n c g : Nat} {l : List I5} (h : OwnP w B (.slice (some ⟨b, 0, none⟩) n c) l) (hb : But g w w') (hne : b ≠ g) : OwnP w' B (.slice (some ⟨b, 0, none⟩) n c) l := by
  refine ⟨h.1, ?_⟩
  rcases h.2 with h2 | ⟨g2, cap, cur, h3, h4, hh, r⟩
  · exact Or.inl h2
  · simp only [Value.slice.injEq, Option.some.injEq, Addr.mk.injEq, and_true] at h3
    obtain ⟨rfl, rfl, rfl⟩ := h3
    exact Or.inr ⟨b, c, cur, rfl, h4, by rw [hb.block b (lt_of_block hh) hne]; exact hh, r⟩
end Go.Proofs.YtamiichlbmllcaaGreatDoor
/-
  How a program runs, whose instructions do what they should.
-/
namespace Go.Proofs.YtamiichlbmllcaaGreatDoor
open Go.RowKit
/-- instructions, as vf has them, do what they should wherever the machine can be -/
structure Runner (vf : I5 → Value) (l : List I5) (Can : MS → Prop) : Prop where
  fit : AllFit l
  next : ∀ s, Can s → s.pc < l.length → (doAt l s).1 = 0 → Can (doAt l s).2
  step : ∀ (g pb cap : Nat) (s : MS) (F : Int) (w : World), MRow w g (.slice (some ⟨pb, 0, none⟩) l.length cap) s F O4.zero → s.pc < l.length → s.n < 1000000 → w.cell? ⟨pb, s.pc, none⟩ = some (vf (insAt l s.pc)) → pb ≠ g → Can s →
    Calls Tryz.prog 70 #[.pointer (some ⟨g, 0, none⟩)] w fun e w' => e = .returned (.tuple #[]) ∧ MRow w' g (.slice (some ⟨pb, 0, none⟩) l.length cap) (doI (insAt l s.pc) (nxt s)).2 F (outO (doI (insAt l s.pc) (nxt s)).1 s.pc (doI (insAt l s.pc) (nxt s)).2 O4.zero) ∧ But g w w'
theorem runner_plain {l : List I5} (hl : AllFit l) : Runner iVal l (fun _ => True) :=
  ⟨hl, fun _ _ _ _ => trivial, fun g pb cap s F w h hpc hn hc hne _ => step_any (insAt l s.pc) g pb cap l.length s F O4.zero w h hpc hl.2.1 hn hc hne (by rw [insAt_get hpc]; exact hl.2.2 _ hpc)⟩
/-- a machine that runs: so much fuel is left, and this is what will come of it -/
structure Live (vf : I5 → Value) (Can : MS → Prop) (W wr : World) (g pb cap : Nat) (l : List I5) (F : Nat) (res : List V9 × O4) (k : Nat) (s : MS) : Prop where
  row : MRow wr g (.slice (some ⟨pb, 0, none⟩) l.length cap) s F O4.zero
  prog : ProgAt wr pb vf l
  can : Can s
  bel : Below W.heap.size W wr
  hpc : s.pc ≤ l.length
  hk : s.n + k = F
  hres : runR l k s = res
/-- one that has ended -/
structure Over (W wr : World) (g pb cap : Nat) (l : List I5) (F : Nat) (o : O4) : Prop where
  row : ∃ s, MRow wr g (.slice (some ⟨pb, 0, none⟩) l.length cap) s F o
  bel : Below W.heap.size W wr
  hk : o.kind ≠ 0
theorem endO_kind (k p : Int) (s : MS) : (endO k p s).kind = k := rfl
theorem Live.ready {vf : I5 → Value} {Can : MS → Prop} {W wr : World} {g pb cap : Nat} {l : List I5} {F : Nat} {res : List V9 × O4} {k : Nat} {s : MS} (h : Live vf Can W wr g pb cap l F res k s) (hg : W.heap.size ≤ g) :
    (∃ k', k = k' + 1 ∧ s.pc < l.length ∧ Calls Tryz.prog 69 #[.pointer (some ⟨g, 0, none⟩)] wr fun e w' => e = .returned (.bool true) ∧ Live vf Can W w' g pb cap l F res k s ∧ But g wr w') ∨
    (res.1 = [] ∧ Calls Tryz.prog 69 #[.pointer (some ⟨g, 0, none⟩)] wr fun e w' => e = .returned (.bool false) ∧ Over W w' g pb cap l F res.2 ∧ But g wr w') := by
  have hk0 : (O4.zero.kind != 0) = false := rfl
  have hsz := h.bel.size
  by_cases hp : s.pc = l.length
  · right
    have hr := h.hres
    rw [runR_end hp] at hr
    refine ⟨by rw [← hr], (ready_end g _ _ _ s _ _ wr h.row hk0 (by simp; omega)).mono ?_⟩
    rintro e w' ⟨he, h2, b2⟩
    rw [← hr]
    exact ⟨he, ⟨⟨_, h2⟩, h.bel.trans (b2.below hg hsz), by rw [endO_kind]; omega⟩, b2⟩
  · have hpb : ((s.pc : Int) == (l.length : Int)) = false := by rw [beq_eq_false_iff_ne]; omega
    match k, h with
    | 0, h =>
      right
      have hr := h.hres
      rw [runR_fuel hp] at hr
      have hk := h.hk
      refine ⟨by rw [← hr], (ready_fuel g _ _ _ s _ _ wr h.row hk0 hpb (by simp; omega)).mono ?_⟩
      rintro e w' ⟨he, h2, b2⟩
      rw [← hr]
      exact ⟨he, ⟨⟨_, h2⟩, h.bel.trans (b2.below hg hsz), by rw [endO_kind]; omega⟩, b2⟩
    | k + 1, h =>
      left
      have hk := h.hk
      have hpc := h.hpc
      refine ⟨k, rfl, by omega, (ready_go g _ _ _ s _ _ wr h.row hk0 hpb (by rw [beq_eq_false_iff_ne]; omega)).mono ?_⟩
      rintro e w' ⟨he, b2⟩
      exact ⟨he, ⟨h.row.bel b2, h.prog.bel b2 h.prog.1, h.can, h.bel.trans (b2.mono hsz), h.hpc, h.hk, h.hres⟩, But.ofBelow b2⟩
/-- behind a step: it runs on, or it has ended; what was come to -/
def Stepped (vf : I5 → Value) (Can : MS → Prop) (W w' : World) (g pb cap : Nat) (l : List I5) (F : Nat) (res : List V9 × O4) (k : Nat) (s : MS) : Prop :=
  (∃ s' vs, res = (⟨s.pc, s.r⟩ :: vs, res.2) ∧ Live vf Can W w' g pb cap l F (vs, res.2) k s') ∨ (res.1 = [⟨s.pc, s.r⟩] ∧ Over W w' g pb cap l F res.2)
theorem Live.step {vf : I5 → Value} {Can : MS → Prop} {W wr : World} {g pb cap : Nat} {l : List I5} {F : Nat} {res : List V9 × O4} {k : Nat} {s : MS} (h : Live vf Can W wr g pb cap l F res (k + 1) s) (hg : W.heap.size ≤ g) (hne : pb ≠ g) (hN : Runner vf l Can) (hF : F ≤ 10000) (hpc : s.pc < l.length) :
    Calls Tryz.prog 70 #[.pointer (some ⟨g, 0, none⟩)] wr fun e w' => e = .returned (.tuple #[]) ∧ Stepped vf Can W w' g pb cap l F res k s ∧ But g wr w' := by
  have hk := h.hk
  have hsz := h.bel.size
  have hl := hN.fit
  refine (hN.step g pb cap s F wr h.row hpc (by omega) (h.prog.2 s.pc hpc) hne h.can).mono ?_
  rintro e w' ⟨he, h2, b2⟩
  refine ⟨he, ?_, b2⟩
  have hr := h.hres
  by_cases hd : (doAt l s).1 = 0
  · left
    rw [runR_go (by omega) hd] at hr
    refine ⟨(doAt l s).2, (runR l k (doAt l s).2).1, by rw [← hr], ?_, h.prog.but b2 hne, hN.next s h.can hpc hd, h.bel.trans (b2.below hg hsz), doAt_pc hl hpc, by rw [doAt_n]; omega, by rw [← hr]⟩
    have : outO (doI (insAt l s.pc) (nxt s)).1 s.pc (doI (insAt l s.pc) (nxt s)).2 O4.zero = O4.zero := by
      unfold outO; exact if_pos hd
    rw [this] at h2
    exact h2
  · right
    rw [runR_stop (by omega) hd] at hr
    have : outO (doI (insAt l s.pc) (nxt s)).1 s.pc (doI (insAt l s.pc) (nxt s)).2 O4.zero = res.2 := by
      unfold outO; rw [← hr]; exact if_neg hd
    rw [this] at h2
    exact ⟨by rw [← hr], ⟨_, h2⟩, h.bel.trans (b2.below hg hsz), by rw [← hr]; exact hd⟩
theorem Over.ready {W wr : World} {g pb cap : Nat} {l : List I5} {F : Nat} {o : O4} (h : Over W wr g pb cap l F o) :
    Calls Tryz.prog 69 #[.pointer (some ⟨g, 0, none⟩)] wr fun e w' => e = .returned (.bool false) ∧ Over W w' g pb cap l F o ∧ But g wr w' := by
  obtain ⟨⟨s, hr⟩, hb, hk⟩ := h
  refine (ready_over g _ s _ o wr hr (by simpa using hk)).mono ?_
  rintro e w' ⟨he, rfl⟩
  exact ⟨he, ⟨⟨s, hr⟩, hb, hk⟩, But.refl _ _⟩
theorem start_live {vf : I5 → Value} {Can : MS → Prop} {w : World} {l : List I5} {pb cap : Nat} {r : Nat → Int} {f : Int} {e : Ending} {w' : World} (h : StartP w pb cap l.length r f e w') (hp : ProgAt w pb vf l) (hc : Can (startS r)) :
    ∃ g, e = .returned (.pointer (some ⟨g, 0, none⟩)) ∧ w.heap.size ≤ g ∧ pb ≠ g ∧ Live vf Can w w' g pb cap l (fuelI f).toNat (runR l (fuelI f).toNat (startS r)) (fuelI f).toNat (startS r) := by
  obtain ⟨g, he, hr, hg, hb⟩ := h
  have := hp.1
  refine ⟨g, he, hg, by omega, ?_, hp.bel hb hp.1, hc, hb, Nat.zero_le _, Nat.zero_add _, rfl⟩
  rw [Int.toNat_of_nonneg (fuelI_bd f).1]
  exact hr
theorem Live.keep {vf : I5 → Value} {Can : MS → Prop} {W wr w' : World} {g pb cap : Nat} {l : List I5} {F : Nat} {res : List V9 × O4} {k B : Nat} {s : MS} (h : Live vf Can W wr g pb cap l F res k s) (hb : Below B wr w') (hg : g < B) (hp : pb < B) (hW : W.heap.size ≤ B) : Live vf Can W w' g pb cap l F res k s :=
  ⟨RowF.block h.row (hb.block g hg), h.prog.bel hb hp, h.can, h.bel.trans (hb.mono hW), h.hpc, h.hk, h.hres⟩
end Go.Proofs.YtamiichlbmllcaaGreatDoor
