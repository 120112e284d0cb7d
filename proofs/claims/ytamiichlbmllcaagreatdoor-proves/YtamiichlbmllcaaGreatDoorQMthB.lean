import Derived.Test.YtamiichlbmllcaaGreatDoorQDo2
import Derived.Test.YtamiichlbmllcaaGreatDoorQChA
import Derived.Deep.RegionHeld3
import Derived.Test.YtamiichlbmllcaaGreatDoorQRfJ
/-
  The contracts of (*machine.machine).end and isReady.
-/
namespace Go.Proofs.YtamiichlbmllcaaGreatDoor
open Go.RowKit
/-- how a run ends -/
def endO (kd place : Int) (s : MS) : O4 := ⟨kd, place, if kd = 1 then s.r 0 else 0, s.n⟩
theorem MRow.setO {w : World} {g : Nat} {pv : Value} {s : MS} {F : Int} {o : O4} (h : MRow w g pv s F o) (a b c d : Int) : MRow ((((w.setCell ⟨g, 28, none⟩ (.int .i64 a)).setCell ⟨g, 29, none⟩ (.int .i64 b)).setCell ⟨g, 30, none⟩ (.int .i64 c)).setCell ⟨g, 31, none⟩ (.int .i64 d)) g pv s F ⟨a, b, c, d⟩ :=
  (((h.setKind a).setPlace b).setValue c).setSteps d
theorem But.set4 (g : Nat) (w : World) (a b c d : Value) (i j k l : Nat) : But g w ((((w.setCell ⟨g, i, none⟩ a).setCell ⟨g, j, none⟩ b).setCell ⟨g, k, none⟩ c).setCell ⟨g, l, none⟩ d) :=
  (((But.set g w i a).trans (But.set g _ j b)).trans (But.set g _ k c)).trans (But.set g _ l d)
set_option maxHeartbeats 4000000 in
theorem end_any (kd place : Int) (g : Nat) (pv : Value) (s : MS) (F : Int) (o : O4) (w : World) (h : MRow w g pv s F o) :
    Calls Tryz.prog 104 #[.pointer (some ⟨g, 0, none⟩), .int .i64 kd, .int .i64 place] w fun e w' => e = .returned (.tuple #[]) ∧ MRow w' g pv s F (endO kd place s) ∧ But g w w' := by
  obtain ⟨_, _, c26, _, c28, c29, c30, c31⟩ := h.fields
  have f28 := h.free 28
  have f29 := h.free 29
  have f30 := h.free 30
  have f31 := h.free 31
  obtain ⟨r0, _⟩ := h.reg 0 (by omega)
  have hg := RowF.lt h
  by_cases hk : kd = 1
  · have R : Hid (endO kd place s = ⟨kd, place, s.r 0, s.n⟩) := hide (by simp [endO, hk])
    have hq : (kd == 1) = true := by simpa using hk
    clear hk
    go_enter Tryz.func104, Tryz.ntmps104
    go_wp2
    go_end0
    exact ⟨rfl, by rw [R.out]; exact (h.setO kd place 0 s.n).setValue (s.r 0), (But.set4 _ _ _ _ _ _ _ _ _ _).trans (But.set _ _ _ _)⟩
  · have R : Hid (endO kd place s = ⟨kd, place, 0, s.n⟩) := hide (by simp [endO, hk])
    have hq : (kd == 1) = false := by simpa using hk
    clear hk
    go_enter Tryz.func104, Tryz.ntmps104
    go_wp2
    go_end0
    exact ⟨rfl, by rw [R.out]; exact h.setO kd place 0 s.n, But.set4 _ _ _ _ _ _ _ _ _ _⟩
set_option maxHeartbeats 1600000 in
theorem ready_over (g : Nat) (pv : Value) (s : MS) (F : Int) (o : O4) (w : World) (h : MRow w g pv s F o) (hk : (o.kind != 0) = true) :
    Calls Tryz.prog 69 #[.pointer (some ⟨g, 0, none⟩)] w fun e w' => e = .returned (.bool false) ∧ w = w' := by
  obtain ⟨_, _, _, _, c28, _⟩ := h.fields
  go_enter Tryz.func69, Tryz.ntmps69
  go_wp2
  go_ret
  exact ⟨rfl, rfl⟩
set_option maxHeartbeats 1600000 in
theorem ready_end (g : Nat) (a : Option Addr) (n cap : Nat) (s : MS) (F : Int) (o : O4) (w : World) (h : MRow w g (.slice a n cap) s F o) (hk : (o.kind != 0) = false) (hp : ((s.pc : Int) == (n : Int)) = true) :
    Calls Tryz.prog 69 #[.pointer (some ⟨g, 0, none⟩)] w fun e w' => e = .returned (.bool false) ∧ MRow w' g (.slice a n cap) s F (endO 5 s.pc s) ∧ But g w w' := by
  obtain ⟨c0, c25, _, _, c28, _⟩ := h.fields
  have H1 : Hid (MRow w.drew g (.slice a n cap) s F o) := hide h
  go_enter Tryz.func69, Tryz.ntmps69
  go_wp2_with fail
  go_region
  go_wp2_with (go_at_call 104; refine (end_any _ _ g _ s F o _ H1.out).mono ?_; rintro e w2 ⟨rfl, h2, b2⟩)
  go_ret
  exact ⟨rfl, h2, (But.ofBelow ((Below.refl _ _).drew)).trans b2⟩
set_option maxHeartbeats 1600000 in
theorem ready_fuel (g : Nat) (a : Option Addr) (n cap : Nat) (s : MS) (F : Int) (o : O4) (w : World) (h : MRow w g (.slice a n cap) s F o) (hk : (o.kind != 0) = false) (hp : ((s.pc : Int) == (n : Int)) = false) (hf : ((s.n : Int) == F) = true) :
    Calls Tryz.prog 69 #[.pointer (some ⟨g, 0, none⟩)] w fun e w' => e = .returned (.bool false) ∧ MRow w' g (.slice a n cap) s F (endO 2 s.pc s) ∧ But g w w' := by
  obtain ⟨c0, c25, c26, c27, c28, _⟩ := h.fields
  have H1 : Hid (MRow w.drew.drew g (.slice a n cap) s F o) := hide h
  go_enter Tryz.func69, Tryz.ntmps69
  go_wp2_with fail
  go_region
  go_wp2_with fail
  go_region
  go_wp2_with (go_at_call 104; refine (end_any _ _ g _ s F o _ H1.out).mono ?_; rintro e w2 ⟨rfl, h2, b2⟩)
  go_ret
  exact ⟨rfl, h2, (But.ofBelow ((Below.refl _ _).drew.drew)).trans b2⟩
set_option maxHeartbeats 1600000 in
theorem ready_go (g : Nat) (a : Option Addr) (n cap : Nat) (s : MS) (F : Int) (o : O4) (w : World) (h : MRow w g (.slice a n cap) s F o) (hk : (o.kind != 0) = false) (hp : ((s.pc : Int) == (n : Int)) = false) (hf : ((s.n : Int) == F) = false) :
    Calls Tryz.prog 69 #[.pointer (some ⟨g, 0, none⟩)] w fun e w' => e = .returned (.bool true) ∧ Below w.heap.size w w' := by
  obtain ⟨c0, c25, c26, c27, c28, _⟩ := h.fields
  go_enter Tryz.func69, Tryz.ntmps69
  go_wp2_with fail
  go_region
  go_wp2_with fail
  go_region
  go_wp2
  go_ret
  exact ⟨rfl, ((Below.refl _ _).drew.drew)⟩
end Go.Proofs.YtamiichlbmllcaaGreatDoor
/-
  The contract of (*machine.machine).step: one instruction of a right program.
-/
namespace Go.Proofs.YtamiichlbmllcaaGreatDoor
open Go.RowKit
/-- behind an instruction -/
def nxt (s : MS) : MS := { s with pc := s.pc + 1, n := s.n + 1 }
def outO (kd : Int) (pc : Nat) (s : MS) (o : O4) : O4 := if kd = 0 then o else endO kd pc s
theorem outO_on (pc : Nat) (s : MS) (o : O4) : outO 0 pc s o = o := rfl
theorem MRow.nxt {w : World} {g : Nat} {pv : Value} {s : MS} {F : Int} {o : O4} (h : MRow w g pv s F o) : MRow ((w.setCell ⟨g, 25, none⟩ (.int .i64 ((s.pc : Int) + 1))).setCell ⟨g, 26, none⟩ (.int .i64 ((s.n : Int) + 1))) g pv (nxt s) F o := by
  have := (h.setPc (s.pc + 1)).setN (s.n + 1)
  simpa [Go.Proofs.YtamiichlbmllcaaGreatDoor.nxt] using this
set_option maxHeartbeats 4000000 in
set_option maxRecDepth 100000 in
theorem step_gen (T f : Nat) (v : Value) (kd : Int) (s' : MS) (g pb cap n : Nat) (s : MS) (F : Int) (o : O4) (w : World) (h : MRow w g (.slice (some ⟨pb, 0, none⟩) n cap) s F o) (hp : s.pc < n) (hn64 : n ≤ 64) (hn : s.n < 1000000)
    (hi : w.cell? ⟨pb, s.pc, none⟩ = some (.iface T v)) (hpg : pb ≠ g)
    (hm : ∀ w, (method 367 T v "surety/machine.do").run Tryz.prog w = .ok (f, v) w)
    (hcf : ∀ w, (callFunc f #[v, .pointer (some ⟨g, 0, none⟩)]).run Tryz.prog w = .ok (.enter f #[v, .pointer (some ⟨g, 0, none⟩)]) w)
    (hcall : Hid (∀ w1, MRow w1 g (.slice (some ⟨pb, 0, none⟩) n cap) (nxt s) F o → Calls Tryz.prog f #[v, .pointer (some ⟨g, 0, none⟩)] w1 fun e w' => e = .returned (.int .i64 kd) ∧ MRow w' g (.slice (some ⟨pb, 0, none⟩) n cap) s' F o ∧ But g w1 w')) :
    Calls Tryz.prog 70 #[.pointer (some ⟨g, 0, none⟩)] w fun e w' => e = .returned (.tuple #[]) ∧ MRow w' g (.slice (some ⟨pb, 0, none⟩) n cap) s' F (outO kd s.pc s' o) ∧ But g w w' := by
  obtain ⟨c0, c25, c26, _⟩ := h.fields
  have f25 := h.free 25
  have f26 := h.free 26
  have hg := RowF.lt h
  have H1 := hide h.nxt
  have hp64 : s.pc < 64 := by omega
  go_enter Tryz.func70, Tryz.ntmps70
  go_wp2_with (fail)
  refine (hcall.out _ H1.out).mono ?_
  rintro e w2 ⟨rfl, h2, b2⟩
  have B2 := hide (((But.set g w 25 (.int .i64 ((s.pc : Int) + 1))).trans (But.set g _ 26 (.int .i64 ((s.n : Int) + 1)))).trans b2)
  have H2 := hide h2
  clear b2 h2 c0 c25 c26 f25 f26
  by_cases hk : kd = 0
  · have R : Hid (outO kd s.pc s' o = o) := hide (by unfold outO; rw [if_pos hk])
    have hq : (kd != 0) = false := by simpa using hk
    clear hk
    go_wp2_with (fail)
    go_end0
    exact ⟨rfl, by rw [R.out]; exact H2.out, B2.out⟩
  · have R : Hid (outO kd s.pc s' o = endO kd s.pc s') := hide (by unfold outO; rw [if_neg hk])
    have hq : (kd != 0) = true := by simpa using hk
    clear hk
    go_wp2_with (go_at_call 104; refine (end_any _ _ g _ s' F o _ H2.out).mono ?_; rintro e w3 ⟨rfl, h3, b3⟩; have H3 := hide h3; have B3 := hide b3; clear h3 b3)
    go_end0
    exact ⟨rfl, by rw [R.out]; exact H3.out, B2.out.trans B3.out⟩
end Go.Proofs.YtamiichlbmllcaaGreatDoor
/-
  The contract of (*machine.machine).step, for every instruction that may stand in a program.
-/
namespace Go.Proofs.YtamiichlbmllcaaGreatDoor
open Go.RowKit
set_option maxHeartbeats 4000000 in
theorem step_any (i : I5) (g pb cap n : Nat) (s : MS) (F : Int) (o : O4) (w : World) (h : MRow w g (.slice (some ⟨pb, 0, none⟩) n cap) s F o) (hp : s.pc < n) (hn64 : n ≤ 64) (hn : s.n < 1000000)
    (hi : w.cell? ⟨pb, s.pc, none⟩ = some (iVal i)) (hpg : pb ≠ g) (hfit : i.fits n = true) :
    Calls Tryz.prog 70 #[.pointer (some ⟨g, 0, none⟩)] w fun e w' => e = .returned (.tuple #[]) ∧ MRow w' g (.slice (some ⟨pb, 0, none⟩) n cap) (doI i (nxt s)).2 F (outO (doI i (nxt s)).1 s.pc (doI i (nxt s)).2 o) ∧ But g w w' := by
  have hc := fit_cases hfit
  obtain ⟨op, a, b, c, k⟩ := i
  simp only at hc
  rcases hc with rfl | ⟨rfl, ha⟩ | ⟨rfl, ha, hb⟩ | ⟨rfl, ha, hb, hc⟩ | ⟨rfl, ha, hb, hc⟩ | ⟨rfl, ha, hb, hc⟩ | ⟨rfl, ha, hb, hc⟩ | ⟨rfl, ha, hb⟩ | ⟨rfl, ha, hb⟩ | ⟨rfl, hk0, hk1⟩ | ⟨rfl, ha, hb, hk0, hk1⟩ | ⟨rfl, ha, hb, hk0, hk1⟩
  · exact step_gen 199 204 (.agg #[]) 1 _ g pb cap n s F o w h hp hn64 hn hi hpg (fun _ => by kernel_rfl) (fun _ => by kernel_rfl) (hide fun w1 h1 => (halt_do g w1).mono fun e w' ⟨he, hb⟩ => ⟨he, h1.bel hb, But.ofBelow hb⟩)
  · obtain ⟨a, ha', rfl⟩ := ha.nat
    replace ha := ha'
    exact step_gen 183 162 (.agg #[.int .i64 a, .int .i64 k]) 0 _ g pb cap n s F o w h hp hn64 hn hi hpg (fun _ => by kernel_rfl) (fun _ => by kernel_rfl) (hide fun w1 h1 => set_do a k ha g _ _ F o w1 h1)
  · obtain ⟨a, ha', rfl⟩ := ha.nat
    replace ha := ha'
    obtain ⟨b, hb', rfl⟩ := hb.nat
    replace hb := hb'
    exact step_gen 185 167 (.agg #[.int .i64 a, .int .i64 b]) 0 _ g pb cap n s F o w h hp hn64 hn hi hpg (fun _ => by kernel_rfl) (fun _ => by kernel_rfl) (hide fun w1 h1 => move_do a b ha hb g _ _ F o w1 h1)
  · obtain ⟨a, ha', rfl⟩ := ha.nat
    replace ha := ha'
    obtain ⟨b, hb', rfl⟩ := hb.nat
    replace hb := hb'
    obtain ⟨c, hc', rfl⟩ := hc.nat
    replace hc := hc'
    exact step_gen 187 169 (.agg #[.int .i64 a, .int .i64 b, .int .i64 c]) 0 _ g pb cap n s F o w h hp hn64 hn hi hpg (fun _ => by kernel_rfl) (fun _ => by kernel_rfl) (hide fun w1 h1 => add_do a b c ha hb hc g _ _ F o w1 h1)
  · obtain ⟨a, ha', rfl⟩ := ha.nat
    replace ha := ha'
    obtain ⟨b, hb', rfl⟩ := hb.nat
    replace hb := hb'
    obtain ⟨c, hc', rfl⟩ := hc.nat
    replace hc := hc'
    exact step_gen 188 180 (.agg #[.int .i64 a, .int .i64 b, .int .i64 c]) 0 _ g pb cap n s F o w h hp hn64 hn hi hpg (fun _ => by kernel_rfl) (fun _ => by kernel_rfl) (hide fun w1 h1 => sub_do a b c ha hb hc g _ _ F o w1 h1)
  · obtain ⟨a, ha', rfl⟩ := ha.nat
    replace ha := ha'
    obtain ⟨b, hb', rfl⟩ := hb.nat
    replace hb := hb'
    obtain ⟨c, hc', rfl⟩ := hc.nat
    replace hc := hc'
    exact step_gen 189 184 (.agg #[.int .i64 a, .int .i64 b, .int .i64 c]) 0 _ g pb cap n s F o w h hp hn64 hn hi hpg (fun _ => by kernel_rfl) (fun _ => by kernel_rfl) (hide fun w1 h1 => mul_do a b c ha hb hc g _ _ F o w1 h1)
  · obtain ⟨a, ha', rfl⟩ := ha.nat
    replace ha := ha'
    obtain ⟨b, hb', rfl⟩ := hb.nat
    replace hb := hb'
    obtain ⟨c, hc', rfl⟩ := hc.nat
    replace hc := hc'
    by_cases hz : (nxt s).r c = 0
    · have hd : doI ⟨6, a, b, c, k⟩ (nxt s) = (3, nxt s) := by unfold doI; simp; exact hz
      rw [hd]
      exact step_gen 190 188 (.agg #[.int .i64 a, .int .i64 b, .int .i64 c]) 3 _ g pb cap n s F o w h hp hn64 hn hi hpg (fun _ => by kernel_rfl) (fun _ => by kernel_rfl) (hide fun w1 h1 => div_zero a b c hc g _ _ F o w1 h1 (by simpa using hz))
    · have hd : doI ⟨6, a, b, c, k⟩ (nxt s) = (0, { nxt s with r := upd (nxt s).r a (wrap64 (((nxt s).r b).tdiv ((nxt s).r c))) }) := by unfold doI; simp; intro h; exact absurd h hz
      rw [hd]
      exact step_gen 190 188 (.agg #[.int .i64 a, .int .i64 b, .int .i64 c]) 0 _ g pb cap n s F o w h hp hn64 hn hi hpg (fun _ => by kernel_rfl) (fun _ => by kernel_rfl) (hide fun w1 h1 => div_do a b c ha hb hc g _ _ F o w1 h1 (by simpa using hz))
  · obtain ⟨a, ha', rfl⟩ := ha.nat
    replace ha := ha'
    obtain ⟨b, hb', rfl⟩ := hb.nat
    replace hb := hb'
    by_cases hz : 0 ≤ (nxt s).r b ∧ (nxt s).r b < 16
    · have hd : doI ⟨7, a, b, c, k⟩ (nxt s) = (0, { nxt s with r := upd (nxt s).r a ((nxt s).m ((nxt s).r b).toNat) }) := by unfold doI; simp; exact hz
      rw [hd]
      exact step_gen 191 191 (.agg #[.int .i64 a, .int .i64 b]) 0 _ g pb cap n s F o w h hp hn64 hn hi hpg (fun _ => by kernel_rfl) (fun _ => by kernel_rfl) (hide fun w1 h1 => load_do a b ((nxt s).r b).toNat ha hb (by omega) g _ _ F o w1 h1 (hide (by omega)))
    · have hd : doI ⟨7, a, b, c, k⟩ (nxt s) = (4, nxt s) := by unfold doI; simp; intro h; omega
      rw [hd]
      exact step_gen 191 191 (.agg #[.int .i64 a, .int .i64 b]) 4 _ g pb cap n s F o w h hp hn64 hn hi hpg (fun _ => by kernel_rfl) (fun _ => by kernel_rfl) (hide fun w1 h1 => load_bad a b hb g _ _ F o w1 h1 (by simpa using hz))
  · obtain ⟨a, ha', rfl⟩ := ha.nat
    replace ha := ha'
    obtain ⟨b, hb', rfl⟩ := hb.nat
    replace hb := hb'
    by_cases hz : 0 ≤ (nxt s).r a ∧ (nxt s).r a < 16
    · have hd : doI ⟨8, a, b, c, k⟩ (nxt s) = (0, { nxt s with m := upd (nxt s).m ((nxt s).r a).toNat ((nxt s).r b) }) := by unfold doI; simp; exact hz
      rw [hd]
      exact step_gen 192 194 (.agg #[.int .i64 a, .int .i64 b]) 0 _ g pb cap n s F o w h hp hn64 hn hi hpg (fun _ => by kernel_rfl) (fun _ => by kernel_rfl) (hide fun w1 h1 => store_do a b ((nxt s).r a).toNat ha hb (by omega) g _ _ F o w1 h1 (hide (by omega)))
    · have hd : doI ⟨8, a, b, c, k⟩ (nxt s) = (4, nxt s) := by unfold doI; simp; intro h; omega
      rw [hd]
      exact step_gen 192 194 (.agg #[.int .i64 a, .int .i64 b]) 4 _ g pb cap n s F o w h hp hn64 hn hi hpg (fun _ => by kernel_rfl) (fun _ => by kernel_rfl) (hide fun w1 h1 => store_bad a b ha g _ _ F o w1 h1 (by simpa using hz))
  · obtain ⟨k, rfl⟩ := Int.eq_ofNat_of_zero_le hk0
    exact step_gen 194 196 (.agg #[.int .i64 k]) 0 _ g pb cap n s F o w h hp hn64 hn hi hpg (fun _ => by kernel_rfl) (fun _ => by kernel_rfl) (hide fun w1 h1 => jump_do k g _ _ F o w1 h1)
  · obtain ⟨a, ha', rfl⟩ := ha.nat
    replace ha := ha'
    obtain ⟨b, hb', rfl⟩ := hb.nat
    replace hb := hb'
    obtain ⟨k, rfl⟩ := Int.eq_ofNat_of_zero_le hk0
    exact step_gen 196 198 (.agg #[.int .i64 a, .int .i64 b, .int .i64 k]) 0 _ g pb cap n s F o w h hp hn64 hn hi hpg (fun _ => by kernel_rfl) (fun _ => by kernel_rfl) (hide fun w1 h1 => less_do a b k ha hb g _ _ F o w1 h1)
  · obtain ⟨a, ha', rfl⟩ := ha.nat
    replace ha := ha'
    obtain ⟨b, hb', rfl⟩ := hb.nat
    replace hb := hb'
    obtain ⟨k, rfl⟩ := Int.eq_ofNat_of_zero_le hk0
    exact step_gen 197 201 (.agg #[.int .i64 a, .int .i64 b, .int .i64 k]) 0 _ g pb cap n s F o w h hp hn64 hn hi hpg (fun _ => by kernel_rfl) (fun _ => by kernel_rfl) (hide fun w1 h1 => same_do a b k ha hb g _ _ F o w1 h1)
end Go.Proofs.YtamiichlbmllcaaGreatDoor
/-
  The contract of machine.start.
-/
namespace Go.Proofs.YtamiichlbmllcaaGreatDoor
open Go.RowKit
def regsV (r : Nat → Int) : Value := .agg #[.int .i64 (r 0), .int .i64 (r 1), .int .i64 (r 2), .int .i64 (r 3), .int .i64 (r 4), .int .i64 (r 5), .int .i64 (r 6), .int .i64 (r 7)]
def fuelI (f : Int) : Int := min (max f 0) 10000
def zeroW : Nat → Int := fun _ => 0
def startS (r : Nat → Int) : MS := ⟨r, zeroW, 0, 0⟩
def StartP (w : World) (pb cap : Nat) (n : Nat) (r : Nat → Int) (f : Int) (e : Ending) (w' : World) : Prop :=
  ∃ g, e = .returned (.pointer (some ⟨g, 0, none⟩)) ∧ MRow w' g (.slice (some ⟨pb, 0, none⟩) n cap) (startS r) (fuelI f) O4.zero ∧ w.heap.size ≤ g ∧ Below w.heap.size w w'
theorem own_low {w : World} {B B' e size n : Nat} {v : Value} {xs : List Value} (h : w.ownsRow B e size v n xs) (hB : B' ≤ B) : w.ownsRow B' e size v n xs := by
  refine ⟨h.1, ?_⟩
  rcases h.2 with h2 | ⟨g, cap, cur, h3, h4, h5⟩
  · exact Or.inl h2
  · exact Or.inr ⟨g, cap, cur, h3, by omega, h5⟩
theorem own_shape {w : World} {B e size n : Nat} {v : Value} {xs : List Value} (h : w.ownsRow B e size v n xs) (hn : 0 < n) : ∃ b c, v = .slice (some ⟨b, 0, none⟩) n c ∧ B ≤ b ∧ b < w.heap.size := by
  rcases h.2 with ⟨_, h2⟩ | ⟨g, cap, cur, h1, h2, h3, _⟩
  · omega
  · exact ⟨_, _, h1, h2, lt_of_block h3⟩
theorem rbox {w1 : World} {N : Nat} {r : Nat → Int} {T : TypeId} (hH : w1.heap[N]? = some (.cells #[.int .i64 (r 0), .int .i64 (r 1), .int .i64 (r 2), .int .i64 (r 3), .int .i64 (r 4), .int .i64 (r 5), .int .i64 (r 6), .int .i64 (r 7)] T (0, 0))) :
    w1.cell? ⟨N, 0, none⟩ = some (.int .i64 (r 0)) ∧ w1.cell? ⟨N, 1, none⟩ = some (.int .i64 (r 1)) ∧ w1.cell? ⟨N, 2, none⟩ = some (.int .i64 (r 2)) ∧ w1.cell? ⟨N, 3, none⟩ = some (.int .i64 (r 3)) ∧ w1.cell? ⟨N, 4, none⟩ = some (.int .i64 (r 4)) ∧ w1.cell? ⟨N, 5, none⟩ = some (.int .i64 (r 5)) ∧ w1.cell? ⟨N, 6, none⟩ = some (.int .i64 (r 6)) ∧ w1.cell? ⟨N, 7, none⟩ = some (.int .i64 (r 7)) := by
  refine ⟨?_, ?_, ?_, ?_, ?_, ?_, ?_, ?_⟩ <;> rw [cell_of_row _ _ _ _ _ _ hH] <;> rfl
theorem mrow_new (w : World) (pv : Value) (r : Nat → Int) (F : Int) : MRow (w.alloc (.cells #[pv, .int .i64 (r 0), .int .i64 (r 1), .int .i64 (r 2), .int .i64 (r 3), .int .i64 (r 4), .int .i64 (r 5), .int .i64 (r 6), .int .i64 (r 7), .int .i64 0, .int .i64 0, .int .i64 0, .int .i64 0, .int .i64 0, .int .i64 0, .int .i64 0, .int .i64 0, .int .i64 0, .int .i64 0, .int .i64 0, .int .i64 0, .int .i64 0, .int .i64 0, .int .i64 0, .int .i64 0, .int .i64 0, .int .i64 0, .int .i64 F, .int .i64 0, .int .i64 0, .int .i64 0, .int .i64 0] 130)) w.heap.size pv (startS r) F O4.zero := by
  refine ⟨_, heap_alloc_new _ _, rfl, fun j hj => ?_⟩
  match j, hj with
  | 0, _ => rfl
  | 1, _ => rfl
  | 2, _ => rfl
  | 3, _ => rfl
  | 4, _ => rfl
  | 5, _ => rfl
  | 6, _ => rfl
  | 7, _ => rfl
  | 8, _ => rfl
  | 9, _ => rfl
  | 10, _ => rfl
  | 11, _ => rfl
  | 12, _ => rfl
  | 13, _ => rfl
  | 14, _ => rfl
  | 15, _ => rfl
  | 16, _ => rfl
  | 17, _ => rfl
  | 18, _ => rfl
  | 19, _ => rfl
  | 20, _ => rfl
  | 21, _ => rfl
  | 22, _ => rfl
  | 23, _ => rfl
  | 24, _ => rfl
  | 25, _ => rfl
  | 26, _ => rfl
  | 27, _ => rfl
  | 28, _ => rfl
  | 29, _ => rfl
  | 30, _ => rfl
  | 31, _ => rfl
  | j + 32, h => omega
theorem mrow_new2 {w : World} {g : Nat} (hg : g = w.heap.size) (pv : Value) (r : Nat → Int) (F : Int) : MRow (w.alloc (.cells #[pv, .int .i64 (r 0), .int .i64 (r 1), .int .i64 (r 2), .int .i64 (r 3), .int .i64 (r 4), .int .i64 (r 5), .int .i64 (r 6), .int .i64 (r 7), .int .i64 0, .int .i64 0, .int .i64 0, .int .i64 0, .int .i64 0, .int .i64 0, .int .i64 0, .int .i64 0, .int .i64 0, .int .i64 0, .int .i64 0, .int .i64 0, .int .i64 0, .int .i64 0, .int .i64 0, .int .i64 0, .int .i64 0, .int .i64 0, .int .i64 F, .int .i64 0, .int .i64 0, .int .i64 0, .int .i64 0] 130)) g pv (startS r) F O4.zero := by subst hg; exact mrow_new w pv r F
set_option maxHeartbeats 4000000 in
set_option maxRecDepth 100000 in
theorem start_any (n pb cap : Nat) (r : Nat → Int) (f : Int) (w : World) :
    Calls Tryz.prog 68 #[.slice (some ⟨pb, 0, none⟩) n cap, regsV r, .int .i64 f] w fun e w' => StartP w pb cap n r f e w' := by
  unfold regsV
  have hcase : f < 0 ∨ (0 ≤ f ∧ f ≤ 10000) ∨ 10000 < f := by omega
  rcases hcase with hf | ⟨hf, hf2⟩ | hf
  · have R : Hid (fuelI f = 0) := hide (by unfold fuelI; omega)
    go_enter Tryz.func68, Tryz.ntmps68
    go_wp2
    go_ret
    exact ⟨_, rfl, by rw [R.out]; exact mrow_new2 (by simp) _ r 0, by simp, (belA _ _).alloc (by simp) _⟩
  · have R : Hid (fuelI f = f) := hide (by unfold fuelI; omega)
    go_enter Tryz.func68, Tryz.ntmps68
    go_wp2
    go_ret
    exact ⟨_, rfl, by rw [R.out]; exact mrow_new2 (by simp) _ r f, by simp, (belA _ _).alloc (by simp) _⟩
  · have R : Hid (fuelI f = 10000) := hide (by unfold fuelI; omega)
    go_enter Tryz.func68, Tryz.ntmps68
    go_wp2
    go_ret
    exact ⟨_, rfl, by rw [R.out]; exact mrow_new2 (by simp) _ r 10000, by simp, (belA _ _).alloc (by simp) _⟩
end Go.Proofs.YtamiichlbmllcaaGreatDoor
/-
  A whole run, as a function, and what is come to.
-/
namespace Go.Proofs.YtamiichlbmllcaaGreatDoor
open Go.RowKit
/-- what is come to: where, and the registers -/
structure V9 where
  pc : Nat
  r : Nat → Int
/-- what the instruction at which it stands does -/
def doAt (p : List I5) (s : MS) : Int × MS := doI (insAt p s.pc) (nxt s)
/-- a run with so much fuel left: what is come to, and the outcome -/
def runR (p : List I5) : Nat → MS → List V9 × O4
  | 0, s => if s.pc = p.length then ([], endO 5 s.pc s) else ([], endO 2 s.pc s)
  | k + 1, s => if s.pc = p.length then ([], endO 5 s.pc s) else
    if (doAt p s).1 = 0 then (⟨s.pc, s.r⟩ :: (runR p k (doAt p s).2).1, (runR p k (doAt p s).2).2) else ([⟨s.pc, s.r⟩], endO (doAt p s).1 s.pc (doAt p s).2)
theorem runR_end {p : List I5} {k : Nat} {s : MS} (h : s.pc = p.length) : runR p k s = ([], endO 5 s.pc s) := by
  cases k <;> unfold runR <;> rw [if_pos h]
theorem runR_fuel {p : List I5} {s : MS} (h : s.pc ≠ p.length) : runR p 0 s = ([], endO 2 s.pc s) := by
  unfold runR; rw [if_neg h]
theorem runR_go {p : List I5} {k : Nat} {s : MS} (h : s.pc ≠ p.length) (hd : (doAt p s).1 = 0) : runR p (k + 1) s = (⟨s.pc, s.r⟩ :: (runR p k (doAt p s).2).1, (runR p k (doAt p s).2).2) := by
  rw [runR, if_neg h, if_pos hd]
theorem runR_stop {p : List I5} {k : Nat} {s : MS} (h : s.pc ≠ p.length) (hd : (doAt p s).1 ≠ 0) : runR p (k + 1) s = ([⟨s.pc, s.r⟩], endO (doAt p s).1 s.pc (doAt p s).2) := by
  rw [runR, if_neg h, if_neg hd]
theorem doI_n (i : I5) (s : MS) : (doI i s).2.n = s.n := by
  unfold doI
  by_cases h1 : i.o = 1
  · rw [if_pos h1]
  rw [if_neg h1]
  by_cases h1 : i.o = 2
  · rw [if_pos h1]
  rw [if_neg h1]
  by_cases h1 : i.o = 3
  · rw [if_pos h1]
  rw [if_neg h1]
  by_cases h1 : i.o = 4
  · rw [if_pos h1]
  rw [if_neg h1]
  by_cases h1 : i.o = 5
  · rw [if_pos h1]
  rw [if_neg h1]
  by_cases h1 : i.o = 6
  · rw [if_pos h1]; split <;> rfl
  rw [if_neg h1]
  by_cases h1 : i.o = 7
  · rw [if_pos h1]; split <;> rfl
  rw [if_neg h1]
  by_cases h1 : i.o = 8
  · rw [if_pos h1]; split <;> rfl
  rw [if_neg h1]
  by_cases h1 : i.o = 9
  · rw [if_pos h1]
  rw [if_neg h1]
  by_cases h1 : i.o = 10
  · rw [if_pos h1]; simp only; split <;> rfl
  rw [if_neg h1]
  by_cases h1 : i.o = 11
  · rw [if_pos h1]; simp only; split <;> rfl
  rw [if_neg h1]
theorem doI_pc (i : I5) (s : MS) {N : Nat} (hs : s.pc ≤ N) (hk : 9 ≤ i.o → i.k.toNat ≤ N) : (doI i s).2.pc ≤ N := by
  unfold doI
  by_cases h1 : i.o = 1
  · rw [if_pos h1]; exact hs
  rw [if_neg h1]
  by_cases h1 : i.o = 2
  · rw [if_pos h1]; exact hs
  rw [if_neg h1]
  by_cases h1 : i.o = 3
  · rw [if_pos h1]; exact hs
  rw [if_neg h1]
  by_cases h1 : i.o = 4
  · rw [if_pos h1]; exact hs
  rw [if_neg h1]
  by_cases h1 : i.o = 5
  · rw [if_pos h1]; exact hs
  rw [if_neg h1]
  by_cases h1 : i.o = 6
  · rw [if_pos h1]; split <;> exact hs
  rw [if_neg h1]
  by_cases h1 : i.o = 7
  · rw [if_pos h1]; split <;> exact hs
  rw [if_neg h1]
  by_cases h1 : i.o = 8
  · rw [if_pos h1]; split <;> exact hs
  rw [if_neg h1]
  by_cases h1 : i.o = 9
  · rw [if_pos h1]; exact hk (by omega)
  rw [if_neg h1]
  by_cases h1 : i.o = 10
  · rw [if_pos h1]; simp only; split; exact hk (by omega); exact hs
  rw [if_neg h1]
  by_cases h1 : i.o = 11
  · rw [if_pos h1]; simp only; split; exact hk (by omega); exact hs
  rw [if_neg h1]; exact hs
theorem doAt_pc {p : List I5} (h : AllFit p) {s : MS} (hpc : s.pc < p.length) : (doAt p s).2.pc ≤ p.length :=
  doI_pc _ _ (show s.pc + 1 ≤ p.length by omega) (fun h9 => by have := (h.k hpc h9).2; omega)
theorem doAt_n {p : List I5} {s : MS} : (doAt p s).2.n = s.n + 1 := doI_n _ _
/-- the outcome of a run -/
def runO (p : List I5) (r : Nat → Int) (f : Int) : O4 := (runR p (fuelI f).toNat (startS r)).2
/-- the first hundred that are come to -/
def runV (p : List I5) (r : Nat → Int) (f : Int) : List V9 := (runR p (fuelI f).toNat (startS r)).1.take 100
theorem fuelI_bd (f : Int) : 0 ≤ fuelI f ∧ fuelI f ≤ 10000 := by unfold fuelI; omega
theorem OwnP.cell {w : World} {B b n c : Nat} {l : List I5} (h : OwnP w B (.slice (some ⟨b, 0, none⟩) n c) l) (pc : Nat) (hpc : pc < l.length) : w.cell? ⟨b, pc, none⟩ = some (iVal (insAt l pc)) := by
  have := World.ownsRow.cells h rfl pc (iVal (insAt l pc)) (by rw [List.getElem?_map, List.getElem?_eq_getElem hpc, insAt_get hpc]; rfl)
  have hadd : (⟨b, 0, none⟩ : Addr).add pc = ⟨b, pc, none⟩ := by unfold Addr.add; split <;> simp_all
  rw [hadd] at this
  exact this
theorem OwnP.but {w w' : World} {B b n c g : Nat} {l : List I5} (h : OwnP w B (.slice (some ⟨b, 0, none⟩) n c) l) (hb : But g w w') (hne : b ≠ g) : OwnP w' B (.slice (some ⟨b, 0, none⟩) n c) l := by
  refine ⟨h.1, ?_⟩
  rcases h.2 with h2 | ⟨g2, cap, cur, h3, h4, hh, r⟩
  · exact Or.inl h2
  · simp only [Value.slice.injEq, Option.some.injEq, Addr.mk.injEq, and_true] at h3
    obtain ⟨rfl, rfl, rfl⟩ := h3
    exact Or.inr ⟨b, c, cur, rfl, h4, by rw [hb.block b (lt_of_block hh) hne]; exact hh, r⟩
end Go.Proofs.YtamiichlbmllcaaGreatDoor
/-
  What a taken certificate says of runs: every state that the pass has holds the registers that the run has there.
-/
namespace Go.Proofs.YtamiichlbmllcaaGreatDoor
open Go.RowKit
/-- registers lie in a state -/
def inS (r : Nat → Int) (s : St) : Prop := ∀ j, j < 8 → (s j).mem (r j)
theorem inS_lies {r : Nat → Int} {s t : St} (h : inS r s) (k : liesR s t = true) : inS r t := fun j hj => (lies_iff.1 k j hj).mem (h j hj)
theorem inS_upd {r : Nat → Int} {s : St} {a : Nat} {v : Int} {x : R2} (h : inS r s) (hv : x.mem v) : inS (upd r a v) (updS s a x) := fun j hj => by
  unfold upd updS
  by_cases e : j = a
  · rw [if_pos e, if_pos e]; exact hv
  · rw [if_neg e, if_neg e]; exact h j hj
theorem inS_narr {r : Nat → Int} {s : St} {a b : Nat} {x y : R2} (h : inS r s) (hx : x.mem (r a)) (hy : y.mem (r b)) : ∃ s', narrR s a x b y = some s' ∧ inS r s' := by
  unfold narrR
  rw [if_neg (by simp only [Bool.or_eq_true, not_or, emptyR, decide_eq_true_eq]; unfold R2.mem at *; omega)]
  refine ⟨_, rfl, fun j hj => ?_⟩
  by_cases e : j = b
  · subst e; rw [upd_same]; exact hy
  · rw [upd_other e]
    by_cases e2 : j = a
    · subst e2; rw [upd_same]; exact hx
    · rw [upd_other e2]; exact h j hj
/-- what an instruction does lies in what becomes of the state -/
theorem doI_sound {i : I5} {s : St} {m : MS} (hi : RegsIn i) (ho : 0 ≤ i.o ∧ i.o < 12) (h64 : s.in64) (hm : inS m.r s) (hw : ∀ j, I64 (m.m j)) (hd : dangR i s = 0) :
    ((doI i m).1 = 1 ∧ i.o = 0) ∨ ((doI i m).1 = 0 ∧ (∀ j, I64 ((doI i m).2.m j)) ∧
      (((doI i m).2.pc = m.pc ∧ ∃ s', flowOn i s = some s' ∧ inS (doI i m).2.r s') ∨ (9 ≤ i.o ∧ (doI i m).2.pc = i.k.toNat ∧ ∃ s', flowFar i s = some s' ∧ inS (doI i m).2.r s'))) := by
  obtain ⟨a0, b0, _, ha, hb, hc⟩ := hi
  have ma := hm _ ha
  have mb := hm _ hb
  have mc := hm _ hc
  have ia := h64 _ ha
  have ib := h64 _ hb
  unfold doI flowOn flowFar
  unfold dangR at hd
  by_cases h1 : i.o = 1
  · simp only [if_pos h1]; exact Or.inr ⟨trivial, hw, Or.inl ⟨trivial, _, rfl, inS_upd hm (by unfold R2.mem; simp)⟩⟩
  simp only [if_neg h1]
  by_cases h1 : i.o = 2
  · simp only [if_pos h1]; exact Or.inr ⟨trivial, hw, Or.inl ⟨trivial, _, rfl, inS_upd hm mb⟩⟩
  simp only [if_neg h1]
  by_cases h1 : i.o = 3
  · simp only [if_pos h1]; exact Or.inr ⟨trivial, hw, Or.inl ⟨trivial, _, rfl, inS_upd hm (sum_mem mb mc)⟩⟩
  simp only [if_neg h1]
  by_cases h1 : i.o = 4
  · simp only [if_pos h1]; exact Or.inr ⟨trivial, hw, Or.inl ⟨trivial, _, rfl, inS_upd hm (dif_mem mb mc)⟩⟩
  simp only [if_neg h1]
  by_cases h1 : i.o = 5
  · simp only [if_pos h1]; exact Or.inr ⟨trivial, hw, Or.inl ⟨trivial, _, rfl, inS_upd hm (prod_mem mb mc)⟩⟩
  simp only [if_neg h1]
  by_cases h1 : i.o = 6
  · rw [if_pos h1] at hd
    have hz : ¬ (m.r i.c.toNat = 0) := by
      intro e
      rw [if_pos (has_iff.2 (by rw [e] at mc; exact mc))] at hd
      cases hd
    simp only [if_pos h1, if_neg hz]
    exact Or.inr ⟨trivial, hw, Or.inl ⟨trivial, _, rfl, inS_upd hm (quo_mem ib mb mc)⟩⟩
  simp only [if_neg h1]
  rw [if_neg h1] at hd
  by_cases h1 : i.o = 7
  · rw [if_pos h1] at hd
    by_cases h2 : inRg (s i.b.toNat) ⟨0, 15⟩ = true
    · rw [inRg_iff] at h2
      unfold R2.mem at mb
      simp only at h2
      simp only [if_pos h1, if_pos (show 0 ≤ m.r i.b.toNat ∧ m.r i.b.toNat < 16 by omega)]
      exact Or.inr ⟨trivial, hw, Or.inl ⟨trivial, _, rfl, inS_upd hm (all_mem (hw _))⟩⟩
    · rw [if_neg h2] at hd; cases hd
  simp only [if_neg h1]
  rw [if_neg h1] at hd
  by_cases h1 : i.o = 8
  · rw [if_pos h1] at hd
    by_cases h2 : inRg (s i.a.toNat) ⟨0, 15⟩ = true
    · rw [inRg_iff] at h2
      unfold R2.mem at ma
      simp only at h2
      simp only [if_pos h1, if_pos (show 0 ≤ m.r i.a.toNat ∧ m.r i.a.toNat < 16 by omega)]
      refine Or.inr ⟨trivial, fun j => ?_, Or.inl ⟨trivial, _, rfl, hm⟩⟩
      unfold upd
      by_cases e : j = (m.r i.a.toNat).toNat
      · rw [if_pos e]; unfold R2.mem at mb; unfold R2.in64 I64 at *; omega
      · rw [if_neg e]; exact hw j
    · rw [if_neg h2] at hd; cases hd
  simp only [if_neg h1]
  by_cases h1 : i.o = 9
  · simp only [if_pos h1]; exact Or.inr ⟨trivial, hw, Or.inr ⟨by omega, trivial, _, rfl, hm⟩⟩
  simp only [if_neg h1]
  by_cases h1 : i.o = 10
  · simp only [if_pos h1]
    by_cases h2 : m.r i.a.toNat < m.r i.b.toNat
    · have hne : ¬ (i.a = i.b) := by intro e; rw [e] at h2; omega
      simp only [if_pos h2, if_neg hne]
      unfold R2.mem at ma mb
      unfold R2.in64 I64 at ia ib
      rw [if_neg (by omega)]
      obtain ⟨s', e1, e2⟩ := inS_narr (a := i.a.toNat) (b := i.b.toNat) (x := ⟨(s i.a.toNat).lo, min (s i.a.toNat).hi ((s i.b.toNat).hi - 1)⟩) (y := ⟨max (s i.b.toNat).lo ((s i.a.toNat).lo + 1), (s i.b.toNat).hi⟩) hm (by unfold R2.mem; simp only; omega) (by unfold R2.mem; simp only; omega)
      exact Or.inr ⟨trivial, hw, Or.inr ⟨by omega, trivial, s', e1, e2⟩⟩
    · simp only [if_neg h2]
      by_cases hne : i.a = i.b
      · simp only [if_pos hne]; exact Or.inr ⟨trivial, hw, Or.inl ⟨trivial, _, rfl, hm⟩⟩
      · simp only [if_neg hne]
        unfold R2.mem at ma mb
        obtain ⟨s', e1, e2⟩ := inS_narr (a := i.a.toNat) (b := i.b.toNat) (x := ⟨max (s i.a.toNat).lo (s i.b.toNat).lo, (s i.a.toNat).hi⟩) (y := ⟨(s i.b.toNat).lo, min (s i.b.toNat).hi (s i.a.toNat).hi⟩) hm (by unfold R2.mem; simp only; omega) (by unfold R2.mem; simp only; omega)
        exact Or.inr ⟨trivial, hw, Or.inl ⟨trivial, s', e1, e2⟩⟩
  simp only [if_neg h1]
  by_cases h1 : i.o = 11
  · simp only [if_pos h1]
    by_cases h2 : m.r i.a.toNat = m.r i.b.toNat
    · simp only [if_pos h2]
      by_cases hne : i.a = i.b
      · simp only [if_pos hne]; exact Or.inr ⟨trivial, hw, Or.inr ⟨by omega, trivial, _, rfl, hm⟩⟩
      · simp only [if_neg hne]
        unfold R2.mem at ma mb
        obtain ⟨s', e1, e2⟩ := inS_narr (a := i.a.toNat) (b := i.b.toNat) (x := comR (s i.a.toNat) (s i.b.toNat)) (y := comR (s i.a.toNat) (s i.b.toNat)) hm (by unfold R2.mem comR; simp only; omega) (by unfold R2.mem comR; simp only; omega)
        exact Or.inr ⟨trivial, hw, Or.inr ⟨by omega, trivial, s', e1, e2⟩⟩
    · have hne : ¬ (i.a = i.b) := by intro e; rw [e] at h2; exact h2 rfl
      simp only [if_neg h2, if_neg hne]
      unfold R2.mem at ma mb
      rw [if_neg (by unfold oneR; simp only [decide_eq_true_eq]; omega)]
      exact Or.inr ⟨trivial, hw, Or.inl ⟨trivial, _, rfl, hm⟩⟩
  simp only [if_neg h1]
  exact Or.inl ⟨trivial, by omega⟩
/-- what comes to an instruction from the one before it -/
def comeC (p : List I5) (cl : Nat → Option St) (e : St) : Nat → Option St
  | 0 => some e
  | n + 1 => (stepC p cl n (comeC p cl e n)).2
/-- the state ahead of an instruction -/
def hereC (p : List I5) (cl : Nat → Option St) (e : St) (n : Nat) : Option St := if markB p n then cl n else comeC p cl e n
theorem passC_spec {p : List I5} {cl : Nat → Option St} {e : St} : ∀ (k n : Nat), passC p cl k n (comeC p cl e n) = (0, 0) → (∀ j, j < k → (stepC p cl (n + j) (comeC p cl e (n + j))).1 = 0) ∧ comeC p cl e (n + k) = none
  | 0, n, h => by
    refine ⟨fun j hj => by omega, ?_⟩
    unfold passC at h
    rw [Nat.add_zero]
    cases hc : comeC p cl e n with
    | none => rfl
    | some s => rw [hc] at h; simp at h
  | k + 1, n, h => by
    unfold passC at h
    by_cases h0 : (stepC p cl n (comeC p cl e n)).1 = 0
    · rw [if_neg (by simp [h0])] at h
      have ih := passC_spec k (n + 1) h
      refine ⟨fun j hj => ?_, by rw [show n + (k + 1) = n + 1 + k by omega]; exact ih.2⟩
      cases j with
      | zero => exact h0
      | succ j => rw [show n + (j + 1) = n + 1 + j by omega]; exact ih.1 j (by omega)
    · rw [if_pos h0] at h
      simp only [Prod.mk.injEq] at h
      exact absurd h.1 h0
/-- what a step that goes on says -/
theorem stepC_ok {p : List I5} {cl : Nat → Option St} {n : Nat} {come : Option St} (h : (stepC p cl n come).1 = 0) :
    (markB p n = true → liesO come (cl n) = true) ∧ ∀ s, (if markB p n then cl n else come) = some s →
      dangR (insAt p n) s = 0 ∧ (9 ≤ (insAt p n).o → liesO (flowFar (insAt p n) s) (cl (insAt p n).k.toNat) = true) ∧ (stepC p cl n come).2 = flowOn (insAt p n) s := by
  unfold stepC at h ⊢
  by_cases h1 : (markB p n && !liesO come (cl n)) = true
  · rw [if_pos h1] at h; simp at h
  · rw [if_neg h1] at h ⊢
    refine ⟨fun hm => by simpa [hm] using h1, fun s hs => ?_⟩
    rw [hs] at h ⊢
    simp only at h ⊢
    by_cases h2 : dangR (insAt p n) s = 0
    · rw [if_neg (by simp [h2])] at h ⊢
      by_cases h3 : (decide (9 ≤ (insAt p n).o) && !liesO (flowFar (insAt p n) s) (cl (insAt p n).k.toNat)) = true
      · rw [if_pos h3] at h; simp at h
      · rw [if_neg h3]
        exact ⟨h2, fun h9 => by simpa [h9] using h3, rfl⟩
    · rw [if_pos h2] at h; exact absurd h h2
theorem stepC_none {p : List I5} {cl : Nat → Option St} {n : Nat} {come : Option St} (h : (if markB p n then cl n else come) = none) : (stepC p cl n come).2 = none := by
  unfold stepC
  split
  · rfl
  · rw [h]
/-- a certificate that is taken -/
structure Taken (p : List I5) (cl : Nat → Option St) (e : St) : Prop where
  regs : ∀ n, n < p.length → RegsIn (insAt p n) ∧ 0 ≤ (insAt p n).o ∧ (insAt p n).o < 12 ∧ I64 (insAt p n).k
  jump : ∀ n, n < p.length → 9 ≤ (insAt p n).o → 0 ≤ (insAt p n).k ∧ (insAt p n).k.toNat < p.length
  pass : passC p cl p.length 0 (some e) = (0, 0)
  clok : ∀ n s, cl n = some s → s.ok ∧ s.in64
  eok : e.ok ∧ e.in64
theorem liesO_some {s : St} {y : Option St} (h : liesO (some s) y = true) : ∃ t, y = some t ∧ liesR s t = true := by
  cases y with
  | none => cases h
  | some t => exact ⟨t, rfl, h⟩
theorem Taken.steps {p : List I5} {cl : Nat → Option St} {e : St} (h : Taken p cl e) : (∀ n, n < p.length → (stepC p cl n (comeC p cl e n)).1 = 0) ∧ comeC p cl e p.length = none := by
  have := passC_spec p.length 0 h.pass
  simpa using this
theorem Taken.come_ok {p : List I5} {cl : Nat → Option St} {e : St} (h : Taken p cl e) : ∀ n, n ≤ p.length → ∀ s, comeC p cl e n = some s → s.ok ∧ s.in64
  | 0, _, s, hs => by
    unfold comeC at hs
    simp only [Option.some.injEq] at hs
    rw [← hs]; exact h.eok
  | n + 1, hn, s, hs => by
    have ih := h.come_ok n (by omega)
    unfold comeC at hs
    have h0 := stepC_ok (h.steps.1 n (by omega))
    cases hh : (if markB p n then cl n else comeC p cl e n) with
    | none => rw [stepC_none hh] at hs; cases hs
    | some t =>
      have ht : t.ok ∧ t.in64 := by
        split at hh
        · exact h.clok n t hh
        · exact ih t hh
      obtain ⟨_, _, h3⟩ := h0.2 t hh
      rw [h3] at hs
      have hr := h.regs n (by omega)
      exact flowOn_keeps hr.1 hr.2.2.2 ht.1 ht.2 hs
theorem Taken.here_ok {p : List I5} {cl : Nat → Option St} {e : St} (h : Taken p cl e) {n : Nat} (hn : n ≤ p.length) {s : St} (hs : hereC p cl e n = some s) : s.ok ∧ s.in64 := by
  unfold hereC at hs
  split at hs
  · exact h.clok n s hs
  · exact h.come_ok n hn s hs
theorem markB_of {p : List I5} {n : Nat} (hn : n < p.length) (h9 : 9 ≤ (insAt p n).o) (hk : 0 ≤ (insAt p n).k) : markB p (insAt p n).k.toNat = true := by
  unfold markB
  rw [List.any_eq_true]
  refine ⟨insAt p n, ?_, ?_⟩
  · unfold insAt; rw [List.getElem?_eq_getElem hn]; exact List.getElem_mem hn
  · simp [h9]; omega
/-- registers that come to n with what comes there lie in the state there -/
theorem Taken.arrive {p : List I5} {cl : Nat → Option St} {e : St} (h : Taken p cl e) {n : Nat} (hn : n ≤ p.length) {r : Nat → Int} {s : St} (hs : comeC p cl e n = some s) (hr : inS r s) : n < p.length ∧ ∃ t, hereC p cl e n = some t ∧ inS r t := by
  have hlt : n < p.length := by
    rcases Nat.lt_or_eq_of_le hn with h1 | h1
    · exact h1
    · rw [h1, h.steps.2] at hs; cases hs
  refine ⟨hlt, ?_⟩
  unfold hereC
  by_cases hm : markB p n = true
  · rw [if_pos hm]
    have h1 := (stepC_ok (h.steps.1 n hlt)).1 hm
    rw [hs] at h1
    obtain ⟨t, ht, hl⟩ := liesO_some h1
    exact ⟨t, ht, inS_lies hr hl⟩
  · rw [if_neg hm]; exact ⟨s, hs, hr⟩
/-- a run of what is taken -/
theorem Taken.run {p : List I5} {cl : Nat → Option St} {e : St} (h : Taken p cl e) : ∀ (k : Nat) (m : MS), m.pc < p.length → (∃ s, hereC p cl e m.pc = some s ∧ inS m.r s) → (∀ j, I64 (m.m j)) →
    ((runR p k m).2.kind = 1 ∨ (runR p k m).2.kind = 2) ∧ ∀ v, v ∈ (runR p k m).1 → ∃ s, hereC p cl e v.pc = some s ∧ inS v.r s
  | 0, m, hpc, _, _ => by
    rw [runR_fuel (by omega)]
    exact ⟨Or.inr rfl, fun v hv => by cases hv⟩
  | k + 1, m, hpc, hg, hw => by
    obtain ⟨s, hs, hr⟩ := hg
    have hok := h.here_ok (by omega) hs
    have h0 := stepC_ok (h.steps.1 m.pc hpc)
    obtain ⟨hd, hf, ho⟩ := h0.2 s hs
    have hri := h.regs m.pc hpc
    have hsound := doI_sound (i := insAt p m.pc) (s := s) (m := nxt m) hri.1 ⟨hri.2.1, hri.2.2.1⟩ hok.2 hr hw hd
    rcases hsound with ⟨h1, _⟩ | ⟨h1, hw2, hc⟩
    · have e1 : (doAt p m).1 ≠ 0 := by show (doI (insAt p m.pc) (nxt m)).1 ≠ 0; rw [h1]; omega
      rw [runR_stop (by omega) e1]
      refine ⟨Or.inl ?_, fun v hv => ?_⟩
      · exact h1
      · simp only [List.mem_singleton] at hv
        rw [hv]; exact ⟨s, hs, hr⟩
    · have e1 : (doAt p m).1 = 0 := h1
      rw [runR_go (by omega) e1]
      have hnext : (doAt p m).2.pc < p.length ∧ ∃ t, hereC p cl e (doAt p m).2.pc = some t ∧ inS (doAt p m).2.r t := by
        rcases hc with ⟨hp, s', hs', hr'⟩ | ⟨h9, hp, s', hs', hr'⟩
        · have hp2 : (doAt p m).2.pc = m.pc + 1 := hp
          rw [hp2]
          refine h.arrive (n := m.pc + 1) (by omega) ?_ hr'
          show (stepC p cl m.pc (comeC p cl e m.pc)).2 = some s'
          rw [ho]; exact hs'
        · have hp2 : (doAt p m).2.pc = (insAt p m.pc).k.toNat := hp
          have hj := h.jump m.pc hpc h9
          rw [hp2]
          refine ⟨hj.2, ?_⟩
          have hl := hf h9
          rw [hs'] at hl
          obtain ⟨t, ht, hlt⟩ := liesO_some hl
          refine ⟨t, ?_, inS_lies hr' hlt⟩
          unfold hereC
          rw [if_pos (markB_of hpc h9 hj.1)]; exact ht
      have ih := h.run k (doAt p m).2 hnext.1 hnext.2 hw2
      refine ⟨ih.1, fun v hv => ?_⟩
      rcases List.mem_cons.1 hv with hv | hv
      · rw [hv]; exact ⟨s, hs, hr⟩
      · exact ih.2 v hv
/-- a run within the entry -/
theorem Taken.safe {p : List I5} {cl : Nat → Option St} {e : St} (h : Taken p cl e) (r : Nat → Int) (hr : inS r e) (k : Nat) :
    ((runR p k (startS r)).2.kind = 1 ∨ (runR p k (startS r)).2.kind = 2) ∧ ∀ v, v ∈ (runR p k (startS r)).1 → markB p v.pc = true → ∃ s, cl v.pc = some s ∧ inS v.r s := by
  obtain ⟨h0, h1⟩ := h.arrive (n := 0) (by omega) (r := r) (s := e) rfl hr
  have := h.run k (startS r) h0 h1 (fun j => by show I64 0; unfold I64; omega)
  refine ⟨this.1, fun v hv hm => ?_⟩
  obtain ⟨s, hs, hi⟩ := this.2 v hv
  unfold hereC at hs
  rw [if_pos hm] at hs
  exact ⟨s, hs, hi⟩
theorem liesO_trans {x y z : Option St} (h : liesO x y = true) (k : liesO y z = true) : liesO x z = true := by
  cases x with
  | none => rfl
  | some s =>
    obtain ⟨t, rfl, h⟩ := liesO_some h
    obtain ⟨u, rfl, k⟩ := liesO_some k
    exact lies_trans h k
theorem liesO_refl (x : Option St) : liesO x x = true := by
  cases x with
  | none => rfl
  | some s => exact lies_refl s
theorem liesO_far {i : I5} {s t : St} (hi : RegsIn i) (h64 : s.in64) (h : liesR s t = true) : liesO (flowFar i s) (flowFar i t) = true := by
  cases hf : flowFar i s with
  | none => rfl
  | some u => obtain ⟨v, hv, hl⟩ := flowFar_mono hi h64 h hf; rw [hv]; exact hl
theorem liesO_on {i : I5} {s t : St} (hi : RegsIn i) (hok : s.ok) (h64 : t.in64) (h : liesR s t = true) : liesO (flowOn i s) (flowOn i t) = true := by
  cases hf : flowOn i s with
  | none => rfl
  | some u => obtain ⟨v, hv, hl⟩ := flowOn_mono hi hok h64 h hf; rw [hv]; exact hl
/-- a step with less: no error, and less goes on -/
theorem stepC_mono {p : List I5} {cl : Nat → Option St} {n : Nat} {x y : Option St} (hi : RegsIn (insAt p n)) (hx : ∀ s, x = some s → s.ok ∧ s.in64) (hy : ∀ s, y = some s → s.in64) (h : liesO x y = true) (h0 : (stepC p cl n y).1 = 0) :
    (stepC p cl n x).1 = 0 ∧ liesO (stepC p cl n x).2 (stepC p cl n y).2 = true := by
  have hs := stepC_ok h0
  by_cases hm : markB p n = true
  · have hl := liesO_trans h (hs.1 hm)
    have e : stepC p cl n x = stepC p cl n y := by
      unfold stepC
      simp only [hm, if_true, hl, hs.1 hm]
    rw [e]; exact ⟨h0, liesO_refl _⟩
  · have hm' : markB p n = false := by simpa using hm
    cases x with
    | none =>
      have e : stepC p cl n none = (0, none) := by unfold stepC; simp [hm']
      rw [e]; exact ⟨rfl, rfl⟩
    | some s =>
      obtain ⟨t, rfl, hl⟩ := liesO_some h
      obtain ⟨h1, h2, h3⟩ := hs.2 t (by rw [hm']; rfl)
      have hso := hx s rfl
      have hd := dang_mono hi hl h1
      have hf : 9 ≤ (insAt p n).o → liesO (flowFar (insAt p n) s) (cl (insAt p n).k.toNat) = true := fun h9 => liesO_trans (liesO_far hi hso.2 hl) (h2 h9)
      have e : stepC p cl n (some s) = (0, flowOn (insAt p n) s) := by
        unfold stepC
        simp only [hm', Bool.false_and, Bool.false_eq_true, if_false]
        rw [if_neg (by simp [hd])]
        rw [if_neg]
        simp only [Bool.and_eq_true, decide_eq_true_eq, Bool.not_eq_true', not_and, Bool.not_eq_false]
        exact hf
      rw [e, h3]
      exact ⟨rfl, liesO_on hi hso.1 (hy t rfl) hl⟩
theorem passC_of {p : List I5} {cl : Nat → Option St} {e : St} : ∀ (k n : Nat), (∀ j, j < k → (stepC p cl (n + j) (comeC p cl e (n + j))).1 = 0) → comeC p cl e (n + k) = none → passC p cl k n (comeC p cl e n) = (0, 0)
  | 0, n, _, hn => by unfold passC; rw [Nat.add_zero] at hn; rw [hn]; rfl
  | k + 1, n, h, hn => by
    unfold passC
    have h0 := h 0 (by omega)
    rw [Nat.add_zero] at h0
    rw [if_neg (by simp [h0])]
    exact passC_of k (n + 1) (fun j hj => by have := h (j + 1) (by omega); rwa [show n + (j + 1) = n + 1 + j by omega] at this) (by rw [show n + 1 + k = n + (k + 1) by omega]; exact hn)
theorem Taken.narrow {p : List I5} {cl : Nat → Option St} {e e' : St} (h : Taken p cl e) (hok : e'.ok ∧ e'.in64) (hl : liesR e' e = true) : Taken p cl e' := by
  have key : ∀ n, n ≤ p.length → liesO (comeC p cl e' n) (comeC p cl e n) = true ∧ (∀ s, comeC p cl e' n = some s → s.ok ∧ s.in64) ∧ (∀ j, j < n → (stepC p cl j (comeC p cl e' j)).1 = 0) := by
    intro n
    induction n with
    | zero => intro _; exact ⟨hl, fun s hs => by unfold comeC at hs; simp only [Option.some.injEq] at hs; rw [← hs]; exact hok, fun j hj => by omega⟩
    | succ n ih =>
      intro hn
      obtain ⟨h1, h2, h3⟩ := ih (by omega)
      have hr := h.regs n (by omega)
      have hm := stepC_mono (p := p) (cl := cl) (n := n) hr.1 h2 (fun s hs => (h.come_ok n (by omega) s hs).2) h1 (h.steps.1 n (by omega))
      refine ⟨hm.2, fun s hs => ?_, fun j hj => ?_⟩
      · have h0 := stepC_ok hm.1
        have hs' : (stepC p cl n (comeC p cl e' n)).2 = some s := hs
        cases hh : (if markB p n then cl n else comeC p cl e' n) with
        | none => rw [stepC_none hh] at hs'; cases hs'
        | some t =>
          have ht : t.ok ∧ t.in64 := by
            split at hh
            · exact h.clok n t hh
            · exact h2 t hh
          obtain ⟨_, _, h5⟩ := h0.2 t hh
          rw [h5] at hs'
          exact flowOn_keeps hr.1 hr.2.2.2 ht.1 ht.2 hs'
      · rcases Nat.lt_succ_iff_lt_or_eq.1 hj with h4 | h4
        · exact h3 j h4
        · rw [h4]; exact hm.1
  obtain ⟨k1, _, k3⟩ := key p.length (Nat.le_refl _)
  refine ⟨h.regs, h.jump, passC_of p.length 0 (fun j hj => by rw [Nat.zero_add]; exact k3 j hj) ?_, h.clok, hok⟩
  rw [Nat.zero_add]
  rw [h.steps.2] at k1
  cases hc : comeC p cl e' p.length with
  | none => rfl
  | some s => rw [hc] at k1; cases k1
end Go.Proofs.YtamiichlbmllcaaGreatDoor
