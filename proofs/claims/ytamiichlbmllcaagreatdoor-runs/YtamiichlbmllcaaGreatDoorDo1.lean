/-
  What each instruction does: the contracts of the methods 'do' of package machine (the plain ones).
-/
import Derived.Test.YtamiichlbmllcaaGreatDoorMSpec
namespace Go.Proofs.YtamiichlbmllcaaGreatDoor
open Go.RowKit
theorem belA (w : World) (o : Obj) : Below w.heap.size w (w.alloc o) := (Below.refl _ _).alloc (Nat.le_refl _) o
theorem belAD (w : World) (o : Obj) : Below w.heap.size w (w.alloc o).drew := (belA w o).drew
theorem belAN (w : World) (o : Obj) (n : Nat) : Below w.heap.size w ((w.alloc o).drewN n) := below_drewN (belA w o) n
theorem fin2 {g : Nat} {w w1 w2 : World} {pv : Value} {s : MS} {F : Int} {o : O4} (h : MRow w1 g pv s F o) (b : But g w w1) (hb : Below w1.heap.size w1 w2) : MRow w2 g pv s F o ∧ But g w w2 := ⟨h.bel hb, b.trans (But.ofBelow hb)⟩
set_option maxHeartbeats 400000 in
theorem set_do (a : Nat) (k : Int) (ha : a < 8) (g : Nat) (pv : Value) (s : MS) (F : Int) (o : O4) (w : World) (h : MRow w g pv s F o) :
    Calls Tryz.prog 162 #[.agg #[.int .i64 a, .int .i64 k], .pointer (some ⟨g, 0, none⟩)] w fun e w' => e = .returned (.int .i64 0) ∧ MRow w' g pv { s with r := upd s.r a k } F o ∧ But g w w' := by
  obtain ⟨c1, f1⟩ := h.reg a ha
  have hg := RowF.lt h
  go_enter Tryz.func162, Tryz.ntmps162
  go_wp2_with fail
  go_region
  go_wp2
  go_ret
  exact ⟨rfl, fin2 (h.setReg a ha k) (But.set _ _ _ _) (belAD _ _)⟩
set_option maxHeartbeats 400000 in
theorem move_do (a b : Nat) (ha : a < 8) (hb : b < 8) (g : Nat) (pv : Value) (s : MS) (F : Int) (o : O4) (w : World) (h : MRow w g pv s F o) :
    Calls Tryz.prog 167 #[.agg #[.int .i64 a, .int .i64 b], .pointer (some ⟨g, 0, none⟩)] w fun e w' => e = .returned (.int .i64 0) ∧ MRow w' g pv { s with r := upd s.r a (s.r b) } F o ∧ But g w w' := by
  obtain ⟨c1, f1⟩ := h.reg a ha
  obtain ⟨c2, f2⟩ := h.reg b hb
  have hg := RowF.lt h
  go_enter Tryz.func167, Tryz.ntmps167
  go_wp2_with fail
  go_region
  go_wp2
  go_ret
  exact ⟨rfl, fin2 (h.setReg a ha _) (But.set _ _ _ _) (belAD _ _)⟩
set_option maxHeartbeats 400000 in
theorem left_do (a b c : Int) (b' : Nat) (hbe : b = b') (hb : b' < 8) (g : Nat) (pv : Value) (s : MS) (F : Int) (o : O4) (w : World) (h : MRow w g pv s F o) :
    Calls Tryz.prog 161 #[.agg #[.int .i64 a, .int .i64 b, .int .i64 c], .pointer (some ⟨g, 0, none⟩)] w fun e w' => e = .returned (.int .i64 (s.r b')) ∧ Below w.heap.size w w' := by
  subst hbe
  obtain ⟨c2, f2⟩ := h.reg b' hb
  have hg := RowF.lt h
  go_enter Tryz.func161, Tryz.ntmps161
  go_wp2_with fail
  go_region
  go_wp2
  go_ret
  exact ⟨rfl, belAD _ _⟩
set_option maxHeartbeats 400000 in
theorem right_do (a b c : Int) (b' : Nat) (hbe : c = b') (hb : b' < 8) (g : Nat) (pv : Value) (s : MS) (F : Int) (o : O4) (w : World) (h : MRow w g pv s F o) :
    Calls Tryz.prog 172 #[.agg #[.int .i64 a, .int .i64 b, .int .i64 c], .pointer (some ⟨g, 0, none⟩)] w fun e w' => e = .returned (.int .i64 (s.r b')) ∧ Below w.heap.size w w' := by
  subst hbe
  obtain ⟨c2, f2⟩ := h.reg b' hb
  have hg := RowF.lt h
  go_enter Tryz.func172, Tryz.ntmps172
  go_wp2_with fail
  go_region
  go_wp2
  go_ret
  exact ⟨rfl, belAD _ _⟩
set_option maxHeartbeats 400000 in
theorem put_do (b c : Int) (a : Nat) (v : Int) (ha : a < 8) (g : Nat) (pv : Value) (s : MS) (F : Int) (o : O4) (w : World) (h : MRow w g pv s F o) :
    Calls Tryz.prog 171 #[.agg #[.int .i64 a, .int .i64 b, .int .i64 c], .pointer (some ⟨g, 0, none⟩), .int .i64 v] w fun e w' => e = .returned (.int .i64 0) ∧ MRow w' g pv { s with r := upd s.r a v } F o ∧ But g w w' := by
  obtain ⟨c1, f1⟩ := h.reg a ha
  have hg := RowF.lt h
  go_enter Tryz.func171, Tryz.ntmps171
  go_wp2_with fail
  go_region
  go_wp2
  go_ret
  exact ⟨rfl, fin2 (h.setReg a ha v) (But.set _ _ _ _) (belAD _ _)⟩
set_option maxHeartbeats 400000 in
theorem halt_do (g : Nat) (w : World) :
    Calls Tryz.prog 204 #[.agg #[], .pointer (some ⟨g, 0, none⟩)] w fun e w' => e = .returned (.int .i64 1) ∧ Below w.heap.size w w' := by
  go_enter Tryz.func204, Tryz.ntmps204
  go_wp2
  go_ret
  first | exact ⟨rfl, Below.refl _ _⟩ | exact ⟨rfl, belA _ _⟩
set_option maxHeartbeats 400000 in
theorem jump_do (k : Nat) (g : Nat) (pv : Value) (s : MS) (F : Int) (o : O4) (w : World) (h : MRow w g pv s F o) :
    Calls Tryz.prog 196 #[.agg #[.int .i64 k], .pointer (some ⟨g, 0, none⟩)] w fun e w' => e = .returned (.int .i64 0) ∧ MRow w' g pv { s with pc := k } F o ∧ But g w w' := by
  obtain ⟨_, c1, _⟩ := h.fields
  have f1 := h.free 25
  have hg := RowF.lt h
  go_enter Tryz.func196, Tryz.ntmps196
  go_wp2
  go_ret
  exact ⟨rfl, fin2 (h.setPc k) (But.set _ _ _ _) (belA _ _)⟩
set_option maxHeartbeats 400000 in
theorem less_do (a b k : Nat) (ha : a < 8) (hb : b < 8) (g : Nat) (pv : Value) (s : MS) (F : Int) (o : O4) (w : World) (h : MRow w g pv s F o) :
    Calls Tryz.prog 198 #[.agg #[.int .i64 a, .int .i64 b, .int .i64 k], .pointer (some ⟨g, 0, none⟩)] w fun e w' => e = .returned (.int .i64 0) ∧ MRow w' g pv (if s.r a < s.r b then { s with pc := k } else s) F o ∧ But g w w' := by
  obtain ⟨c1, f1⟩ := h.reg a ha
  obtain ⟨c2, f2⟩ := h.reg b hb
  obtain ⟨_, c3, _⟩ := h.fields
  have f3 := h.free 25
  have hg := RowF.lt h
  by_cases hc : s.r a < s.r b
  · rw [if_pos hc]
    go_enter Tryz.func198, Tryz.ntmps198
    go_wp2_with fail
    go_region
    go_wp2
    go_ret
    exact ⟨rfl, fin2 (h.setPc k) (But.set _ _ _ _) (belAD _ _)⟩
  · rw [if_neg hc]
    go_enter Tryz.func198, Tryz.ntmps198
    go_wp2_with fail
    go_region
    go_wp2
    go_ret
    exact ⟨rfl, fin2 h (But.refl _ _) (belAD _ _)⟩
set_option maxHeartbeats 400000 in
theorem same_do (a b k : Nat) (ha : a < 8) (hb : b < 8) (g : Nat) (pv : Value) (s : MS) (F : Int) (o : O4) (w : World) (h : MRow w g pv s F o) :
    Calls Tryz.prog 201 #[.agg #[.int .i64 a, .int .i64 b, .int .i64 k], .pointer (some ⟨g, 0, none⟩)] w fun e w' => e = .returned (.int .i64 0) ∧ MRow w' g pv (if s.r a = s.r b then { s with pc := k } else s) F o ∧ But g w w' := by
  obtain ⟨c1, f1⟩ := h.reg a ha
  obtain ⟨c2, f2⟩ := h.reg b hb
  obtain ⟨_, c3, _⟩ := h.fields
  have f3 := h.free 25
  have hg := RowF.lt h
  by_cases hc : s.r a = s.r b
  · rw [if_pos hc]
    have hq : (s.r a == s.r b) = true := by simpa using hc
    clear hc
    go_enter Tryz.func201, Tryz.ntmps201
    go_wp2_with fail
    go_region
    go_wp2
    go_ret
    exact ⟨rfl, fin2 (h.setPc k) (But.set _ _ _ _) (belAD _ _)⟩
  · rw [if_neg hc]
    have hq : (s.r a == s.r b) = false := by simpa using hc
    clear hc
    go_enter Tryz.func201, Tryz.ntmps201
    go_wp2_with fail
    go_region
    go_wp2
    go_ret
    exact ⟨rfl, fin2 h (But.refl _ _) (belAD _ _)⟩
end Go.Proofs.YtamiichlbmllcaaGreatDoor
