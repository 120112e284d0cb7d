import Derived.Test.YtamiichlbmllcabGreatDoorQKn
import Derived.Test.YtamiichlbmllcabGreatDoorQLawB
import Derived.Deep.RegionHeld3
set_option maxRecDepth 100000
set_option maxHeartbeats 32000000
namespace Go.Proofs.YtamiichlbmllcabGreatDoor
open Go.RowKit
structure MS where
 r : Nat -> Int
 m : Nat -> Int
 pc : Nat
 n : Nat
def upd (f : Nat -> Int) (a : Nat) (v : Int) : Nat -> Int := fun j => if j = a then v else f j
structure O4 where
 kind : Int
 place : Int
 value : Int
 steps : Int
def O4.zero : O4 := ⟨0, 0, 0, 0⟩
def O4.val (o : O4) : Value := .agg #[.int .i64 o.kind, .int .i64 o.place, .int .i64 o.value, .int .i64 o.steps]
def doI (i : I5) (s : MS) : Int × MS :=
 if i.o = 1 then (0, { s with r := upd s.r i.a.toNat i.k })
 else if i.o = 2 then (0, { s with r := upd s.r i.a.toNat (s.r i.b.toNat) })
 else if i.o = 3 then (0, { s with r := upd s.r i.a.toNat (wrap64 (s.r i.b.toNat + s.r i.c.toNat)) })
 else if i.o = 4 then (0, { s with r := upd s.r i.a.toNat (wrap64 (s.r i.b.toNat - s.r i.c.toNat)) })
 else if i.o = 5 then (0, { s with r := upd s.r i.a.toNat (wrap64 (s.r i.b.toNat * s.r i.c.toNat)) })
 else if i.o = 6 then (if s.r i.c.toNat = 0 then (3, s) else (0, { s with r := upd s.r i.a.toNat (wrap64 ((s.r i.b.toNat).tdiv (s.r i.c.toNat))) }))
 else if i.o = 7 then (if 0 <= s.r i.b.toNat /\ s.r i.b.toNat < 16 then (0, { s with r := upd s.r i.a.toNat (s.m (s.r i.b.toNat).toNat) }) else (4, s))
 else if i.o = 8 then (if 0 <= s.r i.a.toNat /\ s.r i.a.toNat < 16 then (0, { s with m := upd s.m (s.r i.a.toNat).toNat (s.r i.b.toNat) }) else (4, s))
 else if i.o = 9 then (0, { s with pc := i.k.toNat })
 else if i.o = 10 then (0, if s.r i.a.toNat < s.r i.b.toNat then { s with pc := i.k.toNat } else s)
 else if i.o = 11 then (0, if s.r i.a.toNat = s.r i.b.toNat then { s with pc := i.k.toNat } else s)
 else (1, s)
def mcell (pv : Value) (s : MS) (F : Int) (o : O4) (j : Nat) : Value :=
 if j = 0 then pv else if j < 9 then .int .i64 (s.r (j - 1)) else if j < 25 then .int .i64 (s.m (j - 9)) else if j = 25 then .int .i64 s.pc else if j = 26 then .int .i64 s.n else if j = 27 then .int .i64 F
 else if j = 28 then .int .i64 o.kind else if j = 29 then .int .i64 o.place else if j = 30 then .int .i64 o.value else .int .i64 o.steps
def MRow (w : World) (g : Nat) (pv : Value) (s : MS) (F : Int) (o : O4) : Prop := RowF w g 82 32 (mcell pv s F o)
theorem MRow.reg {w : World} {g : Nat} {pv : Value} {s : MS} {F : Int} {o : O4} (h : MRow w g pv s F o) (a : Nat) (ha : a < 8) : w.cell? ⟨g, 1 + a, none⟩ = some (.int .i64 (s.r a)) /\ w.frozen? ⟨g, 1 + a, none⟩ = false := by
 have := h.cell (1 + a) (by omega)
 unfold mcell at this
 rw [if_neg (by omega), if_pos (by omega), show 1 + a - 1 = a by omega] at this
 exact this
theorem MRow.word {w : World} {g : Nat} {pv : Value} {s : MS} {F : Int} {o : O4} (h : MRow w g pv s F o) (a : Nat) (ha : a < 16) : w.cell? ⟨g, 9 + a, none⟩ = some (.int .i64 (s.m a)) /\ w.frozen? ⟨g, 9 + a, none⟩ = false := by
 have := h.cell (9 + a) (by omega)
 unfold mcell at this
 rw [if_neg (by omega), if_neg (by omega), if_pos (by omega), show 9 + a - 9 = a by omega] at this
 exact this
theorem MRow.fields {w : World} {g : Nat} {pv : Value} {s : MS} {F : Int} {o : O4} (h : MRow w g pv s F o) : w.cell? ⟨g, 0, none⟩ = some pv /\ w.cell? ⟨g, 25, none⟩ = some (.int .i64 s.pc) /\ w.cell? ⟨g, 26, none⟩ = some (.int .i64 s.n) /\ w.cell? ⟨g, 27, none⟩ = some (.int .i64 F) /\
 w.cell? ⟨g, 28, none⟩ = some (.int .i64 o.kind) /\ w.cell? ⟨g, 29, none⟩ = some (.int .i64 o.place) /\ w.cell? ⟨g, 30, none⟩ = some (.int .i64 o.value) /\ w.cell? ⟨g, 31, none⟩ = some (.int .i64 o.steps) :=
 ⟨(h.cell 0 (by omega)).1, (h.cell 25 (by omega)).1, (h.cell 26 (by omega)).1, (h.cell 27 (by omega)).1, (h.cell 28 (by omega)).1, (h.cell 29 (by omega)).1, (h.cell 30 (by omega)).1, (h.cell 31 (by omega)).1⟩
theorem MRow.free {w : World} {g : Nat} {pv : Value} {s : MS} {F : Int} {o : O4} (h : MRow w g pv s F o) (j : Nat) : w.frozen? ⟨g, j, none⟩ = false := by
 obtain ⟨A, h1, _⟩ := h
 simp [World.frozen?, h1]
theorem MRow.setReg {w : World} {g : Nat} {pv : Value} {s : MS} {F : Int} {o : O4} (h : MRow w g pv s F o) (a : Nat) (ha : a < 8) (v : Int) : MRow (w.setCell ⟨g, 1 + a, none⟩ (.int .i64 v)) g pv { s with r := upd s.r a v } F o := by
 refine (RowF.set h (1 + a) (.int .i64 v)).congr fun j hj => ?_
 unfold mcell upd
 simp only
 by_cases h0 : j = 1 + a
 · subst h0
   rw [if_pos rfl, if_neg (by omega), if_pos (by omega), if_pos (by omega)]
 · rw [if_neg h0]
   by_cases h1 : j = 0
   · rw [if_pos h1, if_pos h1]
   · rw [if_neg h1, if_neg h1]
     by_cases h2 : j < 9
     · rw [if_pos h2, if_pos h2, if_neg (by omega)]
     · rw [if_neg h2, if_neg h2]
theorem MRow.setWord {w : World} {g : Nat} {pv : Value} {s : MS} {F : Int} {o : O4} (h : MRow w g pv s F o) (a : Nat) (ha : a < 16) (v : Int) : MRow (w.setCell ⟨g, 9 + a, none⟩ (.int .i64 v)) g pv { s with m := upd s.m a v } F o := by
 refine (RowF.set h (9 + a) (.int .i64 v)).congr fun j hj => ?_
 unfold mcell upd
 simp only
 by_cases h0 : j = 9 + a
 · subst h0
   rw [if_pos rfl, if_neg (by omega), if_neg (by omega), if_pos (by omega), if_pos (by omega)]
 · rw [if_neg h0]
   by_cases h1 : j = 0
   · rw [if_pos h1, if_pos h1]
   · rw [if_neg h1, if_neg h1]
     by_cases h2 : j < 9
     · rw [if_pos h2, if_pos h2]
     · rw [if_neg h2, if_neg h2]
       by_cases h3 : j < 25
       · rw [if_pos h3, if_pos h3, if_neg (by omega)]
       · rw [if_neg h3, if_neg h3]
theorem MRow.setTail {w : World} {g : Nat} {pv : Value} {s : MS} {F : Int} {o : O4} (h : MRow w g pv s F o) (j0 : Nat) (hj0 : 25 <= j0) (u : Value) (s' : MS) (F' : Int) (o' : O4) (hr : s'.r = s.r) (hm : s'.m = s.m)
 (h2 : ∀ j, 25 <= j -> j < 32 -> j ≠ j0 -> mcell pv s' F' o' j = mcell pv s F o j) (h3 : mcell pv s' F' o' j0 = u) : MRow (w.setCell ⟨g, j0, none⟩ u) g pv s' F' o' := by
 refine (RowF.set h j0 u).congr fun j hj => ?_
 by_cases h0 : j = j0
 · subst h0; rw [if_pos rfl, h3]
 · rw [if_neg h0]
   by_cases h1 : 25 <= j
   · exact (h2 j h1 hj h0).symm
   · unfold mcell
     rw [hr, hm]
     by_cases h4 : j = 0
     · rw [if_pos h4, if_pos h4]
     · rw [if_neg h4, if_neg h4]
       by_cases h5 : j < 9
       · rw [if_pos h5, if_pos h5]
       · rw [if_neg h5, if_neg h5, if_pos (by omega), if_pos (by omega)]
theorem tail_cases {j : Nat} (h : 25 <= j) (h2 : j < 32) : j = 25 \/ j = 26 \/ j = 27 \/ j = 28 \/ j = 29 \/ j = 30 \/ j = 31 := by omega
theorem MRow.setPc {w : World} {g : Nat} {pv : Value} {s : MS} {F : Int} {o : O4} (h : MRow w g pv s F o) (p : Nat) : MRow (w.setCell ⟨g, 25, none⟩ (.int .i64 p)) g pv { s with pc := p } F o :=
 h.setTail 25 (by omega) _ _ _ _ rfl rfl (fun j h1 h2 h3 => by rcases tail_cases h1 h2 with rfl | rfl | rfl | rfl | rfl | rfl | rfl <;> first | rfl | exact absurd rfl h3) rfl
theorem MRow.setN {w : World} {g : Nat} {pv : Value} {s : MS} {F : Int} {o : O4} (h : MRow w g pv s F o) (p : Nat) : MRow (w.setCell ⟨g, 26, none⟩ (.int .i64 p)) g pv { s with n := p } F o :=
 h.setTail 26 (by omega) _ _ _ _ rfl rfl (fun j h1 h2 h3 => by rcases tail_cases h1 h2 with rfl | rfl | rfl | rfl | rfl | rfl | rfl <;> first | rfl | exact absurd rfl h3) rfl
theorem MRow.setKind {w : World} {g : Nat} {pv : Value} {s : MS} {F : Int} {o : O4} (h : MRow w g pv s F o) (p : Int) : MRow (w.setCell ⟨g, 28, none⟩ (.int .i64 p)) g pv s F { o with kind := p } :=
 h.setTail 28 (by omega) _ _ _ _ rfl rfl (fun j h1 h2 h3 => by rcases tail_cases h1 h2 with rfl | rfl | rfl | rfl | rfl | rfl | rfl <;> first | rfl | exact absurd rfl h3) rfl
theorem MRow.setPlace {w : World} {g : Nat} {pv : Value} {s : MS} {F : Int} {o : O4} (h : MRow w g pv s F o) (p : Int) : MRow (w.setCell ⟨g, 29, none⟩ (.int .i64 p)) g pv s F { o with place := p } :=
 h.setTail 29 (by omega) _ _ _ _ rfl rfl (fun j h1 h2 h3 => by rcases tail_cases h1 h2 with rfl | rfl | rfl | rfl | rfl | rfl | rfl <;> first | rfl | exact absurd rfl h3) rfl
theorem MRow.setValue {w : World} {g : Nat} {pv : Value} {s : MS} {F : Int} {o : O4} (h : MRow w g pv s F o) (p : Int) : MRow (w.setCell ⟨g, 30, none⟩ (.int .i64 p)) g pv s F { o with value := p } :=
 h.setTail 30 (by omega) _ _ _ _ rfl rfl (fun j h1 h2 h3 => by rcases tail_cases h1 h2 with rfl | rfl | rfl | rfl | rfl | rfl | rfl <;> first | rfl | exact absurd rfl h3) rfl
theorem MRow.setSteps {w : World} {g : Nat} {pv : Value} {s : MS} {F : Int} {o : O4} (h : MRow w g pv s F o) (p : Int) : MRow (w.setCell ⟨g, 31, none⟩ (.int .i64 p)) g pv s F { o with steps := p } :=
 h.setTail 31 (by omega) _ _ _ _ rfl rfl (fun j h1 h2 h3 => by rcases tail_cases h1 h2 with rfl | rfl | rfl | rfl | rfl | rfl | rfl <;> first | rfl | exact absurd rfl h3) rfl
theorem MRow.bel {w w' : World} {g : Nat} {pv : Value} {s : MS} {F : Int} {o : O4} (h : MRow w g pv s F o) (hb : Below w.heap.size w w') : MRow w' g pv s F o := RowF.block h (hb.block g (RowF.lt h))
theorem belA (w : World) (o : Obj) : Below w.heap.size w (w.alloc o) := (Below.refl _ _).alloc (Nat.le_refl _) o
theorem belAD (w : World) (o : Obj) : Below w.heap.size w (w.alloc o).drew := (belA w o).drew
theorem belAN (w : World) (o : Obj) (n : Nat) : Below w.heap.size w ((w.alloc o).drewN n) := below_drewN (belA w o) n
theorem fin2 {g : Nat} {w w1 w2 : World} {pv : Value} {s : MS} {F : Int} {o : O4} (h : MRow w1 g pv s F o) (b : But g w w1) (hb : Below w1.heap.size w1 w2) : MRow w2 g pv s F o /\ But g w w2 := ⟨h.bel hb, b.trans (But.ofBelow hb)⟩
theorem set_do (a : Nat) (k : Int) (ha : a < 8) (g : Nat) (pv : Value) (s : MS) (F : Int) (o : O4) (w : World) (h : MRow w g pv s F o) :
 Calls Tryz.prog 134 #[.agg #[.int .i64 a, .int .i64 k], .pointer (some ⟨g, 0, none⟩)] w fun e w' => e = .returned (.int .i64 0) /\ MRow w' g pv { s with r := upd s.r a k } F o /\ But g w w' := by
 obtain ⟨c1, f1⟩ := h.reg a ha
 have hg := RowF.lt h
 go_enter Tryz.func134, Tryz.ntmps134
 go_wp2_with fail
 go_region
 go_wp2
 go_ret
 exact ⟨rfl, fin2 (h.setReg a ha k) (But.set _ _ _ _) (belAD _ _)⟩
theorem move_do (a b : Nat) (ha : a < 8) (hb : b < 8) (g : Nat) (pv : Value) (s : MS) (F : Int) (o : O4) (w : World) (h : MRow w g pv s F o) :
 Calls Tryz.prog 139 #[.agg #[.int .i64 a, .int .i64 b], .pointer (some ⟨g, 0, none⟩)] w fun e w' => e = .returned (.int .i64 0) /\ MRow w' g pv { s with r := upd s.r a (s.r b) } F o /\ But g w w' := by
 obtain ⟨c1, f1⟩ := h.reg a ha
 obtain ⟨c2, f2⟩ := h.reg b hb
 have hg := RowF.lt h
 go_enter Tryz.func139, Tryz.ntmps139
 go_wp2_with fail
 go_region
 go_wp2
 go_ret
 exact ⟨rfl, fin2 (h.setReg a ha _) (But.set _ _ _ _) (belAD _ _)⟩
theorem left_do (a b c : Int) (b' : Nat) (hbe : b = b') (hb : b' < 8) (g : Nat) (pv : Value) (s : MS) (F : Int) (o : O4) (w : World) (h : MRow w g pv s F o) :
 Calls Tryz.prog 133 #[.agg #[.int .i64 a, .int .i64 b, .int .i64 c], .pointer (some ⟨g, 0, none⟩)] w fun e w' => e = .returned (.int .i64 (s.r b')) /\ Below w.heap.size w w' := by
 subst hbe
 obtain ⟨c2, f2⟩ := h.reg b' hb
 have hg := RowF.lt h
 go_enter Tryz.func133, Tryz.ntmps133
 go_wp2_with fail
 go_region
 go_wp2
 go_ret
 exact ⟨rfl, belAD _ _⟩
theorem right_do (a b c : Int) (b' : Nat) (hbe : c = b') (hb : b' < 8) (g : Nat) (pv : Value) (s : MS) (F : Int) (o : O4) (w : World) (h : MRow w g pv s F o) :
 Calls Tryz.prog 144 #[.agg #[.int .i64 a, .int .i64 b, .int .i64 c], .pointer (some ⟨g, 0, none⟩)] w fun e w' => e = .returned (.int .i64 (s.r b')) /\ Below w.heap.size w w' := by
 subst hbe
 obtain ⟨c2, f2⟩ := h.reg b' hb
 have hg := RowF.lt h
 go_enter Tryz.func144, Tryz.ntmps144
 go_wp2_with fail
 go_region
 go_wp2
 go_ret
 exact ⟨rfl, belAD _ _⟩
theorem put_do (b c : Int) (a : Nat) (v : Int) (ha : a < 8) (g : Nat) (pv : Value) (s : MS) (F : Int) (o : O4) (w : World) (h : MRow w g pv s F o) :
 Calls Tryz.prog 143 #[.agg #[.int .i64 a, .int .i64 b, .int .i64 c], .pointer (some ⟨g, 0, none⟩), .int .i64 v] w fun e w' => e = .returned (.int .i64 0) /\ MRow w' g pv { s with r := upd s.r a v } F o /\ But g w w' := by
 obtain ⟨c1, f1⟩ := h.reg a ha
 have hg := RowF.lt h
 go_enter Tryz.func143, Tryz.ntmps143
 go_wp2_with fail
 go_region
 go_wp2
 go_ret
 exact ⟨rfl, fin2 (h.setReg a ha v) (But.set _ _ _ _) (belAD _ _)⟩
theorem halt_do (g : Nat) (w : World) :
 Calls Tryz.prog 176 #[.agg #[], .pointer (some ⟨g, 0, none⟩)] w fun e w' => e = .returned (.int .i64 1) /\ Below w.heap.size w w' := by
 go_enter Tryz.func176, Tryz.ntmps176
 go_wp2
 go_ret
 first | exact ⟨rfl, Below.refl _ _⟩ | exact ⟨rfl, belA _ _⟩
theorem jump_do (k : Nat) (g : Nat) (pv : Value) (s : MS) (F : Int) (o : O4) (w : World) (h : MRow w g pv s F o) :
 Calls Tryz.prog 168 #[.agg #[.int .i64 k], .pointer (some ⟨g, 0, none⟩)] w fun e w' => e = .returned (.int .i64 0) /\ MRow w' g pv { s with pc := k } F o /\ But g w w' := by
 obtain ⟨_, c1, _⟩ := h.fields
 have f1 := h.free 25
 have hg := RowF.lt h
 go_enter Tryz.func168, Tryz.ntmps168
 go_wp2
 go_ret
 exact ⟨rfl, fin2 (h.setPc k) (But.set _ _ _ _) (belA _ _)⟩
theorem less_do (a b k : Nat) (ha : a < 8) (hb : b < 8) (g : Nat) (pv : Value) (s : MS) (F : Int) (o : O4) (w : World) (h : MRow w g pv s F o) :
 Calls Tryz.prog 170 #[.agg #[.int .i64 a, .int .i64 b, .int .i64 k], .pointer (some ⟨g, 0, none⟩)] w fun e w' => e = .returned (.int .i64 0) /\ MRow w' g pv (if s.r a < s.r b then { s with pc := k } else s) F o /\ But g w w' := by
 obtain ⟨c1, f1⟩ := h.reg a ha
 obtain ⟨c2, f2⟩ := h.reg b hb
 obtain ⟨_, c3, _⟩ := h.fields
 have f3 := h.free 25
 have hg := RowF.lt h
 by_cases hc : s.r a < s.r b
 · rw [if_pos hc]
   go_enter Tryz.func170, Tryz.ntmps170
   go_wp2_with fail
   go_region
   go_wp2
   go_ret
   exact ⟨rfl, fin2 (h.setPc k) (But.set _ _ _ _) (belAD _ _)⟩
 · rw [if_neg hc]
   go_enter Tryz.func170, Tryz.ntmps170
   go_wp2_with fail
   go_region
   go_wp2
   go_ret
   exact ⟨rfl, fin2 h (But.refl _ _) (belAD _ _)⟩
theorem same_do (a b k : Nat) (ha : a < 8) (hb : b < 8) (g : Nat) (pv : Value) (s : MS) (F : Int) (o : O4) (w : World) (h : MRow w g pv s F o) :
 Calls Tryz.prog 173 #[.agg #[.int .i64 a, .int .i64 b, .int .i64 k], .pointer (some ⟨g, 0, none⟩)] w fun e w' => e = .returned (.int .i64 0) /\ MRow w' g pv (if s.r a = s.r b then { s with pc := k } else s) F o /\ But g w w' := by
 obtain ⟨c1, f1⟩ := h.reg a ha
 obtain ⟨c2, f2⟩ := h.reg b hb
 obtain ⟨_, c3, _⟩ := h.fields
 have f3 := h.free 25
 have hg := RowF.lt h
 by_cases hc : s.r a = s.r b
 · rw [if_pos hc]
   have hq : (s.r a == s.r b) = true := by simpa using hc
   clear hc
   go_enter Tryz.func173, Tryz.ntmps173
   go_wp2_with fail
   go_region
   go_wp2
   go_ret
   exact ⟨rfl, fin2 (h.setPc k) (But.set _ _ _ _) (belAD _ _)⟩
 · rw [if_neg hc]
   have hq : (s.r a == s.r b) = false := by simpa using hc
   clear hc
   go_enter Tryz.func173, Tryz.ntmps173
   go_wp2_with fail
   go_region
   go_wp2
   go_ret
   exact ⟨rfl, fin2 h (But.refl _ _) (belAD _ _)⟩
theorem wrap_is (x : Int) : IntKind.i64.wrap x = wrap64 x := by
 have h1 : (2 ^ IntKind.i64.bits : Int) = 18446744073709551616 := by decide
 have h2 : (2 ^ (IntKind.i64.bits - 1) : Int) = 9223372036854775808 := by decide
 have h3 : IntKind.i64.signed = true := rfl
 unfold IntKind.wrap wrap64
 simp only [h1, h2, h3, Bool.true_and, decide_eq_true_eq, ge_iff_le]
 split <;> omega
theorem box3 {w1 : World} {N : Nat} {A B C : Value} {T : TypeId} (hH : w1.heap[N]? = some (.cells #[A, B, C] T (0, 0))) : w1.cell? ⟨N, 0, none⟩ = some A /\ w1.cell? ⟨N, 1, none⟩ = some B /\ w1.cell? ⟨N, 2, none⟩ = some C := by
 refine ⟨?_, ?_, ?_⟩ <;> rw [cell_of_row _ _ _ _ _ _ hH] <;> rfl
theorem box_keep {g : Nat} {w : World} {pv : Value} {s : MS} {F : Int} {o : O4} (h : MRow w g pv s F o) (x : Obj) (w2 : World) (hb2 : Below (w.alloc x).drew.heap.size (w.alloc x).drew w2) : w2.heap[w.heap.size]? = some x /\ MRow w2 g pv s F o /\ But g w w2 := by
 have hb1 := belAD w x
 have hlt : w.heap.size < (w.alloc x).drew.heap.size := lt_of_block (w := (w.alloc x).drew) (heap_alloc_new w x)
 exact ⟨(hb2.block _ hlt).trans (heap_alloc_new w x), (h.bel hb1).bel hb2, (But.ofBelow hb1).trans (But.ofBelow hb2)⟩
theorem add_do (a b c : Nat) (ha : a < 8) (hb : b < 8) (hc : c < 8) (g : Nat) (pv : Value) (s : MS) (F : Int) (o : O4) (w : World) (h : MRow w g pv s F o) :
 Calls Tryz.prog 141 #[.agg #[.int .i64 a, .int .i64 b, .int .i64 c], .pointer (some ⟨g, 0, none⟩)] w fun e w' => e = .returned (.int .i64 0) /\ MRow w' g pv { s with r := upd s.r a (wrap64 (s.r b + s.r c)) } F o /\ But g w w' := by
 have hg := RowF.lt h
 have HX : Hid (∀ w2, Below (w.alloc (.cells #[.int .i64 a, .int .i64 b, .int .i64 c] 134)).drew.heap.size (w.alloc (.cells #[.int .i64 a, .int .i64 b, .int .i64 c] 134)).drew w2 -> w2.heap[w.heap.size]? = some (.cells #[.int .i64 a, .int .i64 b, .int .i64 c] 134 (0, 0)) /\ MRow w2 g pv s F o /\ But g w w2) := hide (box_keep h _)
 have H1 : Hid (MRow (w.alloc (.cells #[.int .i64 a, .int .i64 b, .int .i64 c] 134)).drew g pv s F o) := hide (h.bel (belAD _ _))
 go_enter Tryz.func141, Tryz.ntmps141
 go_wp2_with fail
 go_region_held3 (fun w' => w'.cell? ⟨w.heap.size, 0, none⟩ = some (.int .i64 a) /\ w'.cell? ⟨w.heap.size, 1, none⟩ = some (.int .i64 b) /\ w'.cell? ⟨w.heap.size, 2, none⟩ = some (.int .i64 c)) (go_keep) (first
  | (go_at_call 133; refine (left_do _ _ _ b rfl hb g pv s F o _ H1.out).mono ?_; rintro e w2 ⟨rfl, hb2⟩; obtain ⟨hx, h2, bu2⟩ := HX.out w2 hb2; obtain ⟨q0, q1, q2⟩ := box3 hx; have HX2 := hide hx; have H2 := hide h2; have B2 := hide bu2; clear hb2 hx h2 bu2)
  | (go_at_call 144; refine (right_do _ _ _ c rfl hc g pv s F o _ H2.out).mono ?_; rintro e w3 ⟨rfl, hb3⟩; have H3 := hide (H2.out.bel hb3); have B3 := hide (B2.out.trans (But.ofBelow hb3)); have HX3 := hide ((hb3.block _ (lt_of_block HX2.out)).trans HX2.out); obtain ⟨z0, z1, z2⟩ := box3 HX3.out; clear hb3)
  | (go_at_call 143; refine (put_do _ _ a _ ha g pv s F o _ H3.out).mono ?_; rintro e w4 ⟨rfl, h4, hb4⟩; have B4 := hide (B3.out.trans hb4); have H4 := hide h4; obtain ⟨y0, y1, y2⟩ := box3 ((hb4.block _ (lt_of_block HX3.out) (by omega)).trans HX3.out); clear hb4 h4))
 go_wp2
 go_ret
 exact ⟨rfl, by rw [<- wrap_is]; exact H4.out, B4.out⟩
theorem sub_do (a b c : Nat) (ha : a < 8) (hb : b < 8) (hc : c < 8) (g : Nat) (pv : Value) (s : MS) (F : Int) (o : O4) (w : World) (h : MRow w g pv s F o) :
 Calls Tryz.prog 152 #[.agg #[.int .i64 a, .int .i64 b, .int .i64 c], .pointer (some ⟨g, 0, none⟩)] w fun e w' => e = .returned (.int .i64 0) /\ MRow w' g pv { s with r := upd s.r a (wrap64 (s.r b - s.r c)) } F o /\ But g w w' := by
 have hg := RowF.lt h
 have HX : Hid (∀ w2, Below (w.alloc (.cells #[.int .i64 a, .int .i64 b, .int .i64 c] 135)).drew.heap.size (w.alloc (.cells #[.int .i64 a, .int .i64 b, .int .i64 c] 135)).drew w2 -> w2.heap[w.heap.size]? = some (.cells #[.int .i64 a, .int .i64 b, .int .i64 c] 135 (0, 0)) /\ MRow w2 g pv s F o /\ But g w w2) := hide (box_keep h _)
 have H1 : Hid (MRow (w.alloc (.cells #[.int .i64 a, .int .i64 b, .int .i64 c] 135)).drew g pv s F o) := hide (h.bel (belAD _ _))
 go_enter Tryz.func152, Tryz.ntmps152
 go_wp2_with fail
 go_region_held3 (fun w' => w'.cell? ⟨w.heap.size, 0, none⟩ = some (.int .i64 a) /\ w'.cell? ⟨w.heap.size, 1, none⟩ = some (.int .i64 b) /\ w'.cell? ⟨w.heap.size, 2, none⟩ = some (.int .i64 c)) (go_keep) (first
  | (go_at_call 133; refine (left_do _ _ _ b rfl hb g pv s F o _ H1.out).mono ?_; rintro e w2 ⟨rfl, hb2⟩; obtain ⟨hx, h2, bu2⟩ := HX.out w2 hb2; obtain ⟨q0, q1, q2⟩ := box3 hx; have HX2 := hide hx; have H2 := hide h2; have B2 := hide bu2; clear hb2 hx h2 bu2)
  | (go_at_call 144; refine (right_do _ _ _ c rfl hc g pv s F o _ H2.out).mono ?_; rintro e w3 ⟨rfl, hb3⟩; have H3 := hide (H2.out.bel hb3); have B3 := hide (B2.out.trans (But.ofBelow hb3)); have HX3 := hide ((hb3.block _ (lt_of_block HX2.out)).trans HX2.out); obtain ⟨z0, z1, z2⟩ := box3 HX3.out; clear hb3)
  | (go_at_call 143; refine (put_do _ _ a _ ha g pv s F o _ H3.out).mono ?_; rintro e w4 ⟨rfl, h4, hb4⟩; have B4 := hide (B3.out.trans hb4); have H4 := hide h4; obtain ⟨y0, y1, y2⟩ := box3 ((hb4.block _ (lt_of_block HX3.out) (by omega)).trans HX3.out); clear hb4 h4))
 go_wp2
 go_ret
 exact ⟨rfl, by rw [<- wrap_is]; exact H4.out, B4.out⟩
theorem mul_do (a b c : Nat) (ha : a < 8) (hb : b < 8) (hc : c < 8) (g : Nat) (pv : Value) (s : MS) (F : Int) (o : O4) (w : World) (h : MRow w g pv s F o) :
 Calls Tryz.prog 156 #[.agg #[.int .i64 a, .int .i64 b, .int .i64 c], .pointer (some ⟨g, 0, none⟩)] w fun e w' => e = .returned (.int .i64 0) /\ MRow w' g pv { s with r := upd s.r a (wrap64 (s.r b * s.r c)) } F o /\ But g w w' := by
 have hg := RowF.lt h
 have HX : Hid (∀ w2, Below (w.alloc (.cells #[.int .i64 a, .int .i64 b, .int .i64 c] 136)).drew.heap.size (w.alloc (.cells #[.int .i64 a, .int .i64 b, .int .i64 c] 136)).drew w2 -> w2.heap[w.heap.size]? = some (.cells #[.int .i64 a, .int .i64 b, .int .i64 c] 136 (0, 0)) /\ MRow w2 g pv s F o /\ But g w w2) := hide (box_keep h _)
 have H1 : Hid (MRow (w.alloc (.cells #[.int .i64 a, .int .i64 b, .int .i64 c] 136)).drew g pv s F o) := hide (h.bel (belAD _ _))
 go_enter Tryz.func156, Tryz.ntmps156
 go_wp2_with fail
 go_region_held3 (fun w' => w'.cell? ⟨w.heap.size, 0, none⟩ = some (.int .i64 a) /\ w'.cell? ⟨w.heap.size, 1, none⟩ = some (.int .i64 b) /\ w'.cell? ⟨w.heap.size, 2, none⟩ = some (.int .i64 c)) (go_keep) (first
  | (go_at_call 133; refine (left_do _ _ _ b rfl hb g pv s F o _ H1.out).mono ?_; rintro e w2 ⟨rfl, hb2⟩; obtain ⟨hx, h2, bu2⟩ := HX.out w2 hb2; obtain ⟨q0, q1, q2⟩ := box3 hx; have HX2 := hide hx; have H2 := hide h2; have B2 := hide bu2; clear hb2 hx h2 bu2)
  | (go_at_call 144; refine (right_do _ _ _ c rfl hc g pv s F o _ H2.out).mono ?_; rintro e w3 ⟨rfl, hb3⟩; have H3 := hide (H2.out.bel hb3); have B3 := hide (B2.out.trans (But.ofBelow hb3)); have HX3 := hide ((hb3.block _ (lt_of_block HX2.out)).trans HX2.out); obtain ⟨z0, z1, z2⟩ := box3 HX3.out; clear hb3)
  | (go_at_call 143; refine (put_do _ _ a _ ha g pv s F o _ H3.out).mono ?_; rintro e w4 ⟨rfl, h4, hb4⟩; have B4 := hide (B3.out.trans hb4); have H4 := hide h4; obtain ⟨y0, y1, y2⟩ := box3 ((hb4.block _ (lt_of_block HX3.out) (by omega)).trans HX3.out); clear hb4 h4))
 go_wp2
 go_ret
 exact ⟨rfl, by rw [<- wrap_is]; exact H4.out, B4.out⟩
theorem div_do (a b c : Nat) (ha : a < 8) (hb : b < 8) (hc : c < 8) (g : Nat) (pv : Value) (s : MS) (F : Int) (o : O4) (w : World) (h : MRow w g pv s F o) (hz : (s.r c == 0) = false) :
 Calls Tryz.prog 160 #[.agg #[.int .i64 a, .int .i64 b, .int .i64 c], .pointer (some ⟨g, 0, none⟩)] w fun e w' => e = .returned (.int .i64 0) /\ MRow w' g pv { s with r := upd s.r a (wrap64 ((s.r b).tdiv (s.r c))) } F o /\ But g w w' := by
 obtain ⟨c1, f1⟩ := h.reg a ha
 obtain ⟨c2, f2⟩ := h.reg b hb
 obtain ⟨c3, f3⟩ := h.reg c hc
 have hg := RowF.lt h
 have hz2 : ¬ s.r c = 0 := by simpa using hz
 go_enter Tryz.func160, Tryz.ntmps160
 go_wp2_with fail
 go_region
 go_wp2_with fail
 go_region
 go_wp2
 go_ret
 exact ⟨rfl, fin2 (h.setReg a ha _) (But.set _ _ _ _) ((belAD _ _).drew)⟩
theorem div_zero (a b : Int) (c : Nat) (hc : c < 8) (g : Nat) (pv : Value) (s : MS) (F : Int) (o : O4) (w : World) (h : MRow w g pv s F o) (hz : (s.r c == 0) = true) :
 Calls Tryz.prog 160 #[.agg #[.int .i64 a, .int .i64 b, .int .i64 c], .pointer (some ⟨g, 0, none⟩)] w fun e w' => e = .returned (.int .i64 3) /\ MRow w' g pv s F o /\ But g w w' := by
 obtain ⟨c3, f3⟩ := h.reg c hc
 have hg := RowF.lt h
 go_enter Tryz.func160, Tryz.ntmps160
 go_wp2_with fail
 go_region
 go_wp2
 go_ret
 exact ⟨rfl, fin2 h (But.refl _ _) (belAD _ _)⟩
theorem isWord_any (n : Int) (w : World) :
 Calls Tryz.prog 165 #[.int .i64 n] w fun e w' => e = .returned (.bool (decide (0 <= n /\ n < 16))) /\ w = w' := by
 by_cases h0 : 0 <= n <;> by_cases h1 : n < 16
 all_goals
  go_enter Tryz.func165, Tryz.ntmps165
  go_wp2
  go_ret
  exact ⟨by simp [h0, h1], rfl⟩
theorem load_do (a b n : Nat) (ha : a < 8) (hb : b < 8) (hn : n < 16) (g : Nat) (pv : Value) (s : MS) (F : Int) (o : O4) (w : World) (h : MRow w g pv s F o) (hr : Hid (s.r b = n)) :
 Calls Tryz.prog 163 #[.agg #[.int .i64 a, .int .i64 b], .pointer (some ⟨g, 0, none⟩)] w fun e w' => e = .returned (.int .i64 0) /\ MRow w' g pv { s with r := upd s.r a (s.m n) } F o /\ But g w w' := by
 obtain ⟨c1, f1⟩ := h.reg a ha
 obtain ⟨c2, f2⟩ := h.reg b hb
 rw [hr.out] at c2
 obtain ⟨c3, f3⟩ := h.word n hn
 have hg := RowF.lt h
 have hd : decide (0 <= (n : Int) /\ (n : Int) < 16) = true := by simp; omega
 go_enter Tryz.func163, Tryz.ntmps163
 go_wp2_with fail
 go_region
 go_wp2_with (go_at_call 165; refine (isWord_any _ _).mono ?_; rintro e w' ⟨rfl, rfl⟩; rw [hd])
 go_region
 go_wp2
 go_ret
 exact ⟨rfl, fin2 (h.setReg a ha _) (But.set _ _ _ _) ((belAD _ _).drew)⟩
theorem load_bad (a : Int) (b : Nat) (hb : b < 8) (g : Nat) (pv : Value) (s : MS) (F : Int) (o : O4) (w : World) (h : MRow w g pv s F o) (hr : decide (0 <= s.r b /\ s.r b < 16) = false) :
 Calls Tryz.prog 163 #[.agg #[.int .i64 a, .int .i64 b], .pointer (some ⟨g, 0, none⟩)] w fun e w' => e = .returned (.int .i64 4) /\ MRow w' g pv s F o /\ But g w w' := by
 obtain ⟨c2, f2⟩ := h.reg b hb
 have hg := RowF.lt h
 have HD := hide hr
 clear hr
 go_enter Tryz.func163, Tryz.ntmps163
 go_wp2_with fail
 go_region
 go_wp2_with (go_at_call 165; refine (isWord_any _ _).mono ?_; rintro e w' ⟨rfl, rfl⟩; rw [HD.out])
 go_ret
 exact ⟨rfl, fin2 h (But.refl _ _) (belAD _ _)⟩
theorem store_do (a b n : Nat) (ha : a < 8) (hb : b < 8) (hn : n < 16) (g : Nat) (pv : Value) (s : MS) (F : Int) (o : O4) (w : World) (h : MRow w g pv s F o) (hr : Hid (s.r a = n)) :
 Calls Tryz.prog 166 #[.agg #[.int .i64 a, .int .i64 b], .pointer (some ⟨g, 0, none⟩)] w fun e w' => e = .returned (.int .i64 0) /\ MRow w' g pv { s with m := upd s.m n (s.r b) } F o /\ But g w w' := by
 obtain ⟨c1, f1⟩ := h.reg a ha
 obtain ⟨c2, f2⟩ := h.reg b hb
 rw [hr.out] at c1
 obtain ⟨c3, f3⟩ := h.word n hn
 have hg := RowF.lt h
 have hd : decide (0 <= (n : Int) /\ (n : Int) < 16) = true := by simp; omega
 by_cases hab : a = b
 · subst hab
   have HR := hide hr.out
   clear c2 f2 hr
   rw [HR.out]
   go_enter Tryz.func166, Tryz.ntmps166
   go_wp2_with fail
   go_region
   go_wp2_with (go_at_call 165; refine (isWord_any _ _).mono ?_; rintro e w' ⟨rfl, rfl⟩; rw [hd])
   go_region
   go_wp2
   go_ret
   exact ⟨rfl, fin2 (h.setWord n hn _) (But.set _ _ _ _) ((belAD _ _).drew)⟩
 · go_enter Tryz.func166, Tryz.ntmps166
   go_wp2_with fail
   go_region
   go_wp2_with (go_at_call 165; refine (isWord_any _ _).mono ?_; rintro e w' ⟨rfl, rfl⟩; rw [hd])
   go_region
   go_wp2
   go_ret
   exact ⟨rfl, fin2 (h.setWord n hn _) (But.set _ _ _ _) ((belAD _ _).drew)⟩
theorem store_bad (a : Nat) (b : Int) (ha : a < 8) (g : Nat) (pv : Value) (s : MS) (F : Int) (o : O4) (w : World) (h : MRow w g pv s F o) (hr : decide (0 <= s.r a /\ s.r a < 16) = false) :
 Calls Tryz.prog 166 #[.agg #[.int .i64 a, .int .i64 b], .pointer (some ⟨g, 0, none⟩)] w fun e w' => e = .returned (.int .i64 4) /\ MRow w' g pv s F o /\ But g w w' := by
 obtain ⟨c2, f2⟩ := h.reg a ha
 have hg := RowF.lt h
 have HD := hide hr
 clear hr
 go_enter Tryz.func166, Tryz.ntmps166
 go_wp2_with fail
 go_region
 go_wp2_with (go_at_call 165; refine (isWord_any _ _).mono ?_; rintro e w' ⟨rfl, rfl⟩; rw [HD.out])
 go_ret
 exact ⟨rfl, fin2 h (But.refl _ _) (belAD _ _)⟩
theorem sdiv_do (a b c : Nat) (ha : a < 8) (hb : b < 8) (hc : c < 8) (g : Nat) (pv : Value) (s : MS) (F : Int) (o : O4) (w : World) (h : MRow w g pv s F o) (hz : (s.r c == 0) = false) :
 Calls Tryz.prog 178 #[.agg #[.int .i64 a, .int .i64 b, .int .i64 c], .pointer (some ⟨g, 0, none⟩)] w fun e w' => e = .returned (.int .i64 0) /\ MRow w' g pv { s with r := upd s.r a (wrap64 ((s.r b).tdiv (s.r c))) } F o /\ But g w w' := by
 obtain ⟨c1, f1⟩ := h.reg a ha
 obtain ⟨c2, f2⟩ := h.reg b hb
 obtain ⟨c3, f3⟩ := h.reg c hc
 have hg := RowF.lt h
 have hz2 : ¬ s.r c = 0 := by simpa using hz
 go_enter Tryz.func178, Tryz.ntmps178
 go_wp2_with fail
 go_region
 go_wp2
 go_ret
 exact ⟨rfl, fin2 (h.setReg a ha _) (But.set _ _ _ _) (belAD _ _)⟩
theorem sload_do (a b n : Nat) (ha : a < 8) (hb : b < 8) (hn : n < 16) (g : Nat) (pv : Value) (s : MS) (F : Int) (o : O4) (w : World) (h : MRow w g pv s F o) (hr : Hid (s.r b = n)) :
 Calls Tryz.prog 179 #[.agg #[.int .i64 a, .int .i64 b], .pointer (some ⟨g, 0, none⟩)] w fun e w' => e = .returned (.int .i64 0) /\ MRow w' g pv { s with r := upd s.r a (s.m n) } F o /\ But g w w' := by
 obtain ⟨c1, f1⟩ := h.reg a ha
 obtain ⟨c2, f2⟩ := h.reg b hb
 rw [hr.out] at c2
 obtain ⟨c3, f3⟩ := h.word n hn
 have hg := RowF.lt h
 go_enter Tryz.func179, Tryz.ntmps179
 go_wp2_with fail
 go_region
 go_wp2
 go_ret
 exact ⟨rfl, fin2 (h.setReg a ha _) (But.set _ _ _ _) (belAD _ _)⟩
theorem sstore_do (a b n : Nat) (ha : a < 8) (hb : b < 8) (hn : n < 16) (g : Nat) (pv : Value) (s : MS) (F : Int) (o : O4) (w : World) (h : MRow w g pv s F o) (hr : Hid (s.r a = n)) :
 Calls Tryz.prog 180 #[.agg #[.int .i64 a, .int .i64 b], .pointer (some ⟨g, 0, none⟩)] w fun e w' => e = .returned (.int .i64 0) /\ MRow w' g pv { s with m := upd s.m n (s.r b) } F o /\ But g w w' := by
 obtain ⟨c1, f1⟩ := h.reg a ha
 obtain ⟨c2, f2⟩ := h.reg b hb
 rw [hr.out] at c1
 obtain ⟨c3, f3⟩ := h.word n hn
 have hg := RowF.lt h
 by_cases hab : a = b
 · subst hab
   have HR := hide hr.out
   clear c2 f2 hr
   rw [HR.out]
   go_enter Tryz.func180, Tryz.ntmps180
   go_wp2_with fail
   go_region
   go_wp2
   go_ret
   exact ⟨rfl, fin2 (h.setWord n hn _) (But.set _ _ _ _) (belAD _ _)⟩
 · go_enter Tryz.func180, Tryz.ntmps180
   go_wp2_with fail
   go_region
   go_wp2
   go_ret
   exact ⟨rfl, fin2 (h.setWord n hn _) (But.set _ _ _ _) (belAD _ _)⟩
def endO (kd place : Int) (s : MS) : O4 := ⟨kd, place, if kd = 1 then s.r 0 else 0, s.n⟩
theorem MRow.setO {w : World} {g : Nat} {pv : Value} {s : MS} {F : Int} {o : O4} (h : MRow w g pv s F o) (a b c d : Int) : MRow ((((w.setCell ⟨g, 28, none⟩ (.int .i64 a)).setCell ⟨g, 29, none⟩ (.int .i64 b)).setCell ⟨g, 30, none⟩ (.int .i64 c)).setCell ⟨g, 31, none⟩ (.int .i64 d)) g pv s F ⟨a, b, c, d⟩ :=
 (((h.setKind a).setPlace b).setValue c).setSteps d
theorem But.set4 (g : Nat) (w : World) (a b c d : Value) (i j k l : Nat) : But g w ((((w.setCell ⟨g, i, none⟩ a).setCell ⟨g, j, none⟩ b).setCell ⟨g, k, none⟩ c).setCell ⟨g, l, none⟩ d) :=
 (((But.set g w i a).trans (But.set g _ j b)).trans (But.set g _ k c)).trans (But.set g _ l d)
theorem end_any (kd place : Int) (g : Nat) (pv : Value) (s : MS) (F : Int) (o : O4) (w : World) (h : MRow w g pv s F o) :
 Calls Tryz.prog 63 #[.pointer (some ⟨g, 0, none⟩), .int .i64 kd, .int .i64 place] w fun e w' => e = .returned (.tuple #[]) /\ MRow w' g pv s F (endO kd place s) /\ But g w w' := by
 obtain ⟨_, _, c26, _, c28, c29, c30, c31⟩ := h.fields
 have f28 := h.free 28
 have f29 := h.free 29
 have f30 := h.free 30
 have f31 := h.free 31
 obtain ⟨r0, _⟩ := h.reg 0 (by omega)
 have hg := RowF.lt h
 by_cases hk : kd = 1
 · have R : Hid (endO kd place s = ⟨kd, place, s.r 0, s.n⟩) := hide (by simp [endO, hk])
   have hq : (kd == 1) = true := by simpa using hk
   clear hk
   go_enter Tryz.func63, Tryz.ntmps63
   go_wp2
   go_end0
   exact ⟨rfl, by rw [R.out]; exact (h.setO kd place 0 s.n).setValue (s.r 0), (But.set4 _ _ _ _ _ _ _ _ _ _).trans (But.set _ _ _ _)⟩
 · have R : Hid (endO kd place s = ⟨kd, place, 0, s.n⟩) := hide (by simp [endO, hk])
   have hq : (kd == 1) = false := by simpa using hk
   clear hk
   go_enter Tryz.func63, Tryz.ntmps63
   go_wp2
   go_end0
   exact ⟨rfl, by rw [R.out]; exact h.setO kd place 0 s.n, But.set4 _ _ _ _ _ _ _ _ _ _⟩
theorem ready_over (g : Nat) (pv : Value) (s : MS) (F : Int) (o : O4) (w : World) (h : MRow w g pv s F o) (hk : (o.kind != 0) = true) :
 Calls Tryz.prog 30 #[.pointer (some ⟨g, 0, none⟩)] w fun e w' => e = .returned (.bool false) /\ w = w' := by
 obtain ⟨_, _, _, _, c28, _⟩ := h.fields
 go_enter Tryz.func30, Tryz.ntmps30
 go_wp2
 go_ret
 exact ⟨rfl, rfl⟩
theorem ready_end (g : Nat) (a : Option Addr) (n cap : Nat) (s : MS) (F : Int) (o : O4) (w : World) (h : MRow w g (.slice a n cap) s F o) (hk : (o.kind != 0) = false) (hp : ((s.pc : Int) == (n : Int)) = true) :
 Calls Tryz.prog 30 #[.pointer (some ⟨g, 0, none⟩)] w fun e w' => e = .returned (.bool false) /\ MRow w' g (.slice a n cap) s F (endO 5 s.pc s) /\ But g w w' := by
 obtain ⟨c0, c25, _, _, c28, _⟩ := h.fields
 have H1 : Hid (MRow w.drew g (.slice a n cap) s F o) := hide h
 go_enter Tryz.func30, Tryz.ntmps30
 go_wp2_with fail
 go_region
 go_wp2_with (go_at_call 63; refine (end_any _ _ g _ s F o _ H1.out).mono ?_; rintro e w2 ⟨rfl, h2, b2⟩)
 go_ret
 exact ⟨rfl, h2, (But.ofBelow ((Below.refl _ _).drew)).trans b2⟩
theorem ready_fuel (g : Nat) (a : Option Addr) (n cap : Nat) (s : MS) (F : Int) (o : O4) (w : World) (h : MRow w g (.slice a n cap) s F o) (hk : (o.kind != 0) = false) (hp : ((s.pc : Int) == (n : Int)) = false) (hf : ((s.n : Int) == F) = true) :
 Calls Tryz.prog 30 #[.pointer (some ⟨g, 0, none⟩)] w fun e w' => e = .returned (.bool false) /\ MRow w' g (.slice a n cap) s F (endO 2 s.pc s) /\ But g w w' := by
 obtain ⟨c0, c25, c26, c27, c28, _⟩ := h.fields
 have H1 : Hid (MRow w.drew.drew g (.slice a n cap) s F o) := hide h
 go_enter Tryz.func30, Tryz.ntmps30
 go_wp2_with fail
 go_region
 go_wp2_with fail
 go_region
 go_wp2_with (go_at_call 63; refine (end_any _ _ g _ s F o _ H1.out).mono ?_; rintro e w2 ⟨rfl, h2, b2⟩)
 go_ret
 exact ⟨rfl, h2, (But.ofBelow ((Below.refl _ _).drew.drew)).trans b2⟩
theorem ready_go (g : Nat) (a : Option Addr) (n cap : Nat) (s : MS) (F : Int) (o : O4) (w : World) (h : MRow w g (.slice a n cap) s F o) (hk : (o.kind != 0) = false) (hp : ((s.pc : Int) == (n : Int)) = false) (hf : ((s.n : Int) == F) = false) :
 Calls Tryz.prog 30 #[.pointer (some ⟨g, 0, none⟩)] w fun e w' => e = .returned (.bool true) /\ Below w.heap.size w w' := by
 obtain ⟨c0, c25, c26, c27, c28, _⟩ := h.fields
 go_enter Tryz.func30, Tryz.ntmps30
 go_wp2_with fail
 go_region
 go_wp2_with fail
 go_region
 go_wp2
 go_ret
 exact ⟨rfl, ((Below.refl _ _).drew.drew)⟩
def nxt (s : MS) : MS := { s with pc := s.pc + 1, n := s.n + 1 }
def outO (kd : Int) (pc : Nat) (s : MS) (o : O4) : O4 := if kd = 0 then o else endO kd pc s
theorem MRow.nxt {w : World} {g : Nat} {pv : Value} {s : MS} {F : Int} {o : O4} (h : MRow w g pv s F o) : MRow ((w.setCell ⟨g, 25, none⟩ (.int .i64 ((s.pc : Int) + 1))).setCell ⟨g, 26, none⟩ (.int .i64 ((s.n : Int) + 1))) g pv (nxt s) F o := by
 have := (h.setPc (s.pc + 1)).setN (s.n + 1)
 simpa [Go.Proofs.YtamiichlbmllcabGreatDoor.nxt] using this
theorem step_gen (T f : Nat) (v : Value) (kd : Int) (s' : MS) (g pb cap n : Nat) (s : MS) (F : Int) (o : O4) (w : World) (h : MRow w g (.slice (some ⟨pb, 0, none⟩) n cap) s F o) (hp : s.pc < n) (hn64 : n <= 64) (hn : s.n < 1000000)
 (hi : w.cell? ⟨pb, s.pc, none⟩ = some (.iface T v)) (hpg : pb ≠ g)
 (hm : ∀ w, (method 355 T v "surety/machine.do").run Tryz.prog w = .ok (f, v) w)
 (hcf : ∀ w, (callFunc f #[v, .pointer (some ⟨g, 0, none⟩)]).run Tryz.prog w = .ok (.enter f #[v, .pointer (some ⟨g, 0, none⟩)]) w)
 (hcall : Hid (∀ w1, MRow w1 g (.slice (some ⟨pb, 0, none⟩) n cap) (nxt s) F o -> Calls Tryz.prog f #[v, .pointer (some ⟨g, 0, none⟩)] w1 fun e w' => e = .returned (.int .i64 kd) /\ MRow w' g (.slice (some ⟨pb, 0, none⟩) n cap) s' F o /\ But g w1 w')) :
 Calls Tryz.prog 31 #[.pointer (some ⟨g, 0, none⟩)] w fun e w' => e = .returned (.tuple #[]) /\ MRow w' g (.slice (some ⟨pb, 0, none⟩) n cap) s' F (outO kd s.pc s' o) /\ But g w w' := by
 obtain ⟨c0, c25, c26, _⟩ := h.fields
 have f25 := h.free 25
 have f26 := h.free 26
 have hg := RowF.lt h
 have H1 := hide h.nxt
 have hp64 : s.pc < 64 := by omega
 go_enter Tryz.func31, Tryz.ntmps31
 go_wp2_with (fail)
 refine (hcall.out _ H1.out).mono ?_
 rintro e w2 ⟨rfl, h2, b2⟩
 have B2 := hide (((But.set g w 25 (.int .i64 ((s.pc : Int) + 1))).trans (But.set g _ 26 (.int .i64 ((s.n : Int) + 1)))).trans b2)
 have H2 := hide h2
 clear b2 h2 c0 c25 c26 f25 f26
 by_cases hk : kd = 0
 · have R : Hid (outO kd s.pc s' o = o) := hide (by unfold outO; rw [if_pos hk])
   have hq : (kd != 0) = false := by simpa using hk
   clear hk
   go_wp2_with (fail)
   go_end0
   exact ⟨rfl, by rw [R.out]; exact H2.out, B2.out⟩
 · have R : Hid (outO kd s.pc s' o = endO kd s.pc s') := hide (by unfold outO; rw [if_neg hk])
   have hq : (kd != 0) = true := by simpa using hk
   clear hk
   go_wp2_with (go_at_call 63; refine (end_any _ _ g _ s' F o _ H2.out).mono ?_; rintro e w3 ⟨rfl, h3, b3⟩; have H3 := hide h3; have B3 := hide b3; clear h3 b3)
   go_end0
   exact ⟨rfl, by rw [R.out]; exact H3.out, B2.out.trans B3.out⟩
theorem step_any (i : I5) (g pb cap n : Nat) (s : MS) (F : Int) (o : O4) (w : World) (h : MRow w g (.slice (some ⟨pb, 0, none⟩) n cap) s F o) (hp : s.pc < n) (hn64 : n <= 64) (hn : s.n < 1000000)
 (hi : w.cell? ⟨pb, s.pc, none⟩ = some (iVal i)) (hpg : pb ≠ g) (hfit : i.fits n = true) :
 Calls Tryz.prog 31 #[.pointer (some ⟨g, 0, none⟩)] w fun e w' => e = .returned (.tuple #[]) /\ MRow w' g (.slice (some ⟨pb, 0, none⟩) n cap) (doI i (nxt s)).2 F (outO (doI i (nxt s)).1 s.pc (doI i (nxt s)).2 o) /\ But g w w' := by
 have hc := fit_cases hfit
 obtain ⟨op, a, b, c, k⟩ := i
 simp only at hc
 rcases hc with rfl | ⟨rfl, ha⟩ | ⟨rfl, ha, hb⟩ | ⟨rfl, ha, hb, hc⟩ | ⟨rfl, ha, hb, hc⟩ | ⟨rfl, ha, hb, hc⟩ | ⟨rfl, ha, hb, hc⟩ | ⟨rfl, ha, hb⟩ | ⟨rfl, ha, hb⟩ | ⟨rfl, hk0, hk1⟩ | ⟨rfl, ha, hb, hk0, hk1⟩ | ⟨rfl, ha, hb, hk0, hk1⟩
 · exact step_gen 146 176 (.agg #[]) 1 _ g pb cap n s F o w h hp hn64 hn hi hpg (fun _ => by kernel_rfl) (fun _ => by kernel_rfl) (hide fun w1 h1 => (halt_do g w1).mono fun e w' ⟨he, hb⟩ => ⟨he, h1.bel hb, But.ofBelow hb⟩)
 · obtain ⟨a, ha', rfl⟩ := ha.nat
   replace ha := ha'
   exact step_gen 130 134 (.agg #[.int .i64 a, .int .i64 k]) 0 _ g pb cap n s F o w h hp hn64 hn hi hpg (fun _ => by kernel_rfl) (fun _ => by kernel_rfl) (hide fun w1 h1 => set_do a k ha g _ _ F o w1 h1)
 · obtain ⟨a, ha', rfl⟩ := ha.nat
   replace ha := ha'
   obtain ⟨b, hb', rfl⟩ := hb.nat
   replace hb := hb'
   exact step_gen 132 139 (.agg #[.int .i64 a, .int .i64 b]) 0 _ g pb cap n s F o w h hp hn64 hn hi hpg (fun _ => by kernel_rfl) (fun _ => by kernel_rfl) (hide fun w1 h1 => move_do a b ha hb g _ _ F o w1 h1)
 · obtain ⟨a, ha', rfl⟩ := ha.nat
   replace ha := ha'
   obtain ⟨b, hb', rfl⟩ := hb.nat
   replace hb := hb'
   obtain ⟨c, hc', rfl⟩ := hc.nat
   replace hc := hc'
   exact step_gen 134 141 (.agg #[.int .i64 a, .int .i64 b, .int .i64 c]) 0 _ g pb cap n s F o w h hp hn64 hn hi hpg (fun _ => by kernel_rfl) (fun _ => by kernel_rfl) (hide fun w1 h1 => add_do a b c ha hb hc g _ _ F o w1 h1)
 · obtain ⟨a, ha', rfl⟩ := ha.nat
   replace ha := ha'
   obtain ⟨b, hb', rfl⟩ := hb.nat
   replace hb := hb'
   obtain ⟨c, hc', rfl⟩ := hc.nat
   replace hc := hc'
   exact step_gen 135 152 (.agg #[.int .i64 a, .int .i64 b, .int .i64 c]) 0 _ g pb cap n s F o w h hp hn64 hn hi hpg (fun _ => by kernel_rfl) (fun _ => by kernel_rfl) (hide fun w1 h1 => sub_do a b c ha hb hc g _ _ F o w1 h1)
 · obtain ⟨a, ha', rfl⟩ := ha.nat
   replace ha := ha'
   obtain ⟨b, hb', rfl⟩ := hb.nat
   replace hb := hb'
   obtain ⟨c, hc', rfl⟩ := hc.nat
   replace hc := hc'
   exact step_gen 136 156 (.agg #[.int .i64 a, .int .i64 b, .int .i64 c]) 0 _ g pb cap n s F o w h hp hn64 hn hi hpg (fun _ => by kernel_rfl) (fun _ => by kernel_rfl) (hide fun w1 h1 => mul_do a b c ha hb hc g _ _ F o w1 h1)
 · obtain ⟨a, ha', rfl⟩ := ha.nat
   replace ha := ha'
   obtain ⟨b, hb', rfl⟩ := hb.nat
   replace hb := hb'
   obtain ⟨c, hc', rfl⟩ := hc.nat
   replace hc := hc'
   by_cases hz : (nxt s).r c = 0
   · have hd : doI ⟨6, a, b, c, k⟩ (nxt s) = (3, nxt s) := by unfold doI; simp; exact hz
     rw [hd]
     exact step_gen 137 160 (.agg #[.int .i64 a, .int .i64 b, .int .i64 c]) 3 _ g pb cap n s F o w h hp hn64 hn hi hpg (fun _ => by kernel_rfl) (fun _ => by kernel_rfl) (hide fun w1 h1 => div_zero a b c hc g _ _ F o w1 h1 (by simpa using hz))
   · have hd : doI ⟨6, a, b, c, k⟩ (nxt s) = (0, { nxt s with r := upd (nxt s).r a (wrap64 (((nxt s).r b).tdiv ((nxt s).r c))) }) := by unfold doI; simp; intro h; exact absurd h hz
     rw [hd]
     exact step_gen 137 160 (.agg #[.int .i64 a, .int .i64 b, .int .i64 c]) 0 _ g pb cap n s F o w h hp hn64 hn hi hpg (fun _ => by kernel_rfl) (fun _ => by kernel_rfl) (hide fun w1 h1 => div_do a b c ha hb hc g _ _ F o w1 h1 (by simpa using hz))
 · obtain ⟨a, ha', rfl⟩ := ha.nat
   replace ha := ha'
   obtain ⟨b, hb', rfl⟩ := hb.nat
   replace hb := hb'
   by_cases hz : 0 <= (nxt s).r b /\ (nxt s).r b < 16
   · have hd : doI ⟨7, a, b, c, k⟩ (nxt s) = (0, { nxt s with r := upd (nxt s).r a ((nxt s).m ((nxt s).r b).toNat) }) := by unfold doI; simp; exact hz
     rw [hd]
     exact step_gen 138 163 (.agg #[.int .i64 a, .int .i64 b]) 0 _ g pb cap n s F o w h hp hn64 hn hi hpg (fun _ => by kernel_rfl) (fun _ => by kernel_rfl) (hide fun w1 h1 => load_do a b ((nxt s).r b).toNat ha hb (by omega) g _ _ F o w1 h1 (hide (by omega)))
   · have hd : doI ⟨7, a, b, c, k⟩ (nxt s) = (4, nxt s) := by unfold doI; simp; intro h; omega
     rw [hd]
     exact step_gen 138 163 (.agg #[.int .i64 a, .int .i64 b]) 4 _ g pb cap n s F o w h hp hn64 hn hi hpg (fun _ => by kernel_rfl) (fun _ => by kernel_rfl) (hide fun w1 h1 => load_bad a b hb g _ _ F o w1 h1 (by simpa using hz))
 · obtain ⟨a, ha', rfl⟩ := ha.nat
   replace ha := ha'
   obtain ⟨b, hb', rfl⟩ := hb.nat
   replace hb := hb'
   by_cases hz : 0 <= (nxt s).r a /\ (nxt s).r a < 16
   · have hd : doI ⟨8, a, b, c, k⟩ (nxt s) = (0, { nxt s with m := upd (nxt s).m ((nxt s).r a).toNat ((nxt s).r b) }) := by unfold doI; simp; exact hz
     rw [hd]
     exact step_gen 139 166 (.agg #[.int .i64 a, .int .i64 b]) 0 _ g pb cap n s F o w h hp hn64 hn hi hpg (fun _ => by kernel_rfl) (fun _ => by kernel_rfl) (hide fun w1 h1 => store_do a b ((nxt s).r a).toNat ha hb (by omega) g _ _ F o w1 h1 (hide (by omega)))
   · have hd : doI ⟨8, a, b, c, k⟩ (nxt s) = (4, nxt s) := by unfold doI; simp; intro h; omega
     rw [hd]
     exact step_gen 139 166 (.agg #[.int .i64 a, .int .i64 b]) 4 _ g pb cap n s F o w h hp hn64 hn hi hpg (fun _ => by kernel_rfl) (fun _ => by kernel_rfl) (hide fun w1 h1 => store_bad a b ha g _ _ F o w1 h1 (by simpa using hz))
 · obtain ⟨k, rfl⟩ := Int.eq_ofNat_of_zero_le hk0
   exact step_gen 141 168 (.agg #[.int .i64 k]) 0 _ g pb cap n s F o w h hp hn64 hn hi hpg (fun _ => by kernel_rfl) (fun _ => by kernel_rfl) (hide fun w1 h1 => jump_do k g _ _ F o w1 h1)
 · obtain ⟨a, ha', rfl⟩ := ha.nat
   replace ha := ha'
   obtain ⟨b, hb', rfl⟩ := hb.nat
   replace hb := hb'
   obtain ⟨k, rfl⟩ := Int.eq_ofNat_of_zero_le hk0
   exact step_gen 143 170 (.agg #[.int .i64 a, .int .i64 b, .int .i64 k]) 0 _ g pb cap n s F o w h hp hn64 hn hi hpg (fun _ => by kernel_rfl) (fun _ => by kernel_rfl) (hide fun w1 h1 => less_do a b k ha hb g _ _ F o w1 h1)
 · obtain ⟨a, ha', rfl⟩ := ha.nat
   replace ha := ha'
   obtain ⟨b, hb', rfl⟩ := hb.nat
   replace hb := hb'
   obtain ⟨k, rfl⟩ := Int.eq_ofNat_of_zero_le hk0
   exact step_gen 144 173 (.agg #[.int .i64 a, .int .i64 b, .int .i64 k]) 0 _ g pb cap n s F o w h hp hn64 hn hi hpg (fun _ => by kernel_rfl) (fun _ => by kernel_rfl) (hide fun w1 h1 => same_do a b k ha hb g _ _ F o w1 h1)
end Go.Proofs.YtamiichlbmllcabGreatDoor
