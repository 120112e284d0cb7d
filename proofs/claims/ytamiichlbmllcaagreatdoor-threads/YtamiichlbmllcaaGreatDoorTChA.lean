import Derived.Test.YtamiichlbmllcaaGreatDoorTIns
import Derived.OwnWalk
import Derived.Deep.RegionLaw
import Derived.Deep.QuietTactic
import Derived.BigQuiet
import Derived.Test.YtamiichlbmllcaaGreatDoorTRowF
import Derived.Test.YtamiichlbmllcaaGreatDoorTFlD
/-
  The contract of machine.ProgramOf, for every list of instructions.
-/
namespace Go.Proofs.YtamiichlbmllcaaGreatDoor
open Go.RowKit
theorem Tryz.infoIn : (Tryz.prog.info? 124).map (fun i => (i.zero, i.size, i.bytes)) = some (some .nilIface, 1, 16) := by kernel_rfl
theorem info_three {P : Program} {t : TypeId} {z : Value} {s b : Nat} (h : (P.info? t).map (fun i => (i.zero, i.size, i.bytes)) = some (some z, s, b)) : ∃ i, P.info? t = some i ∧ i.zero = some z ∧ i.size = s ∧ i.bytes = b := by
  cases hi : P.info? t with
  | none => rw [hi] at h; simp at h
  | some i => rw [hi] at h; simp at h; exact ⟨i, rfl, h.1, h.2.1, h.2.2⟩
theorem one_ite {c : Prop} [Decidable c] {a b : Value} (ha : a.oneCell' = true) (hb : b.oneCell' = true) : (if c then a else b).oneCell' = true := by split <;> assumption
theorem iVal_one (i : I5) : (iVal i).oneCell' = true := by
  unfold iVal
  repeat (refine one_ite rfl ?_)
  rfl
theorem iface_ite {c : Prop} [Decidable c] {a b : Value} (ha : ∃ t y, a = .iface t y) (hb : ∃ t y, b = .iface t y) : ∃ t y, (if c then a else b) = .iface t y := by split <;> assumption
theorem iVal_iface (i : I5) : ∃ t y, iVal i = .iface t y := by
  unfold iVal
  repeat (refine iface_ite ⟨_, _, rfl⟩ ?_)
  exact ⟨_, _, rfl⟩
theorem own_bel {w w' : World} {B e size n : Nat} {v : Value} {xs : List Value} (h : w.ownsRow B e size v n xs) (hb : Below w.heap.size w w') : w'.ownsRow B e size v n xs := by
  refine ⟨h.1, ?_⟩
  rcases h.2 with h2 | ⟨g, cap, cur, h3, h4, hh, r⟩
  · exact Or.inl h2
  · exact Or.inr ⟨g, cap, cur, h3, h4, by rw [hb.block g (lt_of_block hh)]; exact hh, r⟩
/-- a program as instructions, a row of the call's own -/
def OwnP (w : World) (base : Nat) (v : Value) (l : List I5) : Prop := w.ownsRow base 124 1 v l.length (l.map iVal)
theorem one_new (w : World) (u : Value) (t : TypeId) (g : Nat) (hg : g = w.heap.size) : ∀ j x, [u][j]? = some x → (w.alloc (.cells #[u] t)).cell? ((⟨g, 0, none⟩ : Addr).add j) = some x := by
  subst hg
  intro j x hj
  have hadd : (⟨w.heap.size, 0, none⟩ : Addr).add j = ⟨w.heap.size, j, none⟩ := by unfold Addr.add; split <;> simp_all
  rw [hadd, cell_of_row _ _ _ _ _ _ (heap_alloc_new w _)]
  simpa using hj
set_option maxHeartbeats 4000000 in
set_option maxRecDepth 100000 in
theorem progOf_some (l : List I5) (b off cap : Nat) (w : World) (hb : b < w.heap.size) (hl2 : l.length ≤ 64) (hi : ∀ i (h : i < l.length), InsAt w b (off + i * 5) l[i]) :
    Calls Tryz.prog 43 #[.slice (some ⟨b, off, none⟩) l.length cap] w fun e w' => ∃ v, e = .returned v ∧ OwnP w' w.heap.size v l ∧ Below w.heap.size w w' := by
  obtain ⟨i0, hii, hz0, hzs, hz2⟩ := info_three Tryz.infoIn
  have HI := hide hi
  clear hi
  go_enter Tryz.func43, Tryz.ntmps43
  go_wp2_with (at_make; go_must (refine wpList_make_own _ rfl (.const (.int .i64 0)) (.tmp 7) 90 rfl w.heap.size 124 i0 _ 1 Tryz.underlying90 hii hz0 hzs .i64 .i64 l.length l.length rfl rfl rfl ?b2 ?b3 ?b4 ?_))
  case b2 => rw [hz2]; omega
  case b3 => unfold maxLen; omega
  case b4 => simp
  intro w1 hown1 hgrow1
  have hbl1 : Below w.heap.size w w1 := Below.grown (B := w.heap.size) (Below.refl _ _) hgrow1 (by simp) (fun k hk => by cases hk)
  clear hgrow1
  go_wp2_with fail
  go_loopw [3, 11] (fun p j wr => ∃ n : Nat, n ≤ l.length ∧ j = .int .i64 n ∧ OwnP wr w.heap.size p (l.take n) ∧ Below w.heap.size w wr) (fun _ j _ => l.length - (intOf j).toNat)
  case atStart => exact ⟨0, by omega, rfl, by simpa [OwnP] using hown1, hbl1⟩
  case round =>
    clear hown1 hbl1
    obtain ⟨n, hn, rfl, hown, hbl⟩ := hrel
    by_cases hlt : n < l.length
    · obtain ⟨c0, c1, c2, c3, c4⟩ := (HI.out n hlt).below hbl hb
      have hz := hbl.size
      obtain ⟨x, hx⟩ : ∃ x, x = l[n] := ⟨_, rfl⟩
      rw [← hx] at c0 c1 c2 c3 c4
      have HX := hide hx
      clear hx
      obtain ⟨a3, cp3, rfl⟩ : ∃ a c, u3 = .slice a n c := by
        rcases hown.2 with ⟨h1, h2⟩ | ⟨g, cap, cur, h1, _⟩
        · exact ⟨none, 0, by rw [h1]; simp at h2; rcases h2 with h2 | h2; rw [h2]; rw [h2] at hlt; simp at hlt⟩
        · exact ⟨_, _, by rw [h1, List.length_take, Nat.min_eq_left hn]⟩
      go_wp2_with fail
      refine (insOf_any x _).mono ?_
      rintro e w2 ⟨rfl, hb2⟩
      generalize hW : wr.alloc (.cells #[.int .i64 x.o, .int .i64 x.a, .int .i64 x.b, .int .i64 x.c, .int .i64 x.k] 62) = w15 at *
      have hb15 : Below wr.heap.size wr w15 := by rw [← hW]; exact (Below.refl _ _).alloc (Nat.le_refl _) _
      have hown2 : OwnP w2 w.heap.size (.slice a3 n cp3) (l.take n) := own_bel (own_bel hown hb15) hb2
      have hbl2 : Below w.heap.size w w2 := (hbl.trans (hb15.mono hz)).trans (hb2.mono (by have := hb15.size; omega))
      have hz2' := hbl2.size
      obtain ⟨tV, yV, hV⟩ := iVal_iface x
      rw [hV]
      have HV := hide hV
      clear hW hb15 hb2 hown hbl c0 c1 c2 c3 c4 hV
      go_wp2_with (at_builtin; go_must (refine wpList_append_own _ rfl (.tmp 15) (.tmp 18) 90 rfl w.heap.size 124 i0 _ 1 16 Tryz.underlying90 hii hz0 hzs hz2 rfl (by decide) (.slice a3 n cp3) (l.take n).length ((l.take n).map iVal) rfl ?o1 ⟨w2.heap.size, 0, none⟩ 1 1 [.iface tV yV] rfl rfl ?n1 ?u1 ?m1 ?b1 ?s1 ?_))
      case o1 => exact World.ownsRow.alloc hown2 _
      case n1 => exact one_new _ _ _ _ rfl
      case u1 => intro u hu; simp at hu; rw [hu, ← HV.out]; exact iVal_one x
      case m1 => unfold maxLen; simp; omega
      case b1 => simp; omega
      case s1 => simp; omega
      intro v4 w4 hown4 hg4 _
      have hbl4 : Below w.heap.size w w4 := (hbl2.alloc hz2' _).grown hg4 (by simp; omega) (fun k hk => (World.ownsRow.lt hown2 k hk).1)
      clear hown2 hbl2 hg4
      go_wp2
      go_roundw
      case rel =>
        refine ⟨n + 1, by omega, by go_num, ?_, hbl4⟩
        have e1 : l.take (n + 1) = l.take n ++ [x] := by rw [HX.out]; exact (List.take_append_getElem hlt).symm
        unfold OwnP
        rw [e1, List.map_append, List.length_append, List.map_singleton, HV.out, List.length_take, Nat.min_eq_left hn]
        rw [List.map_take]
        exact hown4
      case measure => simp [intOf]; omega
    · go_wp2
      go_ret
      exact ⟨_, rfl, by rw [List.take_of_length_le (by omega)] at hown; exact hown, hbl⟩
theorem progOf_any (l : List I5) (v : Value) (w : World) (h : Slc w v l) (hl : 0 < l.length) (hl2 : l.length ≤ 64) :
    Calls Tryz.prog 43 #[v] w fun e w' => ∃ v, e = .returned v ∧ OwnP w' w.heap.size v l ∧ Below w.heap.size w w' := by
  rcases h with ⟨_, rfl⟩ | ⟨b, off, cap, rfl, h1, h2⟩
  · simp at hl
  · exact progOf_some l b off cap w h1 hl2 h2
end Go.Proofs.YtamiichlbmllcaaGreatDoor
/-
  Programs whose every instruction may stand there; where their instructions lie.
-/
namespace Go.Proofs.YtamiichlbmllcaaGreatDoor
open Go.RowKit
def inR (a : Int) : Prop := 0 ≤ a ∧ a < 8
theorem fit_cases {i : I5} {n : Nat} (h : i.fits n = true) :
    (i.o = 0) ∨ (i.o = 1 ∧ inR i.a) ∨ (i.o = 2 ∧ inR i.a ∧ inR i.b) ∨ (i.o = 3 ∧ inR i.a ∧ inR i.b ∧ inR i.c) ∨ (i.o = 4 ∧ inR i.a ∧ inR i.b ∧ inR i.c) ∨ (i.o = 5 ∧ inR i.a ∧ inR i.b ∧ inR i.c) ∨ (i.o = 6 ∧ inR i.a ∧ inR i.b ∧ inR i.c) ∨
    (i.o = 7 ∧ inR i.a ∧ inR i.b) ∨ (i.o = 8 ∧ inR i.a ∧ inR i.b) ∨ (i.o = 9 ∧ 0 ≤ i.k ∧ i.k < n) ∨ (i.o = 10 ∧ inR i.a ∧ inR i.b ∧ 0 ≤ i.k ∧ i.k < n) ∨ (i.o = 11 ∧ inR i.a ∧ inR i.b ∧ 0 ≤ i.k ∧ i.k < n) := by
  obtain ⟨o, a, b, c, k⟩ := i
  unfold I5.fits fitsB at h
  simp only [Bool.and_eq_true, decide_eq_true_eq] at h
  obtain ⟨⟨⟨⟨⟨h0, h1⟩, ha⟩, hb⟩, hc⟩, hk⟩ := h
  have : o = 0 ∨ o = 1 ∨ o = 2 ∨ o = 3 ∨ o = 4 ∨ o = 5 ∨ o = 6 ∨ o = 7 ∨ o = 8 ∨ o = 9 ∨ o = 10 ∨ o = 11 := by omega
  unfold inR
  rcases this with rfl | rfl | rfl | rfl | rfl | rfl | rfl | rfl | rfl | rfl | rfl | rfl <;> simp [regOk, kOk, nregs, kbytes] at ha hb hc hk ⊢ <;> omega
theorem inR.nat {a : Int} (h : inR a) : ∃ n : Nat, n < 8 ∧ a = n := ⟨a.toNat, by have := h.1; have := h.2; omega, by have := h.1; omega⟩
def insAt (p : List I5) (pc : Nat) : I5 := (p[pc]?).getD ⟨0, 0, 0, 0, 0⟩
theorem insAt_get {p : List I5} {pc : Nat} (h : pc < p.length) : insAt p pc = p[pc] := by unfold insAt; rw [List.getElem?_eq_getElem h]; rfl
/-- a program's instructions lie in block pb -/
def ProgAt (w : World) (pb : Nat) (vf : I5 → Value) (l : List I5) : Prop := pb < w.heap.size ∧ ∀ pc, pc < l.length → w.cell? ⟨pb, pc, none⟩ = some (vf (insAt l pc))
theorem ProgAt.bel {w w' : World} {pb B : Nat} {vf : I5 → Value} {l : List I5} (h : ProgAt w pb vf l) (hb : Below B w w') (hB : pb < B) : ProgAt w' pb vf l :=
  ⟨Nat.lt_of_lt_of_le h.1 hb.size, fun pc hpc => by rw [hb.cell (p := ⟨pb, pc, none⟩) hB]; exact h.2 pc hpc⟩
theorem ProgAt.but {w w' : World} {pb g : Nat} {vf : I5 → Value} {l : List I5} (h : ProgAt w pb vf l) (hb : But g w w') (hne : pb ≠ g) : ProgAt w' pb vf l :=
  ⟨Nat.lt_of_lt_of_le h.1 hb.size, fun pc hpc => by rw [World.cell?_of_block (w := w) (a := ⟨pb, pc, none⟩) (hb.block pb h.1 hne)]; exact h.2 pc hpc⟩
/-- every instruction may stand there -/
def AllFit (p : List I5) : Prop := 0 < p.length ∧ p.length ≤ 64 ∧ ∀ i (h : i < p.length), p[i].fits p.length = true
theorem AllFit.k {p : List I5} (h : AllFit p) {pc : Nat} (hpc : pc < p.length) (h9 : 9 ≤ (insAt p pc).o) : 0 ≤ (insAt p pc).k ∧ (insAt p pc).k.toNat < p.length := by
  rw [insAt_get hpc] at *
  rcases fit_cases (h.2.2 pc hpc) with h | ⟨h, _⟩ | ⟨h, _⟩ | ⟨h, _⟩ | ⟨h, _⟩ | ⟨h, _⟩ | ⟨h, _⟩ | ⟨h, _⟩ | ⟨h, _⟩ | ⟨_, h⟩ | ⟨_, _, _, h⟩ | ⟨_, _, _, h⟩
  all_goals omega
end Go.Proofs.YtamiichlbmllcaaGreatDoor
/-
  Places that lie in one another; where an instruction jumps, what may go wrong, what becomes of a state, by the program's own calls.
-/
namespace Go.Proofs.YtamiichlbmllcaaGreatDoor
open Go.RowKit
abbrev St := Nat → R2
def liesO (x y : Option St) : Bool := match x, y with
  | none, _ => true
  | some _, none => false
  | some s, some t => liesR s t
set_option maxHeartbeats 4000000 in
set_option maxRecDepth 100000 in
theorem lies_un (s : St) (y : Bool) (t : St) (w : World) : Calls Tryz.prog 149 #[.agg (plC false s), .agg (plC y t)] w fun e w' => e = .returned (.bool true) ∧ Below w.heap.size w w' := by
  have hk := Kn.nil [] w
  go_enter Tryz.func149, Tryz.ntmps149
  go_wp2_with (first | ((with_reducible show wpList _ _ _ _ _ _); (first | (refine wS hk ?_; simp only [Act.put, pw]) | (refine wN hk ?_; clear hk; intro w1 hk; simp only [Act.put, pw]) | (refine wT hk ?_; clear hk; intro w1 hk; simp only [Act.put]))))
  go_ret
  exact ⟨rfl, hk.mod.below⟩
set_option maxHeartbeats 4000000 in
set_option maxRecDepth 100000 in
theorem lies_no (s t : St) (w : World) : Calls Tryz.prog 149 #[.agg (plC true s), .agg (plC false t)] w fun e w' => e = .returned (.bool false) ∧ Below w.heap.size w w' := by
  have hk := Kn.nil [] w
  go_enter Tryz.func149, Tryz.ntmps149
  go_wp2_with (first | ((with_reducible show wpList _ _ _ _ _ _); (first | (refine wS hk ?_; simp only [Act.put, pw]) | (refine wN hk ?_; clear hk; intro w1 hk; simp only [Act.put, pw]) | (refine wT hk ?_; clear hk; intro w1 hk; simp only [Act.put]))))
  go_ret
  exact ⟨rfl, hk.mod.below⟩
set_option maxHeartbeats 4000000 in
set_option maxRecDepth 100000 in
theorem lies_st (s t : St) (w : World) : Calls Tryz.prog 149 #[.agg (plC true s), .agg (plC true t)] w fun e w' => e = .returned (.bool (liesR s t)) ∧ Below w.heap.size w w' := by
  have hk := Kn.nil [] w
  go_enter Tryz.func149, Tryz.ntmps149
  go_wp2_with (first | (go_at_call 151; refine (stateLies_any _ _ _).mono ?_; rintro e w1 ⟨rfl, hb⟩; replace hk := hk.call hb; clear hb) | ((with_reducible show wpList _ _ _ _ _ _); (first | (refine wS hk ?_; simp only [Act.put, pw]) | (refine wN hk ?_; clear hk; intro w1 hk; simp only [Act.put, pw]) | (refine wT hk ?_; clear hk; intro w1 hk; simp only [Act.put]))))
  go_ret
  exact ⟨rfl, hk.mod.below⟩
theorem lies_any (x y : Option St) (w : World) : Calls Tryz.prog 149 #[.agg (plC x.isSome (stO x)), .agg (plC y.isSome (stO y))] w fun e w' => e = .returned (.bool (liesO x y)) ∧ Below w.heap.size w w' := by
  cases x with
  | none => exact lies_un _ _ _ w
  | some s => cases y with
    | none => exact lies_no _ _ w
    | some t => exact lies_st _ _ w
set_option maxHeartbeats 4000000 in
set_option maxRecDepth 100000 in
theorem target_no (T : Nat) (v : Value) (h1 : T ≠ 194) (h2 : T ≠ 196) (h3 : T ≠ 197) (pb cap n at_ : Nat) (hat : at_ < n) (w : World) (hi : w.cell? ⟨pb, at_ * 1, none⟩ = some (.iface T v)) : Calls Tryz.prog 101 #[.slice (some ⟨pb, 0, none⟩) n cap, .int .i64 at_] w fun e w' => e = .returned (.tuple #[.int .i64 0, .bool false]) ∧ Below w.heap.size w w' := by
  have hk := Kn.nil [] w
  go_enter Tryz.func101, Tryz.ntmps101
  go_wp2_with (first | ((with_reducible show wpList _ _ _ _ _ _); (first | (refine wS hk ?_; simp only [Act.put, pw]) | (refine wN hk ?_; clear hk; intro w1 hk; simp only [Act.put, pw]) | (refine wT hk ?_; clear hk; intro w1 hk; simp only [Act.put]))))
  go_ret2
  exact ⟨rfl, hk.mod.below⟩
set_option maxHeartbeats 4000000 in
set_option maxRecDepth 100000 in
theorem target_jump (k : Int) (pb cap n at_ : Nat) (hat : at_ < n) (w : World) (hi : w.cell? ⟨pb, at_ * 1, none⟩ = some (.iface 194 (.agg #[.int .i64 k]))) : Calls Tryz.prog 101 #[.slice (some ⟨pb, 0, none⟩) n cap, .int .i64 at_] w fun e w' => e = .returned (.tuple #[.int .i64 k, .bool true]) ∧ Below w.heap.size w w' := by
  have hk := Kn.nil [] w
  go_enter Tryz.func101, Tryz.ntmps101
  go_wp2_with (first | ((with_reducible show wpList _ _ _ _ _ _); (first | (refine wS hk ?_; simp only [Act.put, pw]) | (refine wN hk ?_; clear hk; intro w1 hk; simp only [Act.put, pw]) | (refine wT hk ?_; clear hk; intro w1 hk; simp only [Act.put]))))
  go_ret2
  exact ⟨rfl, hk.mod.below⟩
set_option maxHeartbeats 4000000 in
set_option maxRecDepth 100000 in
theorem target_less (a b k : Int) (pb cap n at_ : Nat) (hat : at_ < n) (w : World) (hi : w.cell? ⟨pb, at_ * 1, none⟩ = some (.iface 196 (.agg #[.int .i64 a, .int .i64 b, .int .i64 k]))) : Calls Tryz.prog 101 #[.slice (some ⟨pb, 0, none⟩) n cap, .int .i64 at_] w fun e w' => e = .returned (.tuple #[.int .i64 k, .bool true]) ∧ Below w.heap.size w w' := by
  have hk := Kn.nil [] w
  go_enter Tryz.func101, Tryz.ntmps101
  go_wp2_with (first | ((with_reducible show wpList _ _ _ _ _ _); (first | (refine wS hk ?_; simp only [Act.put, pw]) | (refine wN hk ?_; clear hk; intro w1 hk; simp only [Act.put, pw]) | (refine wT hk ?_; clear hk; intro w1 hk; simp only [Act.put]))))
  go_ret2
  exact ⟨rfl, hk.mod.below⟩
set_option maxHeartbeats 4000000 in
set_option maxRecDepth 100000 in
theorem target_same (a b k : Int) (pb cap n at_ : Nat) (hat : at_ < n) (w : World) (hi : w.cell? ⟨pb, at_ * 1, none⟩ = some (.iface 197 (.agg #[.int .i64 a, .int .i64 b, .int .i64 k]))) : Calls Tryz.prog 101 #[.slice (some ⟨pb, 0, none⟩) n cap, .int .i64 at_] w fun e w' => e = .returned (.tuple #[.int .i64 k, .bool true]) ∧ Below w.heap.size w w' := by
  have hk := Kn.nil [] w
  go_enter Tryz.func101, Tryz.ntmps101
  go_wp2_with (first | ((with_reducible show wpList _ _ _ _ _ _); (first | (refine wS hk ?_; simp only [Act.put, pw]) | (refine wN hk ?_; clear hk; intro w1 hk; simp only [Act.put, pw]) | (refine wT hk ?_; clear hk; intro w1 hk; simp only [Act.put]))))
  go_ret2
  exact ⟨rfl, hk.mod.below⟩
def wordR (r : R2) : Int := if inRg r ⟨0, 15⟩ then 0 else 7
def jumpsB (i : I5) : Bool := decide (9 ≤ i.o)
def targI (i : I5) : Int := if 9 ≤ i.o then i.k else 0
theorem target_any (i : I5) (N : Nat) (hfit : i.fits N = true) (pb cap n at_ : Nat) (hat : at_ < n) (w : World) (hi : w.cell? ⟨pb, at_ * 1, none⟩ = some (iVal i)) : Calls Tryz.prog 101 #[.slice (some ⟨pb, 0, none⟩) n cap, .int .i64 at_] w fun e w' => e = .returned (.tuple #[.int .i64 (targI i), .bool (jumpsB i)]) ∧ Below w.heap.size w w' := by
  have hc := fit_cases hfit
  obtain ⟨op, a, b, c, k⟩ := i
  simp only at hc
  rcases hc with rfl | ⟨rfl, _⟩ | ⟨rfl, _⟩ | ⟨rfl, _⟩ | ⟨rfl, _⟩ | ⟨rfl, _⟩ | ⟨rfl, _⟩ | ⟨rfl, _⟩ | ⟨rfl, _⟩ | ⟨rfl, _⟩ | ⟨rfl, _⟩ | ⟨rfl, _⟩
  · exact target_no 199 _ (by decide) (by decide) (by decide) pb cap n at_ hat w hi
  · exact target_no 183 _ (by decide) (by decide) (by decide) pb cap n at_ hat w hi
  · exact target_no 185 _ (by decide) (by decide) (by decide) pb cap n at_ hat w hi
  · exact target_no 187 _ (by decide) (by decide) (by decide) pb cap n at_ hat w hi
  · exact target_no 188 _ (by decide) (by decide) (by decide) pb cap n at_ hat w hi
  · exact target_no 189 _ (by decide) (by decide) (by decide) pb cap n at_ hat w hi
  · exact target_no 190 _ (by decide) (by decide) (by decide) pb cap n at_ hat w hi
  · exact target_no 191 _ (by decide) (by decide) (by decide) pb cap n at_ hat w hi
  · exact target_no 192 _ (by decide) (by decide) (by decide) pb cap n at_ hat w hi
  · exact target_jump k pb cap n at_ hat w hi
  · exact target_less a b k pb cap n at_ hat w hi
  · exact target_same a b k pb cap n at_ hat w hi
set_option maxHeartbeats 4000000 in
set_option maxRecDepth 100000 in
theorem dword_any (r : R2) (w : World) : Calls Tryz.prog 150 #[.agg (rgC r)] w fun e w' => e = .returned (.int .i64 (wordR r)) ∧ Below w.heap.size w w' := by
  have hk := Kn.nil [] w
  cases hB : inRg r ⟨0, 15⟩ with
  | true =>
    go_enter Tryz.func150, Tryz.ntmps150
    go_wp2_with (first | (go_at_call 152; refine (liesIn_c _ _ _).mono ?_; rintro e w1 ⟨rfl, hb⟩; replace hk := hk.call hb; clear hb; rw [hB]) | ((with_reducible show wpList _ _ _ _ _ _); (first | (refine wS hk ?_; simp only [Act.put, pw]) | (refine wN hk ?_; clear hk; intro w1 hk; simp only [Act.put, pw]) | (refine wT hk ?_; clear hk; intro w1 hk; simp only [Act.put]))))
    go_ret
    exact ⟨by unfold wordR; rw [hB]; rfl, hk.mod.below⟩
  | false =>
    go_enter Tryz.func150, Tryz.ntmps150
    go_wp2_with (first | (go_at_call 152; refine (liesIn_c _ _ _).mono ?_; rintro e w1 ⟨rfl, hb⟩; replace hk := hk.call hb; clear hb; rw [hB]) | ((with_reducible show wpList _ _ _ _ _ _); (first | (refine wS hk ?_; simp only [Act.put, pw]) | (refine wN hk ?_; clear hk; intro w1 hk; simp only [Act.put, pw]) | (refine wT hk ?_; clear hk; intro w1 hk; simp only [Act.put]))))
    go_ret
    exact ⟨by unfold wordR; rw [hB]; rfl, hk.mod.below⟩
set_option maxHeartbeats 4000000 in
set_option maxRecDepth 100000 in
theorem danger_no (T : Nat) (v : Value) (h1 : T ≠ 190) (h2 : T ≠ 191) (h3 : T ≠ 192) (pb cap n at_ : Nat) (hat : at_ < n) (s : St) (w : World) (hi : w.cell? ⟨pb, at_ * 1, none⟩ = some (.iface T v)) : Calls Tryz.prog 148 #[.slice (some ⟨pb, 0, none⟩) n cap, .int .i64 at_, .agg (stC s)] w fun e w' => e = .returned (.int .i64 (0)) ∧ Below w.heap.size w w' := by
  have hk := Kn.nil [] w
  go_enter Tryz.func148, Tryz.ntmps148
  go_wp2_with (first | ((with_reducible show wpList _ _ _ _ _ _); (first | (refine wS hk ?_; simp only [Act.put, pw]) | (refine wN hk ?_; clear hk; intro w1 hk; simp only [Act.put, pw]) | (refine wT hk ?_; clear hk; intro w1 hk; simp only [Act.put]))))
  go_ret
  exact ⟨rfl, hk.mod.below⟩
set_option maxHeartbeats 4000000 in
set_option maxRecDepth 100000 in
theorem danger_div6 (a b : Int) (c : Nat) (hc : c < 8) (pb cap n at_ : Nat) (hat : at_ < n) (s : St) (hB : hasR (s c) 0 = true) (w : World) (hi : w.cell? ⟨pb, at_ * 1, none⟩ = some (.iface 190 (.agg #[.int .i64 a, .int .i64 b, .int .i64 c]))) : Calls Tryz.prog 148 #[.slice (some ⟨pb, 0, none⟩) n cap, .int .i64 at_, .agg (stC s)] w fun e w' => e = .returned (.int .i64 6) ∧ Below w.heap.size w w' := by
  have hk := Kn.nil [] w
  go_enter Tryz.func148, Tryz.ntmps148
  go_wp2_with (first | (go_at_call 75; refine (has_c _ _ _).mono ?_; rintro e w1 ⟨rfl, hb⟩; replace hk := hk.call hb; clear hb; rw [hB]) | ((with_reducible show wpList _ _ _ _ _ _); (first | (refine wS hk ?_; simp only [Act.put, pw]) | (refine wN hk ?_; clear hk; intro w1 hk; simp only [Act.put, pw]) | (refine wT hk ?_; clear hk; intro w1 hk; simp only [Act.put]))))
  go_ret
  exact ⟨rfl, hk.mod.below⟩
set_option maxHeartbeats 4000000 in
set_option maxRecDepth 100000 in
theorem danger_div0 (a b : Int) (c : Nat) (hc : c < 8) (pb cap n at_ : Nat) (hat : at_ < n) (s : St) (hB : hasR (s c) 0 = false) (w : World) (hi : w.cell? ⟨pb, at_ * 1, none⟩ = some (.iface 190 (.agg #[.int .i64 a, .int .i64 b, .int .i64 c]))) : Calls Tryz.prog 148 #[.slice (some ⟨pb, 0, none⟩) n cap, .int .i64 at_, .agg (stC s)] w fun e w' => e = .returned (.int .i64 0) ∧ Below w.heap.size w w' := by
  have hk := Kn.nil [] w
  go_enter Tryz.func148, Tryz.ntmps148
  go_wp2_with (first | (go_at_call 75; refine (has_c _ _ _).mono ?_; rintro e w1 ⟨rfl, hb⟩; replace hk := hk.call hb; clear hb; rw [hB]) | ((with_reducible show wpList _ _ _ _ _ _); (first | (refine wS hk ?_; simp only [Act.put, pw]) | (refine wN hk ?_; clear hk; intro w1 hk; simp only [Act.put, pw]) | (refine wT hk ?_; clear hk; intro w1 hk; simp only [Act.put]))))
  go_ret
  exact ⟨rfl, hk.mod.below⟩
set_option maxHeartbeats 4000000 in
set_option maxRecDepth 100000 in
theorem danger_load (a : Int) (b : Nat) (hb8 : b < 8) (pb cap n at_ : Nat) (hat : at_ < n) (s : St) (w : World) (hi : w.cell? ⟨pb, at_ * 1, none⟩ = some (.iface 191 (.agg #[.int .i64 a, .int .i64 b]))) : Calls Tryz.prog 148 #[.slice (some ⟨pb, 0, none⟩) n cap, .int .i64 at_, .agg (stC s)] w fun e w' => e = .returned (.int .i64 (wordR (s b))) ∧ Below w.heap.size w w' := by
  have hk := Kn.nil [] w
  go_enter Tryz.func148, Tryz.ntmps148
  go_wp2_with (first | (go_at_call 150; refine (dword_any _ _).mono ?_; rintro e w1 ⟨rfl, hb⟩; replace hk := hk.call hb; clear hb) | ((with_reducible show wpList _ _ _ _ _ _); (first | (refine wS hk ?_; simp only [Act.put, pw]) | (refine wN hk ?_; clear hk; intro w1 hk; simp only [Act.put, pw]) | (refine wT hk ?_; clear hk; intro w1 hk; simp only [Act.put]))))
  go_ret
  exact ⟨rfl, hk.mod.below⟩
set_option maxHeartbeats 4000000 in
set_option maxRecDepth 100000 in
theorem danger_store (a : Nat) (b : Int) (ha8 : a < 8) (pb cap n at_ : Nat) (hat : at_ < n) (s : St) (w : World) (hi : w.cell? ⟨pb, at_ * 1, none⟩ = some (.iface 192 (.agg #[.int .i64 a, .int .i64 b]))) : Calls Tryz.prog 148 #[.slice (some ⟨pb, 0, none⟩) n cap, .int .i64 at_, .agg (stC s)] w fun e w' => e = .returned (.int .i64 (wordR (s a))) ∧ Below w.heap.size w w' := by
  have hk := Kn.nil [] w
  go_enter Tryz.func148, Tryz.ntmps148
  go_wp2_with (first | (go_at_call 150; refine (dword_any _ _).mono ?_; rintro e w1 ⟨rfl, hb⟩; replace hk := hk.call hb; clear hb) | ((with_reducible show wpList _ _ _ _ _ _); (first | (refine wS hk ?_; simp only [Act.put, pw]) | (refine wN hk ?_; clear hk; intro w1 hk; simp only [Act.put, pw]) | (refine wT hk ?_; clear hk; intro w1 hk; simp only [Act.put]))))
  go_ret
  exact ⟨rfl, hk.mod.below⟩
end Go.Proofs.YtamiichlbmllcaaGreatDoor
