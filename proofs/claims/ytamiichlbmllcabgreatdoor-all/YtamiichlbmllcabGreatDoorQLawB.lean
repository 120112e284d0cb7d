import Derived.Test.YtamiichlbmllcabGreatDoorQIns
import Derived.OwnWalk
import Derived.Deep.RegionLaw
import Derived.Deep.QuietTactic
import Derived.BigQuiet
import Derived.Test.YtamiichlbmllcabGreatDoorQKn
import Derived.Test.YtamiichlbmllcabGreatDoorQFlD
import Derived.SizedLaws
import Derived.Laws.CopyOwn
set_option maxRecDepth 100000
set_option maxHeartbeats 32000000
namespace Go.Proofs.YtamiichlbmllcabGreatDoor
open Go.RowKit
theorem Tryz.infoIn : (Tryz.prog.info? 74).map (fun i => (i.zero, i.size, i.bytes)) = some (some .nilIface, 1, 16) := by kernel_rfl
theorem info_three {P : Program} {t : TypeId} {z : Value} {s b : Nat} (h : (P.info? t).map (fun i => (i.zero, i.size, i.bytes)) = some (some z, s, b)) : ∃ i, P.info? t = some i /\ i.zero = some z /\ i.size = s /\ i.bytes = b := by
 cases hi : P.info? t with
 | none => rw [hi] at h; simp at h
 | some i => rw [hi] at h; simp at h; exact ⟨i, rfl, h.1, h.2.1, h.2.2⟩
theorem one_ite {c : Prop} [Decidable c] {a b : Value} (ha : a.oneCell' = true) (hb : b.oneCell' = true) : (if c then a else b).oneCell' = true := by split <;> assumption
theorem iVal_one (i : I5) : (iVal i).oneCell' = true := by
 unfold iVal
 repeat (refine one_ite rfl ?_)
 rfl
theorem iface_ite {c : Prop} [Decidable c] {a b : Value} (ha : ∃ t y, a = .iface t y) (hb : ∃ t y, b = .iface t y) : ∃ t y, (if c then a else b) = .iface t y := by split <;> assumption
theorem iVal_iface (i : I5) : ∃ t y, iVal i = .iface t y := by
 unfold iVal
 repeat (refine iface_ite ⟨_, _, rfl⟩ ?_)
 exact ⟨_, _, rfl⟩
theorem own_bel {w w' : World} {B e size n : Nat} {v : Value} {xs : List Value} (h : w.ownsRow B e size v n xs) (hb : Below w.heap.size w w') : w'.ownsRow B e size v n xs := by
 refine ⟨h.1, ?_⟩
 rcases h.2 with h2 | ⟨g, cap, cur, h3, h4, hh, r⟩
 · exact Or.inl h2
 · exact Or.inr ⟨g, cap, cur, h3, h4, by rw [hb.block g (lt_of_block hh)]; exact hh, r⟩
def OwnP (w : World) (base : Nat) (v : Value) (l : List I5) : Prop := w.ownsRow base 74 1 v l.length (l.map iVal)
theorem one_new (w : World) (u : Value) (t : TypeId) (g : Nat) (hg : g = w.heap.size) : ∀ j x, [u][j]? = some x -> (w.alloc (.cells #[u] t)).cell? ((⟨g, 0, none⟩ : Addr).add j) = some x := by
 subst hg
 intro j x hj
 have hadd : (⟨w.heap.size, 0, none⟩ : Addr).add j = ⟨w.heap.size, j, none⟩ := by unfold Addr.add; split <;> simp_all
 rw [hadd, cell_of_row _ _ _ _ _ _ (heap_alloc_new w _)]
 simpa using hj
theorem progOf_some (l : List I5) (b off cap : Nat) (w : World) (hb : b < w.heap.size) (hl2 : l.length <= 64) (hi : ∀ i (h : i < l.length), InsAt w b (off + i * 5) l[i]) :
 Calls Tryz.prog 11 #[.slice (some ⟨b, off, none⟩) l.length cap] w fun e w' => ∃ v, e = .returned v /\ OwnP w' w.heap.size v l /\ Below w.heap.size w w' := by
 obtain ⟨i0, hii, hz0, hzs, hz2⟩ := info_three Tryz.infoIn
 have HI := hide hi
 clear hi
 go_enter Tryz.func11, Tryz.ntmps11
 go_wp2_with (at_make; go_must (refine wpList_make_own _ rfl (.const (.int .i64 0)) (.tmp 7) 58 rfl w.heap.size 74 i0 _ 1 Tryz.underlying58 hii hz0 hzs .i64 .i64 l.length l.length rfl rfl rfl ?b2 ?b3 ?b4 ?_))
 case b2 => rw [hz2]; omega
 case b3 => unfold maxLen; omega
 case b4 => simp
 intro w1 hown1 hgrow1
 have hbl1 : Below w.heap.size w w1 := Below.grown (B := w.heap.size) (Below.refl _ _) hgrow1 (by simp) (fun k hk => by cases hk)
 clear hgrow1
 go_wp2_with fail
 go_loopw [3, 11] (fun p j wr => ∃ n : Nat, n <= l.length /\ j = .int .i64 n /\ OwnP wr w.heap.size p (l.take n) /\ Below w.heap.size w wr) (fun _ j _ => l.length - (intOf j).toNat)
 case atStart => exact ⟨0, by omega, rfl, by simpa [OwnP] using hown1, hbl1⟩
 case round =>
  clear hown1 hbl1
  obtain ⟨n, hn, rfl, hown, hbl⟩ := hrel
  by_cases hlt : n < l.length
  · obtain ⟨c0, c1, c2, c3, c4⟩ := (HI.out n hlt).below hbl hb
    have hz := hbl.size
    obtain ⟨x, hx⟩ : ∃ x, x = l[n] := ⟨_, rfl⟩
    rw [<- hx] at c0 c1 c2 c3 c4
    have HX := hide hx
    clear hx
    obtain ⟨a3, cp3, rfl⟩ : ∃ a c, u3 = .slice a n c := by
     rcases hown.2 with ⟨h1, h2⟩ | ⟨g, cap, cur, h1, _⟩
     · exact ⟨none, 0, by rw [h1]; simp at h2; rcases h2 with h2 | h2; rw [h2]; rw [h2] at hlt; simp at hlt⟩
     · exact ⟨_, _, by rw [h1, List.length_take, Nat.min_eq_left hn]⟩
    go_wp2_with fail
    refine (insOf_any x _).mono ?_
    rintro e w2 ⟨rfl, hb2⟩
    generalize hW : wr.alloc (.cells #[.int .i64 x.o, .int .i64 x.a, .int .i64 x.b, .int .i64 x.c, .int .i64 x.k] 35) = w15 at *
    have hb15 : Below wr.heap.size wr w15 := by rw [<- hW]; exact (Below.refl _ _).alloc (Nat.le_refl _) _
    have hown2 : OwnP w2 w.heap.size (.slice a3 n cp3) (l.take n) := own_bel (own_bel hown hb15) hb2
    have hbl2 : Below w.heap.size w w2 := (hbl.trans (hb15.mono hz)).trans (hb2.mono (by have := hb15.size; omega))
    have hz2' := hbl2.size
    obtain ⟨tV, yV, hV⟩ := iVal_iface x
    rw [hV]
    have HV := hide hV
    clear hW hb15 hb2 hown hbl c0 c1 c2 c3 c4 hV
    go_wp2_with (at_builtin; go_must (refine wpList_append_own _ rfl (.tmp 15) (.tmp 18) 58 rfl w.heap.size 74 i0 _ 1 16 Tryz.underlying58 hii hz0 hzs hz2 rfl (by decide) (.slice a3 n cp3) (l.take n).length ((l.take n).map iVal) rfl ?o1 ⟨w2.heap.size, 0, none⟩ 1 1 [.iface tV yV] rfl rfl ?n1 ?u1 ?m1 ?b1 ?s1 ?_))
    case o1 => exact World.ownsRow.alloc hown2 _
    case n1 => exact one_new _ _ _ _ rfl
    case u1 => intro u hu; simp at hu; rw [hu, <- HV.out]; exact iVal_one x
    case m1 => unfold maxLen; simp; omega
    case b1 => simp; omega
    case s1 => simp; omega
    intro v4 w4 hown4 hg4 _
    have hbl4 : Below w.heap.size w w4 := (hbl2.alloc hz2' _).grown hg4 (by simp; omega) (fun k hk => (World.ownsRow.lt hown2 k hk).1)
    clear hown2 hbl2 hg4
    go_wp2
    go_roundw
    case rel =>
     refine ⟨n + 1, by omega, by go_num, ?_, hbl4⟩
     have e1 : l.take (n + 1) = l.take n ++ [x] := by rw [HX.out]; exact (List.take_append_getElem hlt).symm
     unfold OwnP
     rw [e1, List.map_append, List.length_append, List.map_singleton, HV.out, List.length_take, Nat.min_eq_left hn]
     rw [List.map_take]
     exact hown4
    case measure => simp [intOf]; omega
  · go_wp2
    go_ret
    exact ⟨_, rfl, by rw [List.take_of_length_le (by omega)] at hown; exact hown, hbl⟩
theorem progOf_any (l : List I5) (v : Value) (w : World) (h : Slc w v l) (hl : 0 < l.length) (hl2 : l.length <= 64) :
 Calls Tryz.prog 11 #[v] w fun e w' => ∃ v, e = .returned v /\ OwnP w' w.heap.size v l /\ Below w.heap.size w w' := by
 rcases h with ⟨_, rfl⟩ | ⟨b, off, cap, rfl, h1, h2⟩
 · simp at hl
 · exact progOf_some l b off cap w h1 hl2 h2
def inR (a : Int) : Prop := 0 <= a /\ a < 8
theorem fit_cases {i : I5} {n : Nat} (h : i.fits n = true) :
 (i.o = 0) \/ (i.o = 1 /\ inR i.a) \/ (i.o = 2 /\ inR i.a /\ inR i.b) \/ (i.o = 3 /\ inR i.a /\ inR i.b /\ inR i.c) \/ (i.o = 4 /\ inR i.a /\ inR i.b /\ inR i.c) \/ (i.o = 5 /\ inR i.a /\ inR i.b /\ inR i.c) \/ (i.o = 6 /\ inR i.a /\ inR i.b /\ inR i.c) \/
 (i.o = 7 /\ inR i.a /\ inR i.b) \/ (i.o = 8 /\ inR i.a /\ inR i.b) \/ (i.o = 9 /\ 0 <= i.k /\ i.k < n) \/ (i.o = 10 /\ inR i.a /\ inR i.b /\ 0 <= i.k /\ i.k < n) \/ (i.o = 11 /\ inR i.a /\ inR i.b /\ 0 <= i.k /\ i.k < n) := by
 obtain ⟨o, a, b, c, k⟩ := i
 unfold I5.fits fitsB at h
 simp only [Bool.and_eq_true, decide_eq_true_eq] at h
 obtain ⟨⟨⟨⟨⟨h0, h1⟩, ha⟩, hb⟩, hc⟩, hk⟩ := h
 have : o = 0 \/ o = 1 \/ o = 2 \/ o = 3 \/ o = 4 \/ o = 5 \/ o = 6 \/ o = 7 \/ o = 8 \/ o = 9 \/ o = 10 \/ o = 11 := by omega
 unfold inR
 rcases this with rfl | rfl | rfl | rfl | rfl | rfl | rfl | rfl | rfl | rfl | rfl | rfl <;> simp [regOk, kOk, nregs, kbytes] at ha hb hc hk ⊢ <;> omega
theorem inR.nat {a : Int} (h : inR a) : ∃ n : Nat, n < 8 /\ a = n := ⟨a.toNat, by have := h.1; have := h.2; omega, by have := h.1; omega⟩
def insAt (p : List I5) (pc : Nat) : I5 := (p[pc]?).getD ⟨0, 0, 0, 0, 0⟩
theorem insAt_get {p : List I5} {pc : Nat} (h : pc < p.length) : insAt p pc = p[pc] := by unfold insAt; rw [List.getElem?_eq_getElem h]; rfl
def ProgAt (w : World) (pb : Nat) (vf : I5 -> Value) (l : List I5) : Prop := pb < w.heap.size /\ ∀ pc, pc < l.length -> w.cell? ⟨pb, pc, none⟩ = some (vf (insAt l pc))
theorem ProgAt.bel {w w' : World} {pb B : Nat} {vf : I5 -> Value} {l : List I5} (h : ProgAt w pb vf l) (hb : Below B w w') (hB : pb < B) : ProgAt w' pb vf l :=
 ⟨Nat.lt_of_lt_of_le h.1 hb.size, fun pc hpc => by rw [hb.cell (p := ⟨pb, pc, none⟩) hB]; exact h.2 pc hpc⟩
theorem ProgAt.but {w w' : World} {pb g : Nat} {vf : I5 -> Value} {l : List I5} (h : ProgAt w pb vf l) (hb : But g w w') (hne : pb ≠ g) : ProgAt w' pb vf l :=
 ⟨Nat.lt_of_lt_of_le h.1 hb.size, fun pc hpc => by rw [World.cell?_of_block (w := w) (a := ⟨pb, pc, none⟩) (hb.block pb h.1 hne)]; exact h.2 pc hpc⟩
def AllFit (p : List I5) : Prop := 0 < p.length /\ p.length <= 64 /\ ∀ i (h : i < p.length), p[i].fits p.length = true
theorem AllFit.k {p : List I5} (h : AllFit p) {pc : Nat} (hpc : pc < p.length) (h9 : 9 <= (insAt p pc).o) : 0 <= (insAt p pc).k /\ (insAt p pc).k.toNat < p.length := by
 rw [insAt_get hpc] at *
 rcases fit_cases (h.2.2 pc hpc) with h | ⟨h, _⟩ | ⟨h, _⟩ | ⟨h, _⟩ | ⟨h, _⟩ | ⟨h, _⟩ | ⟨h, _⟩ | ⟨h, _⟩ | ⟨h, _⟩ | ⟨_, h⟩ | ⟨_, _, _, h⟩ | ⟨_, _, _, h⟩
 all_goals omega
abbrev St := Nat -> R2
def liesO (x y : Option St) : Bool := match x, y with
 | none, _ => true
 | some _, none => false
 | some s, some t => liesR s t
theorem lies_un (s : St) (y : Bool) (t : St) (w : World) : Calls Tryz.prog 128 #[.agg (plC false s), .agg (plC y t)] w fun e w' => e = .returned (.bool true) /\ Below w.heap.size w w' := by
 have hk := Kn.nil [] w
 go_enter Tryz.func128, Tryz.ntmps128
 go_wp2_with ((with_reducible apply gL); (first | refine wS hk ?_ | (refine wN hk ?_; clear hk; intro w1 hk)); simp only [pw])
 go_ret
 exact ⟨rfl, hk.mod.below⟩
theorem lies_no (s t : St) (w : World) : Calls Tryz.prog 128 #[.agg (plC true s), .agg (plC false t)] w fun e w' => e = .returned (.bool false) /\ Below w.heap.size w w' := by
 have hk := Kn.nil [] w
 go_enter Tryz.func128, Tryz.ntmps128
 go_wp2_with ((with_reducible apply gL); (first | refine wS hk ?_ | (refine wN hk ?_; clear hk; intro w1 hk)); simp only [pw])
 go_ret
 exact ⟨rfl, hk.mod.below⟩
theorem lies_st (s t : St) (w : World) : Calls Tryz.prog 128 #[.agg (plC true s), .agg (plC true t)] w fun e w' => e = .returned (.bool (liesR s t)) /\ Below w.heap.size w w' := by
 have hk := Kn.nil [] w
 go_enter Tryz.func128, Tryz.ntmps128
 go_wp2_with (first | (go_at_call 130; refine (stateLies_any _ _ _).mono ?_; rintro e w1 ⟨rfl, hb⟩; replace hk := hk.call hb; clear hb) | ((with_reducible apply gL); (first | refine wS hk ?_ | (refine wN hk ?_; clear hk; intro w1 hk)); simp only [pw]))
 go_ret
 exact ⟨rfl, hk.mod.below⟩
theorem lies_any (x y : Option St) (w : World) : Calls Tryz.prog 128 #[.agg (plC x.isSome (stO x)), .agg (plC y.isSome (stO y))] w fun e w' => e = .returned (.bool (liesO x y)) /\ Below w.heap.size w w' := by
 cases x with
 | none => exact lies_un _ _ _ w
 | some s => cases y with
   | none => exact lies_no _ _ w
   | some t => exact lies_st _ _ w
theorem target_no (T : Nat) (v : Value) (h1 : T ≠ 141) (h2 : T ≠ 143) (h3 : T ≠ 144) (pb cap n at_ : Nat) (hat : at_ < n) (w : World) (hi : w.cell? ⟨pb, at_ * 1, none⟩ = some (.iface T v)) : Calls Tryz.prog 82 #[.slice (some ⟨pb, 0, none⟩) n cap, .int .i64 at_] w fun e w' => e = .returned (.tuple #[.int .i64 0, .bool false]) /\ Below w.heap.size w w' := by
 have hk := Kn.nil [] w
 go_enter Tryz.func82, Tryz.ntmps82
 go_wp2_with ((with_reducible apply gL); (first | refine wS hk ?_ | (refine wN hk ?_; clear hk; intro w1 hk)); simp only [pw])
 go_ret2
 exact ⟨rfl, hk.mod.below⟩
theorem target_jump (k : Int) (pb cap n at_ : Nat) (hat : at_ < n) (w : World) (hi : w.cell? ⟨pb, at_ * 1, none⟩ = some (.iface 141 (.agg #[.int .i64 k]))) : Calls Tryz.prog 82 #[.slice (some ⟨pb, 0, none⟩) n cap, .int .i64 at_] w fun e w' => e = .returned (.tuple #[.int .i64 k, .bool true]) /\ Below w.heap.size w w' := by
 have hk := Kn.nil [] w
 go_enter Tryz.func82, Tryz.ntmps82
 go_wp2_with ((with_reducible apply gL); (first | refine wS hk ?_ | (refine wN hk ?_; clear hk; intro w1 hk)); simp only [pw])
 go_ret2
 exact ⟨rfl, hk.mod.below⟩
theorem target_less (a b k : Int) (pb cap n at_ : Nat) (hat : at_ < n) (w : World) (hi : w.cell? ⟨pb, at_ * 1, none⟩ = some (.iface 143 (.agg #[.int .i64 a, .int .i64 b, .int .i64 k]))) : Calls Tryz.prog 82 #[.slice (some ⟨pb, 0, none⟩) n cap, .int .i64 at_] w fun e w' => e = .returned (.tuple #[.int .i64 k, .bool true]) /\ Below w.heap.size w w' := by
 have hk := Kn.nil [] w
 go_enter Tryz.func82, Tryz.ntmps82
 go_wp2_with ((with_reducible apply gL); (first | refine wS hk ?_ | (refine wN hk ?_; clear hk; intro w1 hk)); simp only [pw])
 go_ret2
 exact ⟨rfl, hk.mod.below⟩
theorem target_same (a b k : Int) (pb cap n at_ : Nat) (hat : at_ < n) (w : World) (hi : w.cell? ⟨pb, at_ * 1, none⟩ = some (.iface 144 (.agg #[.int .i64 a, .int .i64 b, .int .i64 k]))) : Calls Tryz.prog 82 #[.slice (some ⟨pb, 0, none⟩) n cap, .int .i64 at_] w fun e w' => e = .returned (.tuple #[.int .i64 k, .bool true]) /\ Below w.heap.size w w' := by
 have hk := Kn.nil [] w
 go_enter Tryz.func82, Tryz.ntmps82
 go_wp2_with ((with_reducible apply gL); (first | refine wS hk ?_ | (refine wN hk ?_; clear hk; intro w1 hk)); simp only [pw])
 go_ret2
 exact ⟨rfl, hk.mod.below⟩
def wordR (r : R2) : Int := if inRg r ⟨0, 15⟩ then 0 else 7
def jumpsB (i : I5) : Bool := decide (9 <= i.o)
def targI (i : I5) : Int := if 9 <= i.o then i.k else 0
theorem target_any (i : I5) (N : Nat) (hfit : i.fits N = true) (pb cap n at_ : Nat) (hat : at_ < n) (w : World) (hi : w.cell? ⟨pb, at_ * 1, none⟩ = some (iVal i)) : Calls Tryz.prog 82 #[.slice (some ⟨pb, 0, none⟩) n cap, .int .i64 at_] w fun e w' => e = .returned (.tuple #[.int .i64 (targI i), .bool (jumpsB i)]) /\ Below w.heap.size w w' := by
 have hc := fit_cases hfit
 obtain ⟨op, a, b, c, k⟩ := i
 simp only at hc
 rcases hc with rfl | ⟨rfl, _⟩ | ⟨rfl, _⟩ | ⟨rfl, _⟩ | ⟨rfl, _⟩ | ⟨rfl, _⟩ | ⟨rfl, _⟩ | ⟨rfl, _⟩ | ⟨rfl, _⟩ | ⟨rfl, _⟩ | ⟨rfl, _⟩ | ⟨rfl, _⟩
 · exact target_no 146 _ (by decide) (by decide) (by decide) pb cap n at_ hat w hi
 · exact target_no 130 _ (by decide) (by decide) (by decide) pb cap n at_ hat w hi
 · exact target_no 132 _ (by decide) (by decide) (by decide) pb cap n at_ hat w hi
 · exact target_no 134 _ (by decide) (by decide) (by decide) pb cap n at_ hat w hi
 · exact target_no 135 _ (by decide) (by decide) (by decide) pb cap n at_ hat w hi
 · exact target_no 136 _ (by decide) (by decide) (by decide) pb cap n at_ hat w hi
 · exact target_no 137 _ (by decide) (by decide) (by decide) pb cap n at_ hat w hi
 · exact target_no 138 _ (by decide) (by decide) (by decide) pb cap n at_ hat w hi
 · exact target_no 139 _ (by decide) (by decide) (by decide) pb cap n at_ hat w hi
 · exact target_jump k pb cap n at_ hat w hi
 · exact target_less a b k pb cap n at_ hat w hi
 · exact target_same a b k pb cap n at_ hat w hi
theorem dword_any (r : R2) (w : World) : Calls Tryz.prog 129 #[.agg (rgC r)] w fun e w' => e = .returned (.int .i64 (wordR r)) /\ Below w.heap.size w w' := by
 have hk := Kn.nil [] w
 cases hB : inRg r ⟨0, 15⟩ with
 | true =>
   go_enter Tryz.func129, Tryz.ntmps129
   go_wp2_with (first | (go_at_call 131; refine (liesIn_c _ _ _).mono ?_; rintro e w1 ⟨rfl, hb⟩; replace hk := hk.call hb; clear hb; rw [hB]) | ((with_reducible apply gL); (first | refine wS hk ?_ | (refine wN hk ?_; clear hk; intro w1 hk)); simp only [pw]))
   go_ret
   exact ⟨by unfold wordR; rw [hB]; rfl, hk.mod.below⟩
 | false =>
   go_enter Tryz.func129, Tryz.ntmps129
   go_wp2_with (first | (go_at_call 131; refine (liesIn_c _ _ _).mono ?_; rintro e w1 ⟨rfl, hb⟩; replace hk := hk.call hb; clear hb; rw [hB]) | ((with_reducible apply gL); (first | refine wS hk ?_ | (refine wN hk ?_; clear hk; intro w1 hk)); simp only [pw]))
   go_ret
   exact ⟨by unfold wordR; rw [hB]; rfl, hk.mod.below⟩
theorem danger_no (T : Nat) (v : Value) (h1 : T ≠ 137) (h2 : T ≠ 138) (h3 : T ≠ 139) (pb cap n at_ : Nat) (hat : at_ < n) (s : St) (w : World) (hi : w.cell? ⟨pb, at_ * 1, none⟩ = some (.iface T v)) : Calls Tryz.prog 127 #[.slice (some ⟨pb, 0, none⟩) n cap, .int .i64 at_, .agg (stC s)] w fun e w' => e = .returned (.int .i64 (0)) /\ Below w.heap.size w w' := by
 have hk := Kn.nil [] w
 go_enter Tryz.func127, Tryz.ntmps127
 go_wp2_with ((with_reducible apply gL); (first | refine wS hk ?_ | (refine wN hk ?_; clear hk; intro w1 hk)); simp only [pw])
 go_ret
 exact ⟨rfl, hk.mod.below⟩
theorem danger_div6 (a b : Int) (c : Nat) (hc : c < 8) (pb cap n at_ : Nat) (hat : at_ < n) (s : St) (hB : hasR (s c) 0 = true) (w : World) (hi : w.cell? ⟨pb, at_ * 1, none⟩ = some (.iface 137 (.agg #[.int .i64 a, .int .i64 b, .int .i64 c]))) : Calls Tryz.prog 127 #[.slice (some ⟨pb, 0, none⟩) n cap, .int .i64 at_, .agg (stC s)] w fun e w' => e = .returned (.int .i64 6) /\ Below w.heap.size w w' := by
 have hk := Kn.nil [] w
 go_enter Tryz.func127, Tryz.ntmps127
 go_wp2_with (first | (go_at_call 28; refine (has_c _ _ _).mono ?_; rintro e w1 ⟨rfl, hb⟩; replace hk := hk.call hb; clear hb; rw [hB]) | ((with_reducible apply gL); (first | refine wS hk ?_ | (refine wN hk ?_; clear hk; intro w1 hk)); simp only [pw]))
 go_ret
 exact ⟨rfl, hk.mod.below⟩
theorem danger_div0 (a b : Int) (c : Nat) (hc : c < 8) (pb cap n at_ : Nat) (hat : at_ < n) (s : St) (hB : hasR (s c) 0 = false) (w : World) (hi : w.cell? ⟨pb, at_ * 1, none⟩ = some (.iface 137 (.agg #[.int .i64 a, .int .i64 b, .int .i64 c]))) : Calls Tryz.prog 127 #[.slice (some ⟨pb, 0, none⟩) n cap, .int .i64 at_, .agg (stC s)] w fun e w' => e = .returned (.int .i64 0) /\ Below w.heap.size w w' := by
 have hk := Kn.nil [] w
 go_enter Tryz.func127, Tryz.ntmps127
 go_wp2_with (first | (go_at_call 28; refine (has_c _ _ _).mono ?_; rintro e w1 ⟨rfl, hb⟩; replace hk := hk.call hb; clear hb; rw [hB]) | ((with_reducible apply gL); (first | refine wS hk ?_ | (refine wN hk ?_; clear hk; intro w1 hk)); simp only [pw]))
 go_ret
 exact ⟨rfl, hk.mod.below⟩
theorem danger_load (a : Int) (b : Nat) (hb8 : b < 8) (pb cap n at_ : Nat) (hat : at_ < n) (s : St) (w : World) (hi : w.cell? ⟨pb, at_ * 1, none⟩ = some (.iface 138 (.agg #[.int .i64 a, .int .i64 b]))) : Calls Tryz.prog 127 #[.slice (some ⟨pb, 0, none⟩) n cap, .int .i64 at_, .agg (stC s)] w fun e w' => e = .returned (.int .i64 (wordR (s b))) /\ Below w.heap.size w w' := by
 have hk := Kn.nil [] w
 go_enter Tryz.func127, Tryz.ntmps127
 go_wp2_with (first | (go_at_call 129; refine (dword_any _ _).mono ?_; rintro e w1 ⟨rfl, hb⟩; replace hk := hk.call hb; clear hb) | ((with_reducible apply gL); (first | refine wS hk ?_ | (refine wN hk ?_; clear hk; intro w1 hk)); simp only [pw]))
 go_ret
 exact ⟨rfl, hk.mod.below⟩
theorem danger_store (a : Nat) (b : Int) (ha8 : a < 8) (pb cap n at_ : Nat) (hat : at_ < n) (s : St) (w : World) (hi : w.cell? ⟨pb, at_ * 1, none⟩ = some (.iface 139 (.agg #[.int .i64 a, .int .i64 b]))) : Calls Tryz.prog 127 #[.slice (some ⟨pb, 0, none⟩) n cap, .int .i64 at_, .agg (stC s)] w fun e w' => e = .returned (.int .i64 (wordR (s a))) /\ Below w.heap.size w w' := by
 have hk := Kn.nil [] w
 go_enter Tryz.func127, Tryz.ntmps127
 go_wp2_with (first | (go_at_call 129; refine (dword_any _ _).mono ?_; rintro e w1 ⟨rfl, hb⟩; replace hk := hk.call hb; clear hb) | ((with_reducible apply gL); (first | refine wS hk ?_ | (refine wN hk ?_; clear hk; intro w1 hk)); simp only [pw]))
 go_ret
 exact ⟨rfl, hk.mod.below⟩
def flowOn (i : I5) (s : St) : Option St :=
 if i.o = 1 then some (updS s i.a.toNat ⟨i.k, i.k⟩)
 else if i.o = 2 then some (updS s i.a.toNat (s i.b.toNat))
 else if i.o = 3 then some (updS s i.a.toNat (sumR (s i.b.toNat) (s i.c.toNat)))
 else if i.o = 4 then some (updS s i.a.toNat (difR (s i.b.toNat) (s i.c.toNat)))
 else if i.o = 5 then some (updS s i.a.toNat (prodR (s i.b.toNat) (s i.c.toNat)))
 else if i.o = 6 then some (updS s i.a.toNat (quoR (s i.b.toNat) (s i.c.toNat)))
 else if i.o = 7 then some (updS s i.a.toNat allR)
 else if i.o = 8 then some s
 else if i.o = 10 then (if i.a = i.b then some s else narrR s i.a.toNat ⟨max (s i.a.toNat).lo (s i.b.toNat).lo, (s i.a.toNat).hi⟩ i.b.toNat ⟨(s i.b.toNat).lo, min (s i.b.toNat).hi (s i.a.toNat).hi⟩)
 else if i.o = 11 then (if i.a = i.b then none else if oneR (s i.a.toNat) (s i.b.toNat) then none else some s)
 else none
def flowFar (i : I5) (s : St) : Option St :=
 if i.o = 9 then some s
 else if i.o = 10 then (if i.a = i.b then none else if (s i.b.toNat).hi = -9223372036854775808 \/ (s i.a.toNat).lo = 9223372036854775807 then none
  else narrR s i.a.toNat ⟨(s i.a.toNat).lo, min (s i.a.toNat).hi ((s i.b.toNat).hi - 1)⟩ i.b.toNat ⟨max (s i.b.toNat).lo ((s i.a.toNat).lo + 1), (s i.b.toNat).hi⟩)
 else if i.o = 11 then (if i.a = i.b then some s else narrR s i.a.toNat (comR (s i.a.toNat) (s i.b.toNat)) i.b.toNat (comR (s i.a.toNat) (s i.b.toNat)))
 else none
def dangR (i : I5) (s : St) : Int :=
 if i.o = 6 then (if hasR (s i.c.toNat) 0 then 6 else 0)
 else if i.o = 7 then (if inRg (s i.b.toNat) ⟨0, 15⟩ then 0 else 7)
 else if i.o = 8 then (if inRg (s i.a.toNat) ⟨0, 15⟩ then 0 else 7)
 else 0
def St.in64 (s : St) : Prop := ∀ j, j < 8 -> (s j).in64
def St.ok (s : St) : Prop := ∀ j, j < 8 -> (s j).lo <= (s j).hi
theorem ret_i64 {a b : Int} (h : a = b) : Ending.returned (.int .i64 a) = .returned (.int .i64 b) := by rw [h]
theorem danger_any (i : I5) (N : Nat) (hfit : i.fits N = true) (pb cap n at_ : Nat) (hat : at_ < n) (s : St) (w : World) (hi : w.cell? ⟨pb, at_ * 1, none⟩ = some (iVal i)) : Calls Tryz.prog 127 #[.slice (some ⟨pb, 0, none⟩) n cap, .int .i64 at_, .agg (stC s)] w fun e w' => e = .returned (.int .i64 (dangR i s)) /\ Below w.heap.size w w' := by
 have hc := fit_cases hfit
 obtain ⟨op, a, b, c, k⟩ := i
 simp only at hc
 rcases hc with rfl | ⟨rfl, _⟩ | ⟨rfl, _⟩ | ⟨rfl, _⟩ | ⟨rfl, _⟩ | ⟨rfl, _⟩ | ⟨rfl, ha, hb, hc⟩ | ⟨rfl, ha, hb⟩ | ⟨rfl, ha, hb⟩ | ⟨rfl, _⟩ | ⟨rfl, _⟩ | ⟨rfl, _⟩
 · exact danger_no 146 _ (by decide) (by decide) (by decide) pb cap n at_ hat s w hi
 · exact danger_no 130 _ (by decide) (by decide) (by decide) pb cap n at_ hat s w hi
 · exact danger_no 132 _ (by decide) (by decide) (by decide) pb cap n at_ hat s w hi
 · exact danger_no 134 _ (by decide) (by decide) (by decide) pb cap n at_ hat s w hi
 · exact danger_no 135 _ (by decide) (by decide) (by decide) pb cap n at_ hat s w hi
 · exact danger_no 136 _ (by decide) (by decide) (by decide) pb cap n at_ hat s w hi
 · obtain ⟨c, hc', rfl⟩ := hc.nat
   cases hB : hasR (s c) 0 with
   | true => exact (danger_div6 a b c hc' pb cap n at_ hat s hB w hi).mono fun e w' ⟨h1, h2⟩ => ⟨h1.trans (ret_i64 (by unfold dangR; simp [hB])), h2⟩
   | false => exact (danger_div0 a b c hc' pb cap n at_ hat s hB w hi).mono fun e w' ⟨h1, h2⟩ => ⟨h1.trans (ret_i64 (by unfold dangR; simp [hB])), h2⟩
 · obtain ⟨b, hb', rfl⟩ := hb.nat
   exact danger_load a b hb' pb cap n at_ hat s w hi
 · obtain ⟨a, ha', rfl⟩ := ha.nat
   exact danger_store a b ha' pb cap n at_ hat s w hi
 · exact danger_no 141 _ (by decide) (by decide) (by decide) pb cap n at_ hat s w hi
 · exact danger_no 143 _ (by decide) (by decide) (by decide) pb cap n at_ hat s w hi
 · exact danger_no 144 _ (by decide) (by decide) (by decide) pb cap n at_ hat s w hi
theorem flow_gen (T f : Nat) (v : Value) (b1 b2 : Bool) (s1 s2 : St) (pb cap n at_ : Nat) (hat : at_ < n) (s : St) (w : World) (hi : w.cell? ⟨pb, at_ * 1, none⟩ = some (.iface T v))
 (hm : ∀ w, (method 355 T v "surety/machine.flow").run Tryz.prog w = .ok (f, v) w)
 (hcf : ∀ w, (callFunc f #[v, .agg (stC s)]).run Tryz.prog w = .ok (.enter f #[v, .agg (stC s)]) w)
 (hcall : Hid (∀ w1, Calls Tryz.prog f #[v, .agg (stC s)] w1 fun e w' => e = .returned (.tuple #[.agg (plC b1 s1), .agg (plC b2 s2)]) /\ Below w1.heap.size w1 w')) :
 Calls Tryz.prog 97 #[.slice (some ⟨pb, 0, none⟩) n cap, .int .i64 at_, .agg (stC s)] w fun e w' => e = .returned (.tuple #[.agg (plC b1 s1), .agg (plC b2 s2)]) /\ Below w.heap.size w w' := by
 have hk := Kn.nil [] w
 go_enter Tryz.func97, Tryz.ntmps97
 go_wp2_with ((with_reducible apply gL); (first | refine wS hk ?_ | (refine wN hk ?_; clear hk; intro w1 hk)); simp only [pw])
 (refine wp_regK hk (.op 0 (.op 1 (.op 2 (.op 3 (.op 4 (.op 5 (.op 6 (.op 7 (.op 8 (.op 9 .nil)))))))))) (fun i => decide (i < 8)) mixT (by decide) (by kernel_rfl) (by kernel_rfl) ?_; clear hk; intro w1 hk)
 (repeat (refine sS hk ?_; simp only [pw]))
 (refine sCall ?_; intro K hK; go_step; refine (hcall.out _).mono ?_; rintro e w1 ⟨rfl, hb⟩; replace hk := hk.call hb; clear hb; refine hK _ _ (fun _ => hk) ?_; clear hK K)
 (repeat (refine sS hk ?_; simp only [pw]))
 (refine sStore hk ?_; clear hk; intro w1 hk; refine ⟨fun h => absurd h (by decide), ?_⟩; simp only [pw])
 (refine sStore hk ?_; clear hk; intro w1 hk; refine ⟨fun h => absurd h (by decide), ?_⟩; simp only [pw])
 refine tNil ?_
 go_wp2_with ((with_reducible apply gL); (first | refine wS hk ?_ | (refine wN hk ?_; clear hk; intro w1 hk)); simp only [pw])
 exact post_2 rfl (by rfl) (hk.at mm) (rowT_of (by rfl)) (by rfl) (by rfl) (hk.at mm) (rowT_of (by rfl)) (by rfl) rfl ⟨rfl, hk.mod.below⟩
def FlowP (i : I5) (s : St) : Value := .tuple #[.agg (plC (flowOn i s).isSome (stO (flowOn i s))), .agg (plC (flowFar i s).isSome (stO (flowFar i s)))]
theorem flow_any (i : I5) (N : Nat) (hfit : i.fits N = true) (pb cap n at_ : Nat) (hat : at_ < n) (s : St) (hok : s.ok) (h64 : s.in64) (w : World) (hi : w.cell? ⟨pb, at_ * 1, none⟩ = some (iVal i)) : Calls Tryz.prog 97 #[.slice (some ⟨pb, 0, none⟩) n cap, .int .i64 at_, .agg (stC s)] w fun e w' => e = .returned (FlowP i s) /\ Below w.heap.size w w' := by
 have hc := fit_cases hfit
 obtain ⟨op, a, b, c, k⟩ := i
 simp only at hc
 rcases hc with rfl | ⟨rfl, ha⟩ | ⟨rfl, ha, hb⟩ | ⟨rfl, ha, hb, hc⟩ | ⟨rfl, ha, hb, hc⟩ | ⟨rfl, ha, hb, hc⟩ | ⟨rfl, ha, hb, hc⟩ | ⟨rfl, ha, hb⟩ | ⟨rfl, ha, hb⟩ | ⟨rfl, hk0, hk1⟩ | ⟨rfl, ha, hb, hk0, hk1⟩ | ⟨rfl, ha, hb, hk0, hk1⟩
 · exact flow_gen 146 177 (.agg #[]) false false (zeroS) (zeroS) pb cap n at_ hat s w hi (fun _ => by kernel_rfl) (fun _ => by kernel_rfl) (hide fun w1 => halt_flow s w1)
 · obtain ⟨a, ha8, rfl⟩ := ha.nat
   exact flow_gen 130 135 (.agg #[.int .i64 a, .int .i64 k]) true false (updS s a ⟨k, k⟩) (zeroS) pb cap n at_ hat s w hi (fun _ => by kernel_rfl) (fun _ => by kernel_rfl) (hide fun w1 => set_flow a k ha8 s w1)
 · obtain ⟨a, ha8, rfl⟩ := ha.nat
   obtain ⟨b, hb8, rfl⟩ := hb.nat
   exact flow_gen 132 140 (.agg #[.int .i64 a, .int .i64 b]) true false (updS s a (s b)) (zeroS) pb cap n at_ hat s w hi (fun _ => by kernel_rfl) (fun _ => by kernel_rfl) (hide fun w1 => move_flow a b ha8 hb8 s w1)
 · obtain ⟨a, ha8, rfl⟩ := ha.nat
   obtain ⟨b, hb8, rfl⟩ := hb.nat
   obtain ⟨c, hc8, rfl⟩ := hc.nat
   exact flow_gen 134 142 (.agg #[.int .i64 a, .int .i64 b, .int .i64 c]) true false (updS s a (sumR (s b) (s c))) (zeroS) pb cap n at_ hat s w hi (fun _ => by kernel_rfl) (fun _ => by kernel_rfl) (hide fun w1 => add_flow a b c ha8 hb8 hc8 s h64 w1)
 · obtain ⟨a, ha8, rfl⟩ := ha.nat
   obtain ⟨b, hb8, rfl⟩ := hb.nat
   obtain ⟨c, hc8, rfl⟩ := hc.nat
   exact flow_gen 135 153 (.agg #[.int .i64 a, .int .i64 b, .int .i64 c]) true false (updS s a (difR (s b) (s c))) (zeroS) pb cap n at_ hat s w hi (fun _ => by kernel_rfl) (fun _ => by kernel_rfl) (hide fun w1 => sub_flow a b c ha8 hb8 hc8 s h64 w1)
 · obtain ⟨a, ha8, rfl⟩ := ha.nat
   obtain ⟨b, hb8, rfl⟩ := hb.nat
   obtain ⟨c, hc8, rfl⟩ := hc.nat
   exact flow_gen 136 157 (.agg #[.int .i64 a, .int .i64 b, .int .i64 c]) true false (updS s a (prodR (s b) (s c))) (zeroS) pb cap n at_ hat s w hi (fun _ => by kernel_rfl) (fun _ => by kernel_rfl) (hide fun w1 => mul_flow a b c ha8 hb8 hc8 s w1)
 · obtain ⟨a, ha8, rfl⟩ := ha.nat
   obtain ⟨b, hb8, rfl⟩ := hb.nat
   obtain ⟨c, hc8, rfl⟩ := hc.nat
   exact flow_gen 137 161 (.agg #[.int .i64 a, .int .i64 b, .int .i64 c]) true false (updS s a (quoR (s b) (s c))) (zeroS) pb cap n at_ hat s w hi (fun _ => by kernel_rfl) (fun _ => by kernel_rfl) (hide fun w1 => div_flow a b c ha8 hb8 hc8 s hok w1)
 · obtain ⟨a, ha8, rfl⟩ := ha.nat
   obtain ⟨b, hb8, rfl⟩ := hb.nat
   exact flow_gen 138 164 (.agg #[.int .i64 a, .int .i64 b]) true false (updS s a allR) (zeroS) pb cap n at_ hat s w hi (fun _ => by kernel_rfl) (fun _ => by kernel_rfl) (hide fun w1 => load_flow a b ha8 s w1)
 · obtain ⟨a, ha8, rfl⟩ := ha.nat
   obtain ⟨b, hb8, rfl⟩ := hb.nat
   exact flow_gen 139 167 (.agg #[.int .i64 a, .int .i64 b]) true false (s) (zeroS) pb cap n at_ hat s w hi (fun _ => by kernel_rfl) (fun _ => by kernel_rfl) (hide fun w1 => store_flow a b s w1)
 · exact flow_gen 141 169 (.agg #[.int .i64 k]) false true (zeroS) (s) pb cap n at_ hat s w hi (fun _ => by kernel_rfl) (fun _ => by kernel_rfl) (hide fun w1 => jump_flow k s w1)
 · obtain ⟨a, ha8, rfl⟩ := ha.nat
   obtain ⟨b, hb8, rfl⟩ := hb.nat
   by_cases hab : a = b
   · subst hab
     have e1 : FlowP ⟨10, a, a, c, k⟩ s = .tuple #[.agg (plC true s), .agg (plC false zeroS)] := by unfold FlowP flowOn flowFar; simp [stO]
     rw [e1]
     exact flow_gen 143 171 (.agg #[.int .i64 a, .int .i64 a, .int .i64 k]) true false s zeroS pb cap n at_ hat s w hi (fun _ => by kernel_rfl) (fun _ => by kernel_rfl) (hide fun w1 => less_one a k s w1)
   · have hne : ¬ ((a : Int) = (b : Int)) := by omega
     have hb1 := h64 b hb8
     have ha1 := h64 a ha8
     unfold R2.in64 I64 at hb1 ha1
     by_cases hB : (s b).hi = -9223372036854775808
     · have e1 : flowFar ⟨10, a, b, c, k⟩ s = none := by unfold flowFar; simp [hne, hB]
       have e2 : flowOn ⟨10, a, b, c, k⟩ s = narrR s a ⟨max (s a).lo (s b).lo, (s a).hi⟩ b ⟨(s b).lo, min (s b).hi (s a).hi⟩ := by unfold flowOn; simp [hne]
       unfold FlowP
       rw [e1, e2]
       exact flow_gen 143 171 (.agg #[.int .i64 a, .int .i64 b, .int .i64 k]) _ false _ zeroS pb cap n at_ hat s w hi (fun _ => by kernel_rfl) (fun _ => by kernel_rfl) (hide fun w1 => less_noB a b k ha8 hb8 hab s (by simpa using hB) w1)
     · by_cases hA : (s a).lo = 9223372036854775807
       · have e1 : flowFar ⟨10, a, b, c, k⟩ s = none := by unfold flowFar; simp [hne, hA]
         have e2 : flowOn ⟨10, a, b, c, k⟩ s = narrR s a ⟨max (s a).lo (s b).lo, (s a).hi⟩ b ⟨(s b).lo, min (s b).hi (s a).hi⟩ := by unfold flowOn; simp [hne]
         unfold FlowP
         rw [e1, e2]
         exact flow_gen 143 171 (.agg #[.int .i64 a, .int .i64 b, .int .i64 k]) _ false _ zeroS pb cap n at_ hat s w hi (fun _ => by kernel_rfl) (fun _ => by kernel_rfl) (hide fun w1 => less_noA a b k ha8 hb8 hab s (by simpa using hB) (by simpa using hA) w1)
       · have e1 : flowFar ⟨10, a, b, c, k⟩ s = narrR s a ⟨(s a).lo, min (s a).hi ((s b).hi - 1)⟩ b ⟨max (s b).lo ((s a).lo + 1), (s b).hi⟩ := by unfold flowFar; simp [hne, hA, hB]
         have e2 : flowOn ⟨10, a, b, c, k⟩ s = narrR s a ⟨max (s a).lo (s b).lo, (s a).hi⟩ b ⟨(s b).lo, min (s b).hi (s a).hi⟩ := by unfold flowOn; simp [hne]
         unfold FlowP
         rw [e1, e2]
         exact flow_gen 143 171 (.agg #[.int .i64 a, .int .i64 b, .int .i64 k]) _ _ _ _ pb cap n at_ hat s w hi (fun _ => by kernel_rfl) (fun _ => by kernel_rfl) (hide fun w1 => less_both a b k ha8 hb8 hab s (by simpa using hB) (by simpa using hA) (by omega) (by omega) (by omega) (by omega) w1)
 · obtain ⟨a, ha8, rfl⟩ := ha.nat
   obtain ⟨b, hb8, rfl⟩ := hb.nat
   by_cases hab : a = b
   · subst hab
     have e1 : FlowP ⟨11, a, a, c, k⟩ s = .tuple #[.agg (plC false zeroS), .agg (plC true s)] := by unfold FlowP flowOn flowFar; simp [stO]
     rw [e1]
     exact flow_gen 144 174 (.agg #[.int .i64 a, .int .i64 a, .int .i64 k]) false true zeroS s pb cap n at_ hat s w hi (fun _ => by kernel_rfl) (fun _ => by kernel_rfl) (hide fun w1 => same_one a k s w1)
   · have hne : ¬ ((a : Int) = (b : Int)) := by omega
     have e1 : flowFar ⟨11, a, b, c, k⟩ s = narrR s a (comR (s a) (s b)) b (comR (s a) (s b)) := by unfold flowFar; simp [hne]
     cases hO : oneR (s a) (s b) with
     | true =>
       have e2 : flowOn ⟨11, a, b, c, k⟩ s = none := by unfold flowOn; simp [hO]
       unfold FlowP
       rw [e1, e2]
       exact flow_gen 144 174 (.agg #[.int .i64 a, .int .i64 b, .int .i64 k]) false _ zeroS _ pb cap n at_ hat s w hi (fun _ => by kernel_rfl) (fun _ => by kernel_rfl) (hide fun w1 => same_alone a b k ha8 hb8 hab s hO w1)
     | false =>
       have e2 : flowOn ⟨11, a, b, c, k⟩ s = some s := by unfold flowOn; simp [hne, hO]
       unfold FlowP
       rw [e1, e2]
       exact flow_gen 144 174 (.agg #[.int .i64 a, .int .i64 b, .int .i64 k]) true _ s _ pb cap n at_ hat s w hi (fun _ => by kernel_rfl) (fun _ => by kernel_rfl) (hide fun w1 => same_both a b k ha8 hb8 hab s hO w1)
end Go.Proofs.YtamiichlbmllcabGreatDoor
namespace Go.Proofs.YtamiichlbmllcabGreatDoor
open Go.ChangeShapes Go.WideShapes Go.ChangeAt Go.RowKit Go.Deep
theorem cRg : Tryz.prog.cellsOf 27 = 2 := by kernel_rfl
theorem cState : Tryz.prog.cellsOf 29 = 16 := by kernel_rfl
section
variable {H : Type} {enc : TypeId × Value -> H} {W : World} {base : Nat} {spare : Nat -> Bool} {held : Bool}
theorem read_rg {n : Nat} {cs : List Value} {x : DataW H × List MemPlace} (h : DataW.trod enc Tryz.prog W base spare held n 27 cs = some x) : ∃ r : R2, cs = [.int .i64 r.lo, .int .i64 r.hi] /\ r.in64 := by
 obtain ⟨xs, m, _, _, hl, hlen, hf⟩ := DataW.trod_struct Tryz.underlying27 h
 rw [cRg] at hl
 replace hlen : xs.length = 2 := hlen
 match cs, hl, xs, hlen with
 | [v0, v1], _, [y0, y1], _ =>
   have g0 := hf 0 _ rfl
   have g1 := hf 1 _ rfl
   simp [cInt] at g0 g1
   obtain ⟨a0, e0, _, w0⟩ := DataW.trod_int Tryz.underlying3 g0
   obtain ⟨a1, e1, _, w1⟩ := DataW.trod_int Tryz.underlying3 g1
   simp at e0 e1
   subst e0 e1
   exact ⟨⟨a0, a1⟩, rfl, wf64 w0, wf64 w1⟩
theorem pick_two {cs : List Value} {j : Nat} {a b : Value} (h : (cs.drop (j * 2)).take 2 = [a, b]) : cs[j * 2]? = some a /\ cs[j * 2 + 1]? = some b := by
 have h0 := congrArg (fun l => l[0]?) h
 have h1 := congrArg (fun l => l[1]?) h
 simp [List.getElem?_drop] at h0 h1
 exact ⟨h0, h1⟩
theorem read_st {n : Nat} {cs : List Value} {x : DataW H × List MemPlace} (h : DataW.trod enc Tryz.prog W base spare held n 29 cs = some x) : ∃ s : St, cs = (stC s).toList /\ s.in64 := by
 obtain ⟨xs, m, _, _, hl, hlen, hf⟩ := DataW.trod_array Tryz.underlying29 h
 rw [cState] at hl
 have each : ∀ j, j < 8 -> ∃ r : R2, r.in64 /\ cs[j * 2]? = some (.int .i64 r.lo) /\ cs[j * 2 + 1]? = some (.int .i64 r.hi) := by
  intro j hj
  have := hf j hj
  rw [cRg, List.getElem?_eq_getElem (by omega)] at this
  obtain ⟨r, e, h64⟩ := read_rg this
  exact ⟨r, h64, pick_two e⟩
 have : Inhabited R2 := ⟨⟨0, 0⟩⟩
 obtain ⟨q, hq⟩ := choose_lt each
 refine ⟨q, ?_, fun j hj => (hq j hj).1⟩
 have hcs : cs.length = 16 := hl
 apply List.ext_getElem?
 intro j
 by_cases hj : j < 16
 · have h0 := (hq 0 (by omega)).2
   have h1 := (hq 1 (by omega)).2
   have h2 := (hq 2 (by omega)).2
   have h3 := (hq 3 (by omega)).2
   have h4 := (hq 4 (by omega)).2
   have h5 := (hq 5 (by omega)).2
   have h6 := (hq 6 (by omega)).2
   have h7 := (hq 7 (by omega)).2
   match j, hj with
   | 0, _ => exact h0.1
   | 1, _ => exact h0.2
   | 2, _ => exact h1.1
   | 3, _ => exact h1.2
   | 4, _ => exact h2.1
   | 5, _ => exact h2.2
   | 6, _ => exact h3.1
   | 7, _ => exact h3.2
   | 8, _ => exact h4.1
   | 9, _ => exact h4.2
   | 10, _ => exact h5.1
   | 11, _ => exact h5.2
   | 12, _ => exact h6.1
   | 13, _ => exact h6.2
   | 14, _ => exact h7.1
   | 15, _ => exact h7.2
   | j + 16, hj => exact absurd hj (by omega)
 · rw [List.getElem?_eq_none (by omega), List.getElem?_eq_none (by show 16 <= j; omega)]
end
def AppRoom (w w' : World) (v v' : Value) (n m : Nat) : Prop := w.grownBy w' none /\ (∀ k, v'.ownBlock = some k -> w.heap.size <= k) \/ ∃ g cap, v = .slice (some ⟨g, 0, none⟩) n cap /\ v' = .slice (some ⟨g, 0, none⟩) (n + m) cap
theorem run_append_strong {P : Program} (w : World) (base : Nat) (t ty e : TypeId) (i : TypeInfo) (z : Value) (size bytes : Nat) (ht : P.underlying t = some (.slice e)) (hi : P.info? e = some i) (hz : i.zero = some z)
 (hsize : i.size = size) (hby : i.bytes = bytes) (hzs : z.cells.size = size) (hsz : 0 < size)
 (v : Value) (n : Nat) (xs : List Value) (hown : w.ownsRow base e size v n xs)
 (a : Addr) (m c : Nat) (news : List Value) (hl : news.length = m * size) (hnews : ∀ j u, news[j]? = some u -> w.cell? (a.add j) = some u) (h1 : ∀ u ∈ news, u.oneCell' = true)
 (hm : 0 < m) (h63 : n + m <= maxLen) (hbytes : (n + m) * bytes <= 140737488355328) (hbase : base <= w.heap.size) :
 ∃ v' w', (Builtin.append_ #[t, t] ty #[v, .slice (some a) m c]).run P w = .ok v' w' /\ w'.ownsRow base e size v' (n + m) (xs ++ news) /\ w.grownBy w' v.ownBlock /\
  (w.grownBy w' none /\ (∀ k, v'.ownBlock = some k -> w.heap.size <= k) \/ ∃ g cap, v = .slice (some ⟨g, 0, none⟩) n cap /\ v' = .slice (some ⟨g, 0, none⟩) (n + m) cap) := by
 obtain ⟨v', w', hr, h2, h3, _⟩ := run_append_own (P := P) w base t ty e i z size bytes ht hi hz hsize hby hzs hsz v n xs hown a m c news hl hnews h1 h63 hbytes hbase
 refine ⟨v', w', hr, h2, h3, ?_⟩
 subst hsize
 subst hby
 simp only [maxLen] at h63
 rcases hown.2 with ⟨rfl, rfl⟩ | ⟨g, cap, cur, rfl, _, hg, _, _, hcs, _⟩
 · have eq := run_append_nil (P := P) w t ty e i z ht hi hz a m c news hl hnews hm (by omega) (by rw [Nat.zero_add] at hbytes; omega)
   rw [eq] at hr
   cases hr
   exact Or.inl ⟨⟨rfl, rfl, rfl, by simp, fun k hk _ => Below.heap_alloc w.drew _ k hk⟩, fun k hk => by simp [Value.ownBlock] at hk; omega⟩
 · by_cases hroom : n + m <= cap
   · have eq := run_append_room (P := P) w t ty e i ht hi g n cap cur hg a m c news hl hnews h1 hroom (by rw [hl, hcs, <- Nat.add_mul]; exact Nat.mul_le_mul_right _ hroom)
     rw [eq] at hr
     cases hr
     exact Or.inr ⟨g, cap, rfl, rfl⟩
   · have eq := run_append_grow (P := P) w t ty e i z ht hi hz ⟨g, 0, none⟩ n cap xs hown.1 (hown.cells (g := g) rfl) a m c news hl hnews (by omega) (by omega) (growslice_fits (by omega) hbytes)
     rw [eq] at hr
     cases hr
     exact Or.inl ⟨⟨rfl, rfl, rfl, by simp, fun k hk _ => Below.heap_alloc w.drew _ k hk⟩, fun k hk => by simp [Value.ownBlock] at hk; omega⟩
theorem wpList_append_strong {P : Program} (w : World) {ops : Array Oper} {rest : List Oper} {o : Oper} {a : Act} {Q : Exit -> Act -> World -> Prop} (hgd : o.guard = none) (s x : Operand) (t : TypeId)
 (ho : o.op = .call { callee := .builtin .append, args := #[s, x], argTypes := #[t, t] })
 (base : Nat) (e : TypeId) (i : TypeInfo) (z : Value) (size bytes : Nat) (ht : P.underlying t = some (.slice e)) (hi : P.info? e = some i) (hz : i.zero = some z)
 (hsize : i.size = size) (hby : i.bytes = bytes) (hzs : z.cells.size = size) (hsz : 0 < size)
 (v : Value) (n : Nat) (xs : List Value) (hs : a.eval s = v) (hown : w.ownsRow base e size v n xs)
 (ad : Addr) (m c : Nat) (news : List Value) (hx : a.eval x = .slice (some ad) m c) (hl : news.length = m * size) (hnews : ∀ j u, news[j]? = some u -> w.cell? (ad.add j) = some u) (h1 : ∀ u ∈ news, u.oneCell' = true)
 (hm : 0 < m) (h63 : n + m <= maxLen) (hbytes : (n + m) * bytes <= 140737488355328) (hbase : base <= w.heap.size)
 (h : ∀ v' w', w'.ownsRow base e size v' (n + m) (xs ++ news) -> w.grownBy w' v.ownBlock -> AppRoom w w' v v' n m -> wpList P ops Q rest (a.put o.dst v') w') : wpList P ops Q (o :: rest) a w := by
 refine wpList_plain hgd fun K hK => ?_
 obtain ⟨v', w', hr, h2, h3, h4⟩ := run_append_strong (P := P) w base t o.type e i z size bytes ht hi hz hsize hby hzs hsz v n xs hown ad m c news hl hnews h1 hm h63 hbytes hbase
 unfold Oper.wp execOp
 simp only [ho, resolve, invoke, builtin, Sem.run_bind, Sem.run_pure, Result.andThen_ok, List.map_toArray, List.map_cons, List.map_nil, hs, hx, hr]
 exact hK _ _ (h v' w' h2 h3 h4)
theorem keep_same {w w' : World} {base e size n m k : Nat} {v v' u : Value} {X : List Value} (hX : X.length = size)
 (hown : w.ownsRow base e size v n (List.replicate n X).flatten) (hown' : w'.ownsRow base e size v' (n + m) (List.replicate (n + m) X).flatten) (hg : w.grownBy w' v.ownBlock)
 (hS : AppRoom w w' v v' n m)
 (hu : w.ownsRow base e size u k (List.replicate k X).flatten) (hk : u.ownBlock = v.ownBlock -> k <= n + m) : w'.ownsRow base e size u k (List.replicate k X).flatten := by
 rcases hS with ⟨hS, _⟩ | ⟨g, cap, rfl, rfl⟩
 · refine World.ownsRow.kept hu hS ?_
   cases u.ownBlock <;> simp
 · by_cases hb : u.ownBlock = some g
   · have hkn := hk (by rw [hb]; rfl)
     have hown2 := hown
     obtain ⟨_, h2⟩ := hu
     rcases h2 with ⟨rfl, rfl⟩ | ⟨g2, cap2, cur2, rfl, hbase2, hh2, hc1, hc2, hc3, _⟩
     · exact ⟨by simp, Or.inl ⟨rfl, rfl⟩⟩
     · simp [Value.ownBlock] at hb
       subst hb
       rcases hown'.2 with ⟨h0, _⟩ | ⟨g3, cap3, cur3, h3, hbase3, hh3, hd1, hd2, hd3, htake⟩
       · cases h0
       · simp only [Value.slice.injEq, Option.some.injEq, Addr.mk.injEq, and_true] at h3
         obtain ⟨rfl, _, rfl⟩ := h3
         rcases hown2.2 with ⟨h0, _⟩ | ⟨g4, cap4, cur4, h4, _, hh4, _, _, hd4, _⟩
         · cases h0
         · simp only [Value.slice.injEq, Option.some.injEq, Addr.mk.injEq, and_true] at h4
           obtain ⟨rfl, _, rfl⟩ := h4
           rw [hh2] at hh4
           simp at hh4
           have hsz : cur3.size = cap2 * size := by rw [hd3, <- hd4, <- hh4, hc3]
           refine ⟨by simp [hX], Or.inr ⟨g2, cap2, cur3, rfl, hbase2, hh3, hc1, hc2, hsz, ?_⟩⟩
           have : k * size <= (n + m) * size := Nat.mul_le_mul_right _ hkn
           rw [<- Nat.min_eq_left this, <- List.take_take, htake]
           rw [show n + m = k + (n + m - k) by omega, <- List.replicate_append_replicate, List.flatten_append]
           exact List.take_left' (by simp [hX])
   · refine World.ownsRow.kept hu hg (Or.inr ?_)
     simpa [Value.ownBlock] using hb
theorem run_copy_wide {P : Program} (w : World) (dT sT ty elem : TypeId) (i : TypeInfo) (g dLen dCap : Nat) (a : Addr) (sLen sCap : Nat) (cur : Array Value) (t : TypeId) (cs : List Value)
 (hu : P.underlying dT = some (.slice elem)) (hi : P.info? elem = some i)
 (hg : w.heap[g]? = some (.cells cur t (0, 0))) (hn : cs.length = sLen * i.size) (hle : sLen <= dLen)
 (hsrc : ∀ j v, cs[j]? = some v -> w.cell? (a.add j) = some v) (hfit : cs.length <= cur.size) (h1 : ∀ v ∈ cs, v.oneCell' = true) :
 (Builtin.copy_ #[dT, sT] ty #[.slice (some ⟨g, 0, none⟩) dLen dCap, .slice (some a) sLen sCap]).run P w =
  .ok (goInt sLen) (w.setRow g (cs ++ cur.toList.drop cs.length).toArray) := by
 have hf := run_firstCells_some (P := P) w i.size sLen a sLen sCap cs hn hsrc
 have hst := run_storeCells_at P g 0 t cs 0 cur w hg (by simpa using hfit) h1
 have hmin : Nat.min sLen dLen = sLen := Nat.min_eq_left hle
 simp [Builtin.copy_, run_underlying hu, Builtin.lenOf, sizeOf, typeInfo, hi, hmin, hf, hst]
theorem wpList_copy_wide {P : Program} {w : World} {ops : Array Oper} {rest : List Oper} {o : Oper} {a : Act} {Q : Exit -> Act -> World -> Prop} (hgd : o.guard = none) (d s : Operand) (dT sT : TypeId)
 (ho : o.op = .call { callee := .builtin .copy, args := #[d, s], argTypes := #[dT, sT] }) (elem : TypeId) (i : TypeInfo) (hu : P.underlying dT = some (.slice elem)) (hi : P.info? elem = some i)
 (g dLen dCap : Nat) (ad : Addr) (sLen sCap : Nat) (hd : a.eval d = .slice (some ⟨g, 0, none⟩) dLen dCap) (hs : a.eval s = .slice (some ad) sLen sCap)
 (n : Nat) (t : TypeId) (f f' : Nat -> Value) (hg : RowF w g t n f) (cs : List Value) (hn : cs.length = sLen * i.size) (hle : sLen <= dLen)
 (hsrc : ∀ j v, cs[j]? = some v -> w.cell? (ad.add j) = some v) (hfit : cs.length <= n) (h1 : ∀ v ∈ cs, v.oneCell' = true) (hf : ∀ j, j < n -> f' j = if h : j < cs.length then cs[j] else f j)
 (h : ∀ w', RowF w' g t n f' -> w.grownBy w' (some g) -> wpList P ops Q rest (a.put o.dst (goInt sLen)) w') : wpList P ops Q (o :: rest) a w := by
 refine wpList_plain hgd fun K hK => ?_
 obtain ⟨A, hA, hAn, hAf⟩ := hg
 have hrun := run_copy_wide (P := P) w dT sT o.type elem i g dLen dCap ad sLen sCap A t cs hu hi hA hn hle hsrc (by omega) h1
 unfold Oper.wp
 simp [execOp, ho, resolve, invoke, builtin, hd, hs, hrun, Result.andThen]
 refine hK _ _ (h _ ⟨_, setRow_heap w g A _ t _ hA, by simp; omega, fun j hj => ?_⟩ ⟨rfl, rfl, rfl, by simp [World.setRow], fun k _ hk => setRow_other w g k _ (fun e => hk (by rw [e]))⟩)
 rw [hf j hj]
 by_cases hc : j < cs.length
 · rw [dif_pos hc]; simp [List.getElem?_append_left hc, List.getElem?_eq_getElem hc]
 · rw [dif_neg hc]
   have := hAf j hj
   simp only [List.getElem?_toArray]
   rw [List.getElem?_append_right (by omega), List.getElem?_drop, show cs.length + (j - cs.length) = j by omega]
   simpa using this
end Go.Proofs.YtamiichlbmllcabGreatDoor
