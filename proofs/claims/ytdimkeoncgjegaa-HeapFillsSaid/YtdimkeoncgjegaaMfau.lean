/-
  Several texts in one: Hs Ht.
-/
import Derived.Test.YtdimkeoncgjegaaMfat
import Derived.Test.YtdimkeoncgjegaaMfao
import Derived.Test.YtdimkeoncgjegaaMfar
/-
  Heap: what a fill comes to, plain; what stays but a disk's blocks; the program's follow.
-/
namespace Go.Proofs.Ytdimkeoncgjegaa
section
set_option linter.unusedSimpArgs false
set_option linter.unusedVariables false
open Go.RowKit Go.Maps

/-- The first free page. -/
def freeI : List Bool → Option Nat
  | [] => none
  | false :: _ => some 0
  | true :: t => (freeI t).map (· + 1)
theorem freeI_cases : ∀ T : List Bool, (∃ i, freeI T = some i ∧ T[i]? = some false ∧ ∀ j : Nat, j < i → T[j]? = some true) ∨ (freeI T = none ∧ ∀ j : Nat, j < T.length → T[j]? = some true)
  | [] => .inr ⟨rfl, fun j h => absurd h (by simp)⟩
  | false :: t => .inl ⟨0, rfl, rfl, fun j h => absurd h (by omega)⟩
  | true :: t => by
    rcases freeI_cases t with ⟨i, h1, h2, h3⟩ | ⟨h1, h2⟩
    · refine .inl ⟨i + 1, by simp [freeI, h1], by simpa using h2, fun j hj => ?_⟩
      cases j with
      | zero => rfl
      | succ j => simpa using h3 j (by omega)
    · refine .inr ⟨by simp [freeI, h1], fun j hj => ?_⟩
      cases j with
      | zero => rfl
      | succ j => simpa using h2 j (by simpa using hj)
abbrev Fil := List (List UInt8) × List Bool × Option (List (Nat × Nat))
def roomL (rs : List (List UInt8)) : Nat := 508 - (8 + 4 * rs.length + tot rs)
def fillL : List (List UInt8) → List (List UInt8) → List Bool → Nat → List (List UInt8) → List (Nat × Nat) → Fil
  | [], ps, T, p, rs, rids => (ps.set p (layL 0 rs), T.set p true, some rids)
  | r :: t, ps, T, p, rs, rids =>
    if r.length ≤ roomL rs then fillL t ps T p (rs ++ [r]) (rids ++ [(p, rs.length)])
    else match freeI T with
      | none => (ps.set p (layL 0 rs), T.set p true, none)
      | some i => fillL t (ps.set p (layL i rs)) ((T.set i true).set p true) i [r] (rids ++ [(i, 0)])
theorem fillL_fit {r : List UInt8} {t ps : List (List UInt8)} {T : List Bool} {p : Nat} {rs : List (List UInt8)} {rids : List (Nat × Nat)} (h : r.length ≤ roomL rs) : fillL (r :: t) ps T p rs rids = fillL t ps T p (rs ++ [r]) (rids ++ [(p, rs.length)]) := by rw [fillL, if_pos h]
theorem fillL_none {r : List UInt8} {t ps : List (List UInt8)} {T : List Bool} {p : Nat} {rs : List (List UInt8)} {rids : List (Nat × Nat)} (h : ¬ r.length ≤ roomL rs) (hf : freeI T = none) : fillL (r :: t) ps T p rs rids = (ps.set p (layL 0 rs), T.set p true, none) := by rw [fillL, if_neg h, hf]
theorem fillL_some {r : List UInt8} {t ps : List (List UInt8)} {T : List Bool} {p i : Nat} {rs : List (List UInt8)} {rids : List (Nat × Nat)} (h : ¬ r.length ≤ roomL rs) (hf : freeI T = some i) : fillL (r :: t) ps T p rs rids = fillL t (ps.set p (layL i rs)) ((T.set i true).set p true) i [r] (rids ++ [(i, 0)]) := by rw [fillL, if_neg h, hf]

/-- All stays but the bytes and marks of a disk. -/
structure Lf (w w' : World) (gb gt : Nat) : Prop where
  below : ∀ B, B ≤ gb → B ≤ gt → B ≤ w.heap.size → Below B w w'
  heap : ∀ g, g < w.heap.size → g ≠ gb → g ≠ gt → w'.heap[g]? = w.heap[g]?
  size : w.heap.size ≤ w'.heap.size
section
variable {w w' w'' : World} {g gb gt n : Nat} {ps ps' : List (List UInt8)} {T T' : List Bool}
theorem Lf.refl (w : World) (gb gt : Nat) : Lf w w gb gt := ⟨fun _ _ _ _ => Below.refl _ _, fun _ _ _ _ => rfl, Nat.le_refl _⟩
theorem Lf.trans (h : Lf w w' gb gt) (k : Lf w' w'' gb gt) : Lf w w'' gb gt :=
  ⟨fun B h1 h2 h3 => (h.below B h1 h2 h3).trans (k.below B h1 h2 (Nat.le_trans h3 h.size)), fun g' h1 h2 h3 => (k.heap g' (Nat.lt_of_lt_of_le h1 h.size) h2 h3).trans (h.heap g' h1 h2 h3), Nat.le_trans h.size k.size⟩
theorem Lf.of_left (h : Left w w' g gb gt n ps T) : Lf w w' gb gt := ⟨fun B h1 h2 _ => h.2.1 B h1 h2, fun g' _ h1 h2 => h.2.2.1 g' h1 h2, by rw [h.2.2.2]; exact Nat.le_refl _⟩
theorem Lf.of_below (h : Below w.heap.size w w') : Lf w w' gb gt := ⟨fun B _ _ h3 => h.mono h3, fun g' h1 _ _ => h.block g' h1, h.size⟩
theorem Lf.own (h : Lf w w' gb gt) {base : Nat} {e : TypeId} {size k : Nat} {v : Value} {xs : List Value} (ho : w.ownsRow base e size v k xs) (h1 : gb < base) (h2 : gt < base) : w'.ownsRow base e size v k xs :=
  ownR_stays ho fun g' cs e1 hb => h.heap g' hb.lt (by have := (World.ownsRow.lt ho g' e1).1; omega) (by have := (World.ownsRow.lt ho g' e1).1; omega)
theorem DP.lower (h : DP w g gb gt n ps T) (hb : Below w.heap.size w w') : DP w' g gb gt n ps T := h.below hb h.lts.1 h.lts.2.1 h.lts.2.2
end
/-- What follow leaves. -/
def RetFo (w : World) (g gb gt n : Nat) (ps : List (List UInt8)) (T : List Bool) (p : Nat) (rs : List (List UInt8)) (e : Ending) (w' : World) : Prop :=
  Lf w w' gb gt ∧ ((∃ i, freeI T = some i ∧ i < n ∧ e = .returned (.tuple #[.int .u32 i, .int .i64 0]) ∧ DP w' g gb gt n (ps.set p (layL i rs)) ((T.set i true).set p true)) ∨
   (freeI T = none ∧ e = .returned (.tuple #[.int .u32 0, .int .i64 7]) ∧ DP w' g gb gt n (ps.set p (layL 0 rs)) (T.set p true)))
set_option maxRecDepth 100000 in
set_option maxHeartbeats 2000000 in
theorem follow_any {w : World} {g gb gt n : Nat} {ps : List (List UInt8)} {T : List Bool} {A : Option Addr} {c base : Nat} {rs : List (List UInt8)} (h : DP w g gb gt n ps T) (hn : n ≤ 100000) (p : Nat) (hp : p < n) (ho : Own w base (.slice A 512 c) (layL 0 rs)) (hf : Fits rs) (hc : 512 ≤ c) (h1 : gb < base) (h2 : gt < base) :
    Calls Try.prog 26 #[.pointer (some ⟨g, 0, none⟩), .int .u32 p, .slice A 512 c] w (RetFo w g gb gt n ps T p rs) := by
  have hTl := h.hT
  have hpg := lay_page (next := 0) hf
  rcases freeI_cases T with ⟨i, f1, f2, f3⟩ | ⟨f1, f2⟩
  · have hin : i < n := by rw [← hTl]; exact lt_of_at f2
    have TK := Lib.hid (takeDP h (by omega) i f2 f3)
    have HF := Lib.hid (And.intro f1 (And.intro hin hpg))
    have H0 := Lib.hid ho
    clear h ho f1 f2 f3
    go_enter Try.func26, Try.ntmps26
    go_wp2_with fail
    refine TK.out.mono ?_
    rintro e w1 ⟨rfl, lf1⟩
    have L1 : Lf w w1 gb gt := Lf.of_left lf1
    have own1 : Own w1 base (.slice A 512 c) (layL 0 rs) := L1.own H0.out h1 h2
    have LK := Lib.hid (link_ok i (by omega) HF.out.2.2 own1.reads.1 (Nat.le_refl _) (by omega) hc)
    have H1 := Lib.hid (And.intro lf1.1 L1)
    clear lf1 L1 own1
    go_wp2_with fail
    refine LK.out.mono ?_
    rintro e w2 ⟨A2, c2, rfl, own2, hc2, hb2⟩
    have e2 : linkL (layL 0 rs) i = layL i rs := by unfold linkL; rw [lay_C hf]; exact lay_link 0 i rs
    rw [e2] at own2
    obtain ⟨ga, tl, rfl, hga, hblk, _, _⟩ := own2.open_ (by omega)
    have WR := Lib.hid (writeDP (H1.out.1.lower hb2) p hp (by omega) ⟨ga, 0, none⟩ c2 w2.heap.size (layL i rs) own2.reads.1)
    have H2 := Lib.hid (H1.out.2.trans (Lf.of_below (gb := gb) (gt := gt) hb2))
    clear own2 hblk hb2
    go_wp2_with fail
    refine WR.out.mono ?_
    rintro e w3 ⟨rfl, lf3⟩
    have H3 := Lib.hid (And.intro lf3.1 (Lf.of_left lf3))
    clear lf3
    go_wp2
    go_ret2
    exact ⟨H2.out.trans H3.out.2, .inl ⟨i, HF.out.1, HF.out.2.1, rfl, H3.out.1⟩⟩
  · have TK := Lib.hid (take_fullDP h (by omega) (fun j hj => f2 j (by rw [hTl]; exact hj)))
    obtain ⟨ga, tl, rfl, hga, hblk, _, _⟩ := ho.open_ (by omega)
    have WR := Lib.hid (writeDP h p hp (by omega) ⟨ga, 0, none⟩ c w.heap.size (layL 0 rs) ho.reads.1)
    have HF := Lib.hid f1
    clear h ho f1 f2 hblk
    go_enter Try.func26, Try.ntmps26
    go_wp2_with fail
    refine TK.out.mono ?_
    rintro e w1 ⟨rfl, rfl⟩
    go_wp2_with fail
    refine WR.out.mono ?_
    rintro e w3 ⟨rfl, lf3⟩
    have H3 := Lib.hid (And.intro lf3.1 (Lf.of_left lf3))
    clear lf3
    go_wp2
    go_ret2
    exact ⟨H3.out.2, .inr ⟨HF.out, rfl, H3.out.1⟩⟩
end
end Go.Proofs.Ytdimkeoncgjegaa
/-
  Heap: the program's Fill.
-/
namespace Go.Proofs.Ytdimkeoncgjegaa
section
set_option linter.unusedSimpArgs false
set_option linter.unusedVariables false
open Go.RowKit Go.Maps

structure FP where
  ps : List (List UInt8)
  T : List Bool
  first : Nat
  rids : List (Nat × Nat)
  err : Int
def okR (l : List (List UInt8)) : Bool := l.all fun r => decide (1 ≤ r.length ∧ r.length ≤ 500)
def fillE (i : Nat) : Fil → FP
  | (ps, T, some rids) => ⟨ps, T, i, rids, 0⟩
  | (ps, T, none) => ⟨ps, T, 0, [], 7⟩
def fillP (l ps : List (List UInt8)) (T : List Bool) : FP :=
  if okR l = true then (match freeI T with
    | none => ⟨ps, T, 0, [], 7⟩
    | some i => fillE i (fillL l ps (T.set i true) i [] [])) else ⟨ps, T, 0, [], 1⟩
def ridV (l : List (Nat × Nat)) : List Value := l.flatMap fun x => [.int .u32 x.1, .int .u16 x.2]
theorem ridV_snoc (l : List (Nat × Nat)) (x : Nat × Nat) : ridV (l ++ [x]) = ridV l ++ [.int .u32 x.1, .int .u16 x.2] := by simp [ridV]
theorem ridV_len (l : List (Nat × Nat)) : (ridV l).length = l.length * 2 := flat_len _ 2 l (by simp)
theorem Try.infoRid : (Try.prog.info? 50).map (fun i => (i.zero, i.size, i.bytes)) = some (some (.agg #[.int .u32 0, .int .u16 0]), 2, 8) := by kernel_rfl
/-- What Fill leaves. -/
def RetFi (w : World) (g gb gt n : Nat) (R : FP) (e : Ending) (w' : World) : Prop :=
  ∃ A c, e = .returned (.tuple #[.int .u32 R.first, .slice A R.rids.length c, .int .i64 R.err]) ∧ w'.ownsRow w.heap.size 50 2 (.slice A R.rids.length c) R.rids.length (ridV R.rids) ∧ DP w' g gb gt n R.ps R.T ∧ Lf w w' gb gt
theorem DP.grown {w w' : World} {g gb gt n : Nat} {ps : List (List UInt8)} {T : List Bool} (h : DP w g gb gt n ps T) {base : Nat} {size k : Nat} {v : Value} {xs : List Value} (ho : w.ownsRow base 50 size v k xs) (hg : w.grownBy w' v.ownBlock) : DP w' g gb gt n ps T :=
  h.same_ ((blk_own_ne ho h.dk.d hg (by decide)).trans h.dk.d.symm) ((blk_own_ne ho h.dk.b hg (by decide)).trans h.dk.b.symm) ((blk_own_ne ho h.dk.t hg (by decide)).trans h.dk.t.symm)
theorem Lf.grown {w0 w w' : World} {gb gt base size k : Nat} {e : TypeId} {v : Value} {xs : List Value} (h : Lf w0 w gb gt) (ho : w.ownsRow base e size v k xs) (hb : w0.heap.size ≤ base) (hg : w.grownBy w' v.ownBlock) : Lf w0 w' gb gt := by
  have hne : ∀ g', g' < w0.heap.size → some g' ≠ v.ownBlock := fun g' h1 e => by have := (World.ownsRow.lt ho g' e.symm).1; omega
  exact ⟨fun B h1 h2 h3 => (h.below B h1 h2 h3).grown hg (Nat.le_trans h3 h.size) (fun k e => by have := (World.ownsRow.lt ho k e).1; omega), fun g' h1 h2 h3 => (hg.block g' (Nat.lt_of_lt_of_le h1 h.size) (hne g' h1)).trans (h.heap g' h1 h2 h3), Nat.le_trans h.size hg.size⟩
theorem Own.grownO {w w' : World} {base0 base size k : Nat} {e : TypeId} {u v : Value} {xs : List Value} {l : List UInt8} (h : Own w base0 u l) (ho : w.ownsRow base e size v k xs) (hne : e ≠ 5) (hg : w.grownBy w' v.ownBlock) : Own w' base0 u l :=
  h.stays fun g' cs _ hb => hg.block g' hb.lt (fun e' => own_blk_ne ho hb hne e'.symm)
set_option maxRecDepth 100000 in
set_option maxHeartbeats 8000000 in
theorem fill_any {w : World} {g gb gt n : Nat} {ps : List (List UInt8)} {T : List Bool} {B : Nat} {A : Option Addr} {m c : Nat} {rows : List Rw} (h : DP w g gb gt n ps T) (hn : n ≤ 10000) (hn1 : 1 ≤ n) (hr : RRs w B A m rows) (hB1 : B ≤ gb) (hB2 : B ≤ gt) (hB : B ≤ w.heap.size) (hm : m ≤ 100000) :
    Calls Try.prog 10 #[.pointer (some ⟨g, 0, none⟩), .slice A m c] w (RetFi w g gb gt n (fillP (rows.map Rw.l) ps T)) := by
  obtain ⟨i0, hi0, hz0, hs0, hy0⟩ := int_info8 Try.infoRid
  have hlen := hr.len
  have hlts := h.lts
  have TKs : (∃ i, freeI T = some i ∧ i < n ∧ Hid (Calls Try.prog 23 #[.pointer (some ⟨g, 0, none⟩)] w fun e w' => e = .returned (.tuple #[.int .u32 i, .int .i64 0]) ∧ Left w w' g gb gt n ps (T.set i true))) ∨ (freeI T = none ∧ Hid (Calls Try.prog 23 #[.pointer (some ⟨g, 0, none⟩)] w fun e w' => e = .returned (.tuple #[.int .u32 0, .int .i64 7]) ∧ w = w')) := by
    rcases freeI_cases T with ⟨i, f1, f2, f3⟩ | ⟨f1, f2⟩
    · exact .inl ⟨i, f1, by rw [← h.hT]; exact lt_of_at f2, takeDP h (by omega) i f2 f3⟩
    · exact .inr ⟨f1, take_fullDP h (by omega) (fun j hj => f2 j (by rw [h.hT]; exact hj))⟩
  have H0 := Lib.hid (And.intro h hr)
  have HT := Lib.hid TKs
  have mI : (m : Int) ≤ 100000 := by omega
  clear h hr TKs
  go_enter Try.func10, Try.ntmps10
  go_wp2
  go_loop [19] (fun v => ∃ k : Nat, v = .int .i64 k ∧ k ≤ m ∧ okR ((rows.map Rw.l).take k) = true) (fun v => m - (intOf v).toNat)
  case atStart => exact ⟨0, rfl, by omega, rfl⟩
  case round =>
    obtain ⟨k, rfl, hk, hok⟩ := hrel
    have k0 : (0 : Int) ≤ (k : Int) := by omega
    by_cases hlt : k < m
    · have k1 : (k : Int) < (m : Int) := by omega
      obtain ⟨ad, r, rfl, had, hrow, hcell, hrc, _, _⟩ := H0.out.2.row hlt
      have hrl : (rows.map Rw.l)[k]? = some r.l := by rw [List.getElem?_map, hrow]; rfl
      have HOK := Lib.hid hok
      clear hok
      by_cases hb1 : r.l.length < 1
      · have e1 : decide ((r.l.length : Int) < 1) = true := by simp; omega
        have hbad : okR (rows.map Rw.l) = false := by
          unfold okR
          rw [List.all_eq_false]
          exact ⟨r.l, List.mem_of_getElem? hrl, by simp; omega⟩
        have HBD := Lib.hid hbad
        clear hbad hb1
        go_wp2
        go_ret3
        unfold fillP
        rw [HBD.out]
        exact ⟨none, 0, rfl, ⟨rfl, .inl ⟨rfl, rfl⟩⟩, H0.out.1, Lf.refl _ _ _⟩
      have e1 : decide ((r.l.length : Int) < 1) = false := by simp; omega
      by_cases hb2 : 500 < r.l.length
      · have e2 : decide ((500 : Int) < (r.l.length : Int)) = true := by simp; omega
        have hbad : okR (rows.map Rw.l) = false := by
          unfold okR
          rw [List.all_eq_false]
          exact ⟨r.l, List.mem_of_getElem? hrl, by simp; omega⟩
        have HBD := Lib.hid hbad
        clear hbad hb1 hb2
        go_wp2
        go_ret3
        unfold fillP
        rw [HBD.out]
        exact ⟨none, 0, rfl, ⟨rfl, .inl ⟨rfl, rfl⟩⟩, H0.out.1, Lf.refl _ _ _⟩
      have e2 : decide ((500 : Int) < (r.l.length : Int)) = false := by simp; omega
      have HL := Lib.hid (And.intro (by omega : 1 ≤ r.l.length) (by omega : r.l.length ≤ 500))
      clear hb1 hb2
      go_wp2
      go_round
      case rel =>
        refine ⟨k + 1, by go_num, by omega, ?_⟩
        rw [List.take_add_one, hrl]
        unfold okR
        rw [List.all_append]
        have := HOK.out
        unfold okR at this
        rw [this]
        simp [HL.out.1, HL.out.2]
      case measure => simp [intOf]; omega
    · obtain rfl : m = k := by omega
      rw [List.take_of_length_le (by rw [List.length_map]; omega)] at hok
      have HOK := Lib.hid hok
      clear hok hlt
      rcases HT.out with ⟨i, hf, hin, TK⟩ | ⟨hf, TK⟩
      rotate_left
      · have HF := Lib.hid hf
        clear hf
        go_wp2_with fail
        refine TK.out.mono ?_
        rintro e w1 ⟨rfl, rfl⟩
        go_wp2
        go_ret3
        unfold fillP
        rw [HOK.out, HF.out]
        exact ⟨none, 0, rfl, ⟨rfl, .inl ⟨rfl, rfl⟩⟩, H0.out.1, Lf.refl _ _ _⟩
      have hRes : fillP (rows.map Rw.l) ps T = fillE i (fillL (rows.map Rw.l) ps (T.set i true) i [] []) := by unfold fillP; rw [HOK.out, hf]; rfl
      have HRes := Lib.hid hRes
      obtain ⟨R, hR⟩ : ∃ R, fillL (rows.map Rw.l) ps (T.set i true) i [] [] = R := ⟨_, rfl⟩
      have HR := Lib.hid hR
      have NW := Lib.hid fun W => snew_any 0 (by omega) W
      clear hf hRes hR
      go_wp2_with fail
      refine TK.out.mono ?_
      rintro e w1 ⟨rfl, lf1⟩
      have H1 := Lib.hid (And.intro lf1.1 (Lf.of_left lf1))
      clear lf1
      go_wp2_with fail
      refine (NW.out _).mono ?_
      rintro e w2 ⟨A2, c2, rfl, own2, hc2, hb2⟩
      have H2 := Lib.hid (And.intro (H1.out.1.lower hb2) (And.intro (own2.less H1.out.2.size) (H1.out.2.trans (Lf.of_below (gb := gb) (gt := gt) hb2))))
      clear own2 hb2
      go_wp2
      go_loopw [11, 12, 13, 44] (fun u11 u12 u13 u44 wr => ∃ (k p : Nat) (rs : List (List UInt8)) (rids : List (Nat × Nat)) (ps' : List (List UInt8)) (T' : List Bool) (A12 : Option Addr) (c12 : Nat), u11 = .int .u32 p ∧ u12 = .slice A12 512 c12 ∧ u44 = .int .i64 k ∧ k ≤ m ∧ p < n ∧ 512 ≤ c12 ∧ rids.length = k ∧ Fits rs ∧ DP wr g gb gt n ps' T' ∧ Own wr w.heap.size (.slice A12 512 c12) (layL 0 rs) ∧ wr.ownsRow w.heap.size 50 2 u13 rids.length (ridV rids) ∧ Lf w wr gb gt ∧ fillL ((rows.map Rw.l).drop k) ps' T' p rs rids = R) (fun _ _ _ u44 _ => m - (intOf u44).toNat)
      case atStart => exact ⟨0, i, [], [], ps, T.set i true, A2, c2, rfl, rfl, rfl, by omega, hin, hc2, rfl, Fits.nil, H2.out.1, H2.out.2.1, ⟨rfl, .inl ⟨rfl, rfl⟩⟩, H2.out.2.2, by rw [List.drop_zero]; exact HR.out⟩
      case round =>
        obtain ⟨wo, rfl⟩ : ∃ wo : World, wo = wr := ⟨_, rfl⟩
        obtain ⟨k, p, rs, rids, ps', T', A12, c12, rfl, rfl, rfl, hk, hp, hc12, hrl, hfit, hdp, hown, hrow, hlf, hres⟩ := hrel
        have k0 : (0 : Int) ≤ (k : Int) := by omega
        have hm6 : rs.length ≤ 126 := by have := hfit.1; omega
        have hlow : w.heap.size ≤ wo.heap.size := hlf.size
        by_cases hlt : k < m
        · have k1 : (k : Int) < (m : Int) := by omega
          obtain ⟨ad, r, rfl, had, hrw, hcell, hrc, hrm, hrr⟩ := (RRs.below H0.out.2 (hlf.below B hB1 hB2 hB)).row hlt
          have hrl2 : (rows.map Rw.l)[k]? = some r.l := by rw [List.getElem?_map, hrw]; rfl
          have hdrop : (rows.map Rw.l).drop k = r.l :: (rows.map Rw.l).drop (k + 1) := by rw [List.drop_eq_getElem?_toList_append, hrl2]; rfl
          have hok : 1 ≤ r.l.length ∧ r.l.length ≤ 500 := by
            have h1 := List.all_eq_true.1 HOK.out r.l (List.mem_of_getElem? hrl2)
            simpa using h1
          have hpg := lay_page (next := 0) hfit
          have RM : Hid (Calls Try.prog 25 #[.slice A12 512 c12] wo (RetB wo (.int .i64 (roomL rs : Nat)))) := by
            have h1 := Room_any (c := c12) hown.reads.1 (Nat.le_refl _) (by omega) hc12
            rw [lay_room hfit] at h1
            exact h1
          obtain ⟨RO, hRO⟩ : ∃ RO, roomL rs = RO := ⟨_, rfl⟩
          rw [hRO] at RM
          have hROe : RO = 508 - (8 + 4 * rs.length + tot rs) := by rw [← hRO]; rfl
          have roI : (RO : Int) ≤ 508 := by omega
          have HQ := Lib.hid (And.intro hdp (And.intro hown (And.intro hrow (And.intro hlf (And.intro hres (And.intro hdrop (And.intro hrr (And.intro hfit hpg))))))))
          clear hdp hown hrow hlf hres hdrop hrr hrl2 hpg hfit
          by_cases hroom : r.l.length ≤ RO
          · have e5 : decide ((RO : Int) < (r.l.length : Int)) = false := by simp; omega
            have hstep : fillL ((rows.map Rw.l).drop (k + 1)) ps' T' p (rs ++ [r.l]) (rids ++ [(p, rs.length)]) = R := by rw [← HQ.out.2.2.2.2.1, HQ.out.2.2.2.2.2.1, fillL_fit (by rw [hRO]; exact hroom)]
            have HST := Lib.hid hstep
            clear hstep hRO
            go_wp2_with fail
            refine RM.out.mono ?_
            rintro e w3 ⟨rfl, hb3⟩
            have dp3 := HQ.out.1.lower hb3
            have own3 := HQ.out.2.1.below hb3
            have row3 := own_kept_below HQ.out.2.2.1 hb3
            have lf3 := HQ.out.2.2.2.1.trans (Lf.of_below (gb := gb) (gt := gt) hb3)
            have rr3 := HQ.out.2.2.2.2.2.2.1.below (hb3.mono (Nat.le_trans hB hlow))
            have hz3 := hb3.size
            have H3 := Lib.hid (And.intro dp3 (And.intro row3 lf3))
            have hfit := HQ.out.2.2.2.2.2.2.2.1
            have hpg := HQ.out.2.2.2.2.2.2.2.2
            clear hb3 dp3 row3 lf3 RM
            have AD : Hid (Calls Try.prog 27 #[.slice A12 512 c12, .slice r.A r.l.length r.c] w3 (RetAdd w3 rs.length (layL 0 (rs ++ [r.l])))) := by
              have h1 := add_ok (c := c12) (c2 := r.c) hpg own3.reads.1 (Nat.le_refl _) (by omega) (by assumption) rr3 (by omega) hok.1 (by rw [lay_pE hfit, lay_C hfit]; have := hfit.1; omega)
              rw [lay_pE hfit, lay_C hfit] at h1
              have h2 := lay_add 0 (rs := rs) r.l (by have := hfit.1; omega)
              rw [h2] at h1
              exact h1
            have hfit2 : Fits (rs ++ [r.l]) := by
              have h3 := hfit.snoc (r := r.l) (fun e => by rw [e] at hok; simp at hok) (by have := hfit.1; omega)
              exact h3
            have HFT := Lib.hid hfit2
            clear own3 rr3 hpg hfit hfit2
            go_wp2_with fail
            refine AD.out.mono ?_
            rintro e w4 ⟨A4, c4, rfl, own4, hc4, hb4⟩
            have dp4 := H3.out.1.lower hb4
            have row4 := own_kept_below H3.out.2.1 hb4
            have lf4 := H3.out.2.2.trans (Lf.of_below (gb := gb) (gt := gt) hb4)
            have hz4 := hb4.size
            have row4a := World.ownsRow.alloc row4 (.cells #[.int .u32 (p : Int), .int .u16 (rs.length : Int)] 50)
            have H4 := Lib.hid (And.intro dp4 (And.intro (own4.less (by omega : w.heap.size ≤ w3.heap.size)) (And.intro row4 (And.intro lf4 row4a))))
            have hc512 : w.heap.size ≤ w4.heap.size := by omega
            clear dp4 own4 row4 lf4 hb4 row4a AD
            go_wp2_with (at_builtin; refine wpList_pushR (news := [.int .u32 (p : Int), .int .u16 (rs.length : Int)]) rfl (.tmp 71) (.tmp 76) 37 rfl w.heap.size 50 i0 _ 2 8 Try.underlying37 hi0 hz0 hs0 hy0 rfl (by decide) u13 rids.length _ (by first | rfl | (simp [Act.eval, Act.put]; done)) H4.out.2.2.1 rfl _ (by first | rfl | (simp [Act.eval, Act.put]; done)) (by first | rfl | simp) rfl (by intro u hu; simp only [List.mem_cons, List.not_mem_nil, or_false] at hu; rcases hu with rfl | rfl <;> rfl) (by omega) (by omega) hc512 ?_; intro v8 w8 own8 kp8 ob8)
            have hba := ball (Below.refl w4.heap.size w4) (.cells #[.int .u32 (p : Int), .int .u16 (rs.length : Int)] 50)
            refine ⟨⟨k + 1, p, (rs ++ [r.l]), rids ++ [(p, rs.length)], ps', T', A4, c4, rfl, rfl, by go_num, by omega, hp, hc4, by simp [hrl], HFT.out, (H4.out.1.lower hba).grown H4.out.2.2.2.2 kp8, (H4.out.2.1.below hba).grownO H4.out.2.2.2.2 (by decide) kp8, ?_, (H4.out.2.2.2.1.trans (Lf.of_below (gb := gb) (gt := gt) hba)).grown H4.out.2.2.2.2 (Nat.le_refl _) kp8, HST.out⟩, by simp [intOf]; omega⟩
            rw [ridV_snoc, List.length_append]; exact own8
          · have e5 : decide ((RO : Int) < (r.l.length : Int)) = true := by simp; omega
            go_wp2_with fail
            refine RM.out.mono ?_
            rintro e w3' ⟨rfl, hb3⟩
            have dp3 := HQ.out.1.lower hb3
            have own3' := HQ.out.2.1.below hb3
            have FO := Lib.hid (follow_any dp3 (by omega) p hp own3' HQ.out.2.2.2.2.2.2.2.1 hc12 hlts.2.1 hlts.2.2)
            have row3 := own_kept_below HQ.out.2.2.1 hb3
            have lf3 := HQ.out.2.2.2.1.trans (Lf.of_below (gb := gb) (gt := gt) hb3)
            have H3' := Lib.hid (And.intro row3 lf3)
            clear hb3 dp3 own3' row3 lf3 RM
            go_wp2_with fail
            refine FO.out.mono ?_
            rintro e w5 ⟨lf5, ⟨j, hfj, hjn, rfl, dp5⟩ | ⟨hfj, rfl, dp5⟩⟩
            · have hstep : fillL ((rows.map Rw.l).drop (k + 1)) (ps'.set p (layL j rs)) ((T'.set j true).set p true) j [r.l] (rids ++ [(j, 0)]) = R := by rw [← HQ.out.2.2.2.2.1, HQ.out.2.2.2.2.2.1, fillL_some (by rw [hRO]; exact hroom) hfj]
              have HST := Lib.hid hstep
              have H5 := Lib.hid (And.intro dp5 (And.intro (lf5.own H3'.out.1 hlts.2.1 hlts.2.2) (H3'.out.2.trans lf5)))
              clear hstep hRO lf5 dp5 hfj FO
              go_wp2_with fail
              refine (NW.out _).mono ?_
              rintro e w3 ⟨A6, c6, rfl, own3, hc6, hb6⟩
              have dp3 := H5.out.1.lower hb6
              have row3 := own_kept_below H5.out.2.1 hb6
              have lf3 := H5.out.2.2.trans (Lf.of_below (gb := gb) (gt := gt) hb6)
              have hz6 := lf3.size
              have rr3 := (RRs.below H0.out.2 (lf3.below B hB1 hB2 hB)).inner r (List.mem_of_getElem? hrw)
              have H3 := Lib.hid (And.intro dp3 (And.intro row3 lf3))
              have hfit := Fits.nil
              have hpg := lay_page (next := 0) hfit
              clear hb6 dp3 row3 lf3
              have AD : Hid (Calls Try.prog 27 #[.slice A6 512 c6, .slice r.A r.l.length r.c] w3 (RetAdd w3 ([] : List (List UInt8)).length (layL 0 [r.l]))) := by
                have h1 := add_ok (c := c6) (c2 := r.c) hpg own3.reads.1 (Nat.le_refl _) (by omega) (by assumption) rr3 (by omega) hok.1 (by rw [lay_pE hfit, lay_C hfit]; simp [tot, bk]; omega)
                rw [lay_pE hfit, lay_C hfit] at h1
                have h2 := lay_add 0 (rs := ([] : List (List UInt8))) r.l (by simp [tot, bk]; omega)
                rw [h2] at h1
                exact h1
              have hfit2 : Fits [r.l] := by
                have h3 := hfit.snoc (r := r.l) (fun e => by rw [e] at hok; simp at hok) (by simp [tot, bk]; omega)
                exact h3
              have HFT := Lib.hid hfit2
              clear own3 rr3 hpg hfit hfit2
              go_wp2_with fail
              refine AD.out.mono ?_
              rintro e w4 ⟨A4, c4, rfl, own4, hc4, hb4⟩
              have dp4 := H3.out.1.lower hb4
              have row4 := own_kept_below H3.out.2.1 hb4
              have lf4 := H3.out.2.2.trans (Lf.of_below (gb := gb) (gt := gt) hb4)
              have hz4 := hb4.size
              have row4a := World.ownsRow.alloc row4 (.cells #[.int .u32 (j : Int), .int .u16 (0 : Int)] 50)
              have H4 := Lib.hid (And.intro dp4 (And.intro (own4.less (by omega : w.heap.size ≤ w3.heap.size)) (And.intro row4 (And.intro lf4 row4a))))
              have hc512 : w.heap.size ≤ w4.heap.size := by omega
              clear dp4 own4 row4 lf4 hb4 row4a AD
              go_wp2_with (at_builtin; refine wpList_pushR (news := [.int .u32 (j : Int), .int .u16 (0 : Int)]) rfl (.tmp 71) (.tmp 76) 37 rfl w.heap.size 50 i0 _ 2 8 Try.underlying37 hi0 hz0 hs0 hy0 rfl (by decide) u13 rids.length _ (by first | rfl | (simp [Act.eval, Act.put]; done)) H4.out.2.2.1 rfl _ (by first | rfl | (simp [Act.eval, Act.put]; done)) (by first | rfl | simp) rfl (by intro u hu; simp only [List.mem_cons, List.not_mem_nil, or_false] at hu; rcases hu with rfl | rfl <;> rfl) (by omega) (by omega) hc512 ?_; intro v8 w8 own8 kp8 ob8)
              have hba := ball (Below.refl w4.heap.size w4) (.cells #[.int .u32 (j : Int), .int .u16 (0 : Int)] 50)
              refine ⟨⟨k + 1, j, [r.l], rids ++ [(j, 0)], (ps'.set p (layL j rs)), ((T'.set j true).set p true), A4, c4, rfl, rfl, by go_num, by omega, hjn, hc4, by simp [hrl], HFT.out, (H4.out.1.lower hba).grown H4.out.2.2.2.2 kp8, (H4.out.2.1.below hba).grownO H4.out.2.2.2.2 (by decide) kp8, ?_, (H4.out.2.2.2.1.trans (Lf.of_below (gb := gb) (gt := gt) hba)).grown H4.out.2.2.2.2 (Nat.le_refl _) kp8, HST.out⟩, by simp [intOf]; omega⟩
              rw [ridV_snoc, List.length_append]; exact own8
            · have hRe : R = (ps'.set p (layL 0 rs), T'.set p true, none) := by rw [← HQ.out.2.2.2.2.1, HQ.out.2.2.2.2.2.1, fillL_none (by rw [hRO]; exact hroom) hfj]
              have H5 := Lib.hid (And.intro dp5 (And.intro (H3'.out.2.trans lf5) hRe))
              clear hRO lf5 dp5 hfj FO hRe
              go_wp2
              go_ret3
              rw [HRes.out, HR.out, H5.out.2.2]
              exact ⟨none, 0, rfl, ⟨rfl, .inl ⟨rfl, rfl⟩⟩, H5.out.1, H5.out.2.1⟩
        · obtain rfl : m = k := by omega
          have hRe : R = (ps'.set p (layL 0 rs), T'.set p true, some rids) := by
            rw [← hres, List.drop_eq_nil_of_le (by rw [List.length_map]; omega)]
            rfl
          obtain ⟨ga, tl, rfl, hga, hblk, _, _⟩ := hown.open_ (by omega)
          have WR := Lib.hid (writeDP hdp p hp (by omega) ⟨ga, 0, none⟩ c12 wo.heap.size (layL 0 rs) hown.reads.1)
          obtain ⟨A13, c13, rfl, hc13⟩ := own_form hrow
          have HQ := Lib.hid (And.intro hrow (And.intro hlf hRe))
          clear hdp hown hrow hlf hres hRe hblk hfit hrl
          go_wp2_with fail
          refine WR.out.mono ?_
          rintro e w3 ⟨rfl, lf3⟩
          have H3 := Lib.hid (And.intro lf3.1 (Lf.of_left lf3))
          clear lf3
          go_wp2
          go_ret3
          rw [HRes.out, HR.out, HQ.out.2.2]
          exact ⟨A13, c13, rfl, H3.out.2.own HQ.out.1 hlts.2.1 hlts.2.2, H3.out.1, HQ.out.2.1.trans H3.out.2⟩
end
end Go.Proofs.Ytdimkeoncgjegaa
