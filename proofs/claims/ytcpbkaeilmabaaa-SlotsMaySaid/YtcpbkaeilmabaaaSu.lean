/-
  Slots of a heap page: the law SlotsPlays.
-/
import Derived.Test.YtcpbkaeilmabaaaSs
import Derived.Test.YtcpbkaeilmabaaaSt
import Derived.BigGuardPart
namespace Go.Proofs.Ytcpbkaeilmabaaa
open Go.RowKit

theorem Own.past {w w' : World} {base : Nat} {v : Value} {l : List UInt8} (h : Own w base v l) (he : ∀ g, v.ownBlock = some g → g < w.heap.size → w'.heap[g]? = w.heap[g]?) : Own w' base v l := by
  refine ⟨h.1, ?_⟩
  rcases h.2 with hn | ⟨g, cap, cur, rfl, hb, hgg, rest⟩
  · exact .inl hn
  · refine .inr ⟨g, cap, cur, rfl, hb, ?_, rest⟩
    rw [he g rfl (Array.getElem?_eq_some_iff.1 hgg).1]
    exact hgg
/-- A page of the program's and the reference's, both with these records. -/
structure PB (w : World) (base gp : Nat) (A : Option Addr) (c : Nat) (A2 : Option Addr) (c2 m next : Nat) (rs : List (List UInt8)) : Prop where
  own : Own w base (.slice A 512 c) (layL next rs)
  cap : 512 ≤ c
  fits : Fits rs
  len : rs.length = m
  pg : Blk w gp 89 #[.int .u32 next, .slice A2 m c2]
  row : w.ownsRow base 9 1 (.slice A2 m c2) m (sL rs)
section
variable {w w' : World} {base gp c c2 m next : Nat} {A A2 : Option Addr} {rs : List (List UInt8)}
theorem PB.below (h : PB w base gp A c A2 c2 m next rs) (hb : Below w.heap.size w w') : PB w' base gp A c A2 c2 m next rs :=
  ⟨h.own.below hb, h.cap, h.fits, h.len, h.pg.below hb h.pg.lt, h.row.kept (row := none) ⟨hb.os, hb.tape, hb.output, hb.size, fun i hi _ => hb.block i hi⟩ (by cases h' : (Value.slice A2 m c2).ownBlock <;> simp)⟩
theorem PB.m6 (h : PB w base gp A c A2 c2 m next rs) : m ≤ 126 := by have := h.fits.1; have := h.len; omega
theorem PB.t6 (h : PB w base gp A c A2 c2 m next rs) : tot rs ≤ 1000000 := by have := h.fits.1; omega
theorem PB.reads (h : PB w base gp A c A2 c2 m next rs) : Reads w w.heap.size 1 A2 m (sL rs) := Reads.of_own h.row
theorem PB.count (h : PB w base gp A c A2 c2 m next rs) : Calls Try.prog 52 #[.slice A 512 c] w (RetB w (.int .i64 (m : Nat))) := by
  have := count_any (n := 512) (c := c) h.own.reads.1 (Nat.le_refl _) (by omega) h.cap
  rwa [lay_count h.fits, h.len] at this
theorem PB.room (h : PB w base gp A c A2 c2 m next rs) : Calls Try.prog 53 #[.slice A 512 c] w (RetB w (.int .i64 (508 - (8 + 4 * m + tot rs) : Nat))) := by
  have := Room_any (n := 512) (c := c) h.own.reads.1 (Nat.le_refl _) (by omega) h.cap
  rwa [lay_room h.fits, h.len] at this
theorem PB.rroom (h : PB w base gp A c A2 c2 m next rs) : Calls Try.prog 50 #[.agg #[.int .u32 next, .slice A2 m c2]] w (RetB w (.int .i64 (508 - (8 + 4 * m + tot rs) : Nat))) :=
  rroom_any next h.reads (by have := h.m6; omega) h.t6
end
set_option maxRecDepth 100000 in
set_option maxHeartbeats 4000000 in
theorem lawPlays_any (next other : Nat) (hx : next < 4294967296) (hxo : other < 4294967296) (A : Option Addr) (n c : Nat) (rows : List Rw) (w : World) (hr : RRs w w.heap.size A n rows) (hn : n ≤ maxLen) :
    Calls Try.prog 13 #[.int .u32 next, .int .u32 other, .slice A n c] w (RetB w (.bool true)) := by
  have F := Lib.hid sfixed_any
  unfold maxLen at hn
  by_cases h2 : 200 < n
  · clear hr hx hxo
    go_enter Try.func13, Try.ntmps13
    go_wp2_with (go_at_call 47; refine (F.out _).mono ?_; rintro e w1 ⟨rfl, hb1⟩)
    go_ret
    exact ⟨rfl, hb1⟩
  have hn2 : n ≤ 200 := by omega
  have hnI : (n : Int) ≤ 200 := by omega
  have NW := Lib.hid (snew_any next hx w)
  have HX := Lib.hid (And.intro hx hxo)
  clear hx hxo hn h2
  have HR := Lib.hid hr
  clear hr
  go_enter Try.func13, Try.ntmps13
  go_wp2_with fail
  refine NW.out.mono ?_
  rintro e w1 ⟨A1, c1, rfl, own1, hc1, hb1⟩
  have pb0 : PB (w1.alloc (.cells #[.int .u32 (next : Int), .slice none 0 0] 89)) w.heap.size w1.heap.size A1 c1 none 0 0 next [] :=
    ⟨own1.alloc _, hc1, Fits.nil, rfl, Blk.new _ _ _, World.ownsRow_nil _ _ _ _⟩
  have hb0 := ball hb1 (.cells #[.int .u32 (next : Int), .slice none 0 0] 89)
  have hgp := hb1.size
  go_wp2_with fail
  obtain ⟨gp, hg⟩ : ∃ gp, w1.heap.size = gp := ⟨_, rfl⟩
  rw [hg] at pb0 hgp ⊢
  obtain ⟨Wa, hWa⟩ : ∃ Wa, (w1.alloc (.cells #[.int .u32 (next : Int), .slice none 0 0] 89)) = Wa := ⟨_, rfl⟩
  rw [hWa] at pb0 hb0 ⊢
  have H0 := Lib.hid (And.intro pb0 hb0)
  clear own1 hb1 hg pb0 hb0 NW hWa
  go_loopw [7, 28] (fun u7 u28 wr => ∃ (k m A1 c1 : _) (A2 : Option Addr) (c2 : Nat) (rs : List (List UInt8)), u7 = .slice A1 512 c1 ∧ u28 = .int .i64 (k : Nat) ∧ k ≤ n ∧ PB wr w.heap.size gp A1 c1 A2 c2 m next rs ∧ Below w.heap.size w wr) (fun _ u28 _ => n - (intOf u28).toNat)
  case atStart => exact ⟨0, 0, A1, c1, none, 0, [], rfl, rfl, by omega, H0.out.1, H0.out.2⟩
  case round =>
    clear H0 hc1
    obtain ⟨k, m, A1, c1, A2, c2, rs, rfl, rfl, hk, pb, hb⟩ := hrel
    have q0 : (0 : Int) ≤ (k : Int) := by omega
    by_cases hlt : k < n
    · have q1 : (k : Int) < (n : Int) := by omega
      obtain ⟨ad, ⟨Ar, cr, l⟩, rfl, hab, hk', d1, hcap, hcm, hrr⟩ := (HR.out.below hb).row hlt
      dsimp only at d1 hcap hcm hrr
      obtain ⟨L, hL⟩ : ∃ L, l.length = L := ⟨_, rfl⟩
      rw [hL] at d1 hcap hrr
      unfold maxLen at hcm
      have hLI : (L : Int) ≤ 9223372036854775807 := by omega
      have HB := Lib.hid (And.intro pb hb)
      have HK := Lib.hid hk'
      clear pb hb hk'
      by_cases h6 : 600 < L
      · have h6I : (600 : Int) < (L : Int) := by omega
        clear hcap hcm hrr
        go_wp2_with (go_at_call 47; refine (F.out _).mono ?_; rintro e w1 ⟨rfl, hb1⟩)
        go_ret
        exact ⟨rfl, bto0 HB.out.2 hb1⟩
      have h6I : (L : Int) ≤ 600 := by omega
      clear hLI hcm
      have own0 := Own.empty wr (g := wr.heap.size) rfl
      have hr0 := hrr.alloc HB.out.2.size (.cells #[] 5)
      have hz0 : wr.heap.size ≤ (wr.alloc (.cells #[] 5)).heap.size := by simp
      have HL := Lib.hid hL
      have HR0 := Lib.hid hr0
      clear hL hr0
      by_cases hL0 : L = 0
      · have e1 : ((L : Int) == 0) = true := by simp; omega
        have HL0 := Lib.hid hL0
        clear hL0
        go_wp2_with (at_builtin; refine wpList_appR rfl _ _ rfl wr.heap.size _ [] l Ar L cr w.heap.size rfl own0 rfl HR0.out (by rw [HL.out]; simp; omega) hz0 ?_; intro v1 w1 own1 kp1; rw [List.nil_append] at own1; obtain ⟨A3, c3, rfl, hc3⟩ := own1.form; rw [HL.out] at own1 hc3 ⊢; have hb1 := kp1.below wr.heap.size wr (Nat.le_refl _) (ball (Below.refl _ _) _); have cvb := ((HB.out.1.below hb1).own.reads.1).cnv (c := c1))
        obtain rfl : L = 0 := HL0.out
        have pb1 := HB.out.1.below hb1
        refine (add_arg (n := 512) (c := c1) (A2 := A3) (c2 := c3) (lay_page HB.out.1.fits) pb1.own.reads.1 (Nat.le_refl _) (by omega) HB.out.1.cap).mono ?_
        rintro e w2 ⟨rfl, hb2⟩
        obtain ⟨w3, kcl, kcb, _, _⟩ := (own1.below hb2).clr
        have b3 : Below wr.heap.size wr w3 := kcb _ _ (Nat.le_refl _) (bto0 hb1 hb2)
        have pbw := HB.out.1.below b3
        have bw := bto0 HB.out.2 b3
        have Hcl := Lib.hid kcl
        clear kcl kcb b3 own0 hz0 own1 hc3 hb1 cvb pb1 hb2 kp1 hrr
        go_wp2_with fail
        rw [Hcl.out]
        have CN := Lib.hid fun V (hV : Below w3.heap.size w3 V) => (pbw.below hV).count
        have RM := Lib.hid fun V (hV : Below w3.heap.size w3 V) => (pbw.below hV).room
        have RR := Lib.hid fun V (hV : Below w3.heap.size w3 V) => (pbw.below hV).rroom
        have HS : Hid (∀ V, Below w3.heap.size w3 V → V.cell? ⟨gp, 0, none⟩ = some (.int .u32 (next : Int)) ∧ V.cell? ⟨gp, 1, none⟩ = some (.slice A2 m c2)) := fun V hV => ⟨(pbw.below hV).pg.cell 0, (pbw.below hV).pg.cell 1⟩
        have HP := Lib.hid (And.intro pbw bw)
        have hmI : ((m : Nat) : Int) ≤ 126 := by have := pbw.m6; omega
        obtain ⟨RV, hRV⟩ : ∃ RV, 508 - (8 + 4 * (m) + tot rs) = RV := ⟨_, rfl⟩
        rw [hRV] at RM RR
        clear pbw bw hRV
        go_wp2_with fail
        go_region_held3 (fun w' => w'.cell? ⟨gp, 0, none⟩ = some (.int .u32 (next : Int)) ∧ w'.cell? ⟨gp, 1, none⟩ = some (.slice A2 m c2) ∧ Below w3.heap.size w3 w')
          (first | exact ⟨(HS.out _ (Below.refl _ _)).1, (HS.out _ (Below.refl _ _)).2, Below.refl _ _⟩ | exact ⟨(HS.out _ (Below.drew (Below.refl _ _))).1, (HS.out _ (Below.drew (Below.refl _ _))).2, Below.drew (Below.refl _ _)⟩ | exact ⟨(HS.out _ hq3).1, (HS.out _ hq3).2, hq3⟩ | exact ⟨(HS.out _ hq2).1, (HS.out _ hq2).2, hq2⟩ | exact ⟨(HS.out _ hq1).1, (HS.out _ hq1).2, hq1⟩ | assumption)
          (first
            | (go_at_call 52; (with_reducible refine (CN.out _ (by with_reducible repeat (first | exact Below.refl _ _ | exact hq3 | exact hq2 | exact hq1 | refine Below.drew ?_ | refine bdr ?_ _))).mono ?_); rintro e w21 ⟨rfl, hq1'⟩; have hq1 : Below w3.heap.size w3 w21 := bto0 (by with_reducible repeat (first | exact Below.refl _ _ | exact hq3 | exact hq2 | exact hq1 | refine Below.drew ?_ | refine bdr ?_ _)) hq1')
            | (go_at_call 53; (with_reducible refine (RM.out _ (by with_reducible repeat (first | exact Below.refl _ _ | exact hq3 | exact hq2 | exact hq1 | refine Below.drew ?_ | refine bdr ?_ _))).mono ?_); rintro e w22 ⟨rfl, hq2'⟩; have hq2 : Below w3.heap.size w3 w22 := bto0 (by with_reducible repeat (first | exact Below.refl _ _ | exact hq3 | exact hq2 | exact hq1 | refine Below.drew ?_ | refine bdr ?_ _)) hq2')
            | (go_at_call 50; (with_reducible refine (RR.out _ (by with_reducible repeat (first | exact Below.refl _ _ | exact hq3 | exact hq2 | exact hq1 | refine Below.drew ?_ | refine bdr ?_ _))).mono ?_); rintro e w23 ⟨rfl, hq3'⟩; have hq3 : Below w3.heap.size w3 w23 := bto0 (by with_reducible repeat (first | exact Below.refl _ _ | exact hq3 | exact hq2 | exact hq1 | refine Below.drew ?_ | refine bdr ?_ _)) hq3'))
        go_wp2
        go_roundw
        case rel => exact ⟨k + 1, m, A1, c1, A2, c2, rs, rfl, by go_num, by omega, HP.out.1.below hq3, bto0 HP.out.2 hq3⟩
        case measure => simp [intOf]; omega
      have hL1 : 0 < L := by omega
      have e1 : ((L : Int) == 0) = false := by simp; omega
      clear hL0
      obtain ⟨RV0, hRV0⟩ : ∃ RV, 508 - (8 + 4 * m + tot rs) = RV := ⟨_, rfl⟩
      have RR0 := Lib.hid fun V (hV : Below wr.heap.size wr V) => (HB.out.1.below hV).rroom
      rw [hRV0] at RR0
      have HRV0 := Lib.hid hRV0
      clear hRV0
      by_cases hfull : RV0 < L
      · have hfI : (RV0 : Int) < (L : Int) := by omega
        go_wp2_with (at_builtin; refine wpList_appR rfl _ _ rfl wr.heap.size _ [] l Ar L cr w.heap.size rfl own0 rfl HR0.out (by rw [HL.out]; simp; omega) hz0 ?_; intro v1 w1 own1 kp1; rw [List.nil_append] at own1; obtain ⟨A3, c3, rfl, hc3⟩ := own1.form; rw [HL.out] at own1 hc3 ⊢; have hb1 := kp1.below wr.heap.size wr (Nat.le_refl _) (ball (Below.refl _ _) _); have cvb := ((HB.out.1.below hb1).own.reads.1).cnv (c := c1))
        have pb1 := HB.out.1.below hb1
        refine (add_full (n := 512) (c := c1) (A2 := A3) (c2 := c3) (lay_page HB.out.1.fits) pb1.own.reads.1 (Nat.le_refl _) (by omega) HB.out.1.cap hL1 (by rw [lay_pE HB.out.1.fits, lay_C HB.out.1.fits, HB.out.1.len]; have := HRV0.out; omega)).mono ?_
        rintro e w2 ⟨rfl, hb2⟩
        obtain ⟨w3, kcl, kcb, _, _⟩ := (own1.below hb2).clr
        have b3 : Below wr.heap.size wr w3 := kcb _ _ (Nat.le_refl _) (bto0 hb1 hb2)
        have r0 : w3.cell? ⟨gp, 0, none⟩ = some (.int .u32 (next : Int)) := (HB.out.1.below b3).pg.cell 0
        have r1 : w3.cell? ⟨gp, 1, none⟩ = some (.slice A2 m c2) := (HB.out.1.below b3).pg.cell 1
        have Hcl := Lib.hid kcl
        have B3 := Lib.hid b3
        clear kcl kcb b3 own0 hz0 own1 hc3 hb1 cvb pb1 hb2 kp1 hrr
        go_wp2_with fail
        rw [Hcl.out]
        go_wp2_with fail
        refine (RR0.out _ B3.out).mono ?_
        rintro e w4 ⟨rfl, hb4⟩
        have pbw := HB.out.1.below (bto0 B3.out hb4)
        have bw := bto0 HB.out.2 (bto0 B3.out hb4)
        clear r0 r1 hb4
        have CN := Lib.hid fun V (hV : Below w4.heap.size w4 V) => (pbw.below hV).count
        have RM := Lib.hid fun V (hV : Below w4.heap.size w4 V) => (pbw.below hV).room
        have RR := Lib.hid fun V (hV : Below w4.heap.size w4 V) => (pbw.below hV).rroom
        have HS : Hid (∀ V, Below w4.heap.size w4 V → V.cell? ⟨gp, 0, none⟩ = some (.int .u32 (next : Int)) ∧ V.cell? ⟨gp, 1, none⟩ = some (.slice A2 m c2)) := fun V hV => ⟨(pbw.below hV).pg.cell 0, (pbw.below hV).pg.cell 1⟩
        have HP := Lib.hid (And.intro pbw bw)
        have hmI : ((m : Nat) : Int) ≤ 126 := by have := pbw.m6; omega
        obtain ⟨RV, hRV⟩ : ∃ RV, 508 - (8 + 4 * (m) + tot rs) = RV := ⟨_, rfl⟩
        rw [hRV] at RM RR
        clear pbw bw hRV
        go_wp2_with fail
        go_region_held3 (fun w' => w'.cell? ⟨gp, 0, none⟩ = some (.int .u32 (next : Int)) ∧ w'.cell? ⟨gp, 1, none⟩ = some (.slice A2 m c2) ∧ Below w4.heap.size w4 w')
          (first | exact ⟨(HS.out _ (Below.refl _ _)).1, (HS.out _ (Below.refl _ _)).2, Below.refl _ _⟩ | exact ⟨(HS.out _ (Below.drew (Below.refl _ _))).1, (HS.out _ (Below.drew (Below.refl _ _))).2, Below.drew (Below.refl _ _)⟩ | exact ⟨(HS.out _ hq3).1, (HS.out _ hq3).2, hq3⟩ | exact ⟨(HS.out _ hq2).1, (HS.out _ hq2).2, hq2⟩ | exact ⟨(HS.out _ hq1).1, (HS.out _ hq1).2, hq1⟩ | assumption)
          (first
            | (go_at_call 52; (with_reducible refine (CN.out _ (by with_reducible repeat (first | exact Below.refl _ _ | exact hq3 | exact hq2 | exact hq1 | refine Below.drew ?_ | refine bdr ?_ _))).mono ?_); rintro e w21 ⟨rfl, hq1'⟩; have hq1 : Below w4.heap.size w4 w21 := bto0 (by with_reducible repeat (first | exact Below.refl _ _ | exact hq3 | exact hq2 | exact hq1 | refine Below.drew ?_ | refine bdr ?_ _)) hq1')
            | (go_at_call 53; (with_reducible refine (RM.out _ (by with_reducible repeat (first | exact Below.refl _ _ | exact hq3 | exact hq2 | exact hq1 | refine Below.drew ?_ | refine bdr ?_ _))).mono ?_); rintro e w22 ⟨rfl, hq2'⟩; have hq2 : Below w4.heap.size w4 w22 := bto0 (by with_reducible repeat (first | exact Below.refl _ _ | exact hq3 | exact hq2 | exact hq1 | refine Below.drew ?_ | refine bdr ?_ _)) hq2')
            | (go_at_call 50; (with_reducible refine (RR.out _ (by with_reducible repeat (first | exact Below.refl _ _ | exact hq3 | exact hq2 | exact hq1 | refine Below.drew ?_ | refine bdr ?_ _))).mono ?_); rintro e w23 ⟨rfl, hq3'⟩; have hq3 : Below w4.heap.size w4 w23 := bto0 (by with_reducible repeat (first | exact Below.refl _ _ | exact hq3 | exact hq2 | exact hq1 | refine Below.drew ?_ | refine bdr ?_ _)) hq3'))
        go_wp2
        go_roundw
        case rel => exact ⟨k + 1, m, A1, c1, A2, c2, rs, rfl, by go_num, by omega, HP.out.1.below hq3, bto0 HP.out.2 hq3⟩
        case measure => simp [intOf]; omega
      · have hfI : (L : Int) ≤ (RV0 : Int) := by omega
        go_wp2_with (at_builtin; refine wpList_appR rfl _ _ rfl wr.heap.size _ [] l Ar L cr w.heap.size rfl own0 rfl HR0.out (by rw [HL.out]; simp; omega) hz0 ?_; intro v1 w1 own1 kp1; rw [List.nil_append] at own1; obtain ⟨A3, c3, rfl, hc3⟩ := own1.form; rw [HL.out] at own1 hc3 ⊢; have hb1 := kp1.below wr.heap.size wr (Nat.le_refl _) (ball (Below.refl _ _) _); have cvb := ((HB.out.1.below hb1).own.reads.1).cnv (c := c1))
        have pb1 := HB.out.1.below hb1
        have hmx : l.length + (8 + 4 * (rs.length + 1) + tot rs) ≤ 512 := by have := HRV0.out; have := HB.out.1.len; have := HL.out; omega
        have AD := add_ok (n := 512) (c := c1) (n2 := L) (c2 := c3) (A2 := A3) (lay_page HB.out.1.fits) pb1.own.reads.1 (Nat.le_refl _) (by omega) HB.out.1.cap own1.reads.1 (Nat.le_refl _) hL1 (by rw [lay_pE HB.out.1.fits, lay_C HB.out.1.fits, HB.out.1.len]; have := HRV0.out; omega)
        rw [lay_C HB.out.1.fits, lay_pE HB.out.1.fits, lay_add (rs := rs) next l hmx] at AD
        unfold RetAdd at AD
        rw [HB.out.1.len] at AD
        refine AD.mono ?_
        rintro e w2 ⟨A4, c4, rfl, own4, hc4, hb2⟩
        obtain ⟨w3, kcl, kcb, kch, kcs⟩ := (own1.below hb2).clr
        have hlt1 := World.ownsRow.lt own1
        have b3 : Below wr.heap.size wr w3 := kcb _ _ (Nat.le_refl _) (bto0 hb1 hb2)
        have own43 : Own w3 w1.heap.size (.slice A4 512 c4) (layL next (rs ++ [l])) := own4.past fun g hg hgl => kch g hgl (fun e => by
          have h1 := hlt1 g e
          have h2 := World.ownsRow.lt own4 g hg
          omega)
        have hz13 : w1.heap.size ≤ w3.heap.size := by rw [kcs]; exact hb2.size
        have r0 : w3.cell? ⟨gp, 0, none⟩ = some (.int .u32 (next : Int)) := (HB.out.1.below b3).pg.cell 0
        have r1 : w3.cell? ⟨gp, 1, none⟩ = some (.slice A2 m c2) := (HB.out.1.below b3).pg.cell 1
        have Hcl := Lib.hid kcl
        have B3 := Lib.hid (And.intro b3 (And.intro own43 hmx))
        have hz01 : w.heap.size ≤ w1.heap.size := Nat.le_trans HB.out.2.size hb1.size
        clear kcl kcb kch kcs b3 own0 hz0 own1 hc3 hb1 cvb pb1 hb2 kp1 own4 own43 AD hmx hlt1
        go_wp2_with fail
        rw [Hcl.out]
        go_wp2_with fail
        refine (RR0.out _ B3.out.1).mono ?_
        rintro e w4 ⟨rfl, hb4⟩
        have pb4 := HB.out.1.below (bto0 B3.out.1 hb4)
        have b4 := bto0 HB.out.2 (bto0 B3.out.1 hb4)
        have own44 := (B3.out.2.1.below hb4).less hz01
        have cvr := ((HR.out.below b4).inner ⟨Ar, cr, l⟩ (List.mem_of_getElem? HK.out)).cnv (c := cr)
        dsimp only at cvr
        rw [HL.out] at cvr
        have g0 : w4.cell? ⟨gp, 0, none⟩ = some (.int .u32 (next : Int)) := pb4.pg.cell 0
        have g1 : w4.cell? ⟨gp, 1, none⟩ = some (.slice A2 m c2) := pb4.pg.cell 1
        have hrow := pb4.row
        have P4 := Lib.hid (And.intro pb4 (And.intro b4 own44))
        have hz4 := b4.size
        have hm6 := pb4.m6
        clear r0 r1 hb4 pb4 b4 own44 hz13
        obtain ⟨i0, hi0, hz0', hs0, hy0⟩ := int_info8 Try.infoS
        go_wp2_with (at_builtin; refine wpList_push1 rfl (.tmp 59) (.tmp 62) 28 rfl w.heap.size 9 i0 (.string ⟨#[]⟩) 16 Try.underlying28 hi0 hz0' hs0 hy0 rfl _ m (sL rs) (.string (str l)) rfl hrow _ rfl rfl rfl (by omega) (by omega) hz4 ?_; intro v5 w5 ho5 hg5; obtain ⟨A5, c5, rfl, hc5⟩ := own_form ho5; have D5 := blk_grown hrow P4.out.1.pg (by decide) hg5; have d50 := D5.cell 0; have d51 := D5.cell 1; have f51 := D5.frozen 1)
        have own5 := own_grown hrow P4.out.2.2 (by decide) hg5
        have ownb5 := own_grown hrow P4.out.1.own (by decide) hg5
        have b5 := below_grown hrow (Nat.le_refl _) hz4 hg5 P4.out.2.1
        have D6 := D5.set_ 1 (.slice A5 (m + 1) c5)
        have own6 := own_far own5 D5 (by decide) 1 (.slice A5 (m + 1) c5)
        have ownb6 := own_far ownb5 D5 (by decide) 1 (.slice A5 (m + 1) c5)
        have row6 := own_far ho5 D5 (by decide) 1 (.slice A5 (m + 1) c5)
        have b6 := b5.setCell (show w.heap.size ≤ (⟨gp, 1, none⟩ : Addr).block from hgp) (.slice A5 (m + 1) c5)
        obtain ⟨W6, hW6⟩ : ∃ W6, w5.setCell ⟨gp, 1, none⟩ (.slice A5 (m + 1) c5) = W6 := ⟨_, rfl⟩
        rw [hW6] at D6 own6 ownb6 row6 b6 ⊢
        have pbn : PB W6 w.heap.size gp A4 c4 A5 c5 (m + 1) next (rs ++ [l]) := ⟨own6, hc4, P4.out.1.fits.snoc (fun e => by have := HL.out; rw [e] at this; simp at this; omega) B3.out.2.2, by rw [List.length_append, P4.out.1.len]; rfl, D6, by rw [← sL_snoc]; exact row6⟩
        have ownB : Own W6 w.heap.size (.slice A1 512 c1) (layL next rs) := ownb6
        have HS17 : Hid (∀ w', Below W6.heap.size W6 w' → w'.cell? ⟨gp, 0, none⟩ = some (.int .u32 (next : Int)) ∧ w'.cell? ⟨gp, 1, none⟩ = some (.slice A5 (m + 1) c5) ∧ (convert 37 9 (.slice A1 512 c1)).run Try.prog w' = .ok (.string (str (layL next rs))) w' ∧ (convert 37 9 (.slice A4 512 c4)).run Try.prog w' = .ok (.string (str (layL next (rs ++ [l])))) w' ∧ Below W6.heap.size W6 w') := fun V hV => ⟨(pbn.below hV).pg.cell 0, (pbn.below hV).pg.cell 1, (ownB.below hV).reads.1.cnv, (pbn.below hV).own.reads.1.cnv, hV⟩
        have LY := Lib.hid fun V (hV : Below W6.heap.size W6 V) => lay_any (c := c5) next HX.out.1 (pbn.below hV).reads pbn.fits
        have H6 := Lib.hid (And.intro pbn b6)
        clear hW6 own5 ownb5 b5 D6 own6 ownb6 row6 b6 pbn ownB D5 ho5 hg5 hrow d50 d51 f51 g0 g1 cvr hi0 hz0' hs0 hy0 hz4
        obtain ⟨s1, hs1⟩ : ∃ s1, str (layL next rs) = s1 := ⟨_, rfl⟩
        obtain ⟨s2, hs2⟩ : ∃ s2, str (layL next (rs ++ [l])) = s2 := ⟨_, rfl⟩
        rw [hs1] at HS17 ⊢
        rw [hs2] at HS17 LY
        clear hs1 hs2
        go_region_held3 (fun w' => w'.cell? ⟨gp, 0, none⟩ = some (.int .u32 (next : Int)) ∧ w'.cell? ⟨gp, 1, none⟩ = some (.slice A5 (m + 1) c5) ∧ (convert 37 9 (.slice A1 512 c1)).run Try.prog w' = .ok (.string (s1)) w' ∧ (convert 37 9 (.slice A4 512 c4)).run Try.prog w' = .ok (.string (s2)) w' ∧ Below W6.heap.size W6 w')
          (first | exact HS17.out _ (Below.refl _ _) | exact HS17.out _ (Below.drew (Below.refl _ _)) | exact HS17.out _ hq1 | assumption)
          (first | (go_at_call 51; (with_reducible refine (LY.out _ (by with_reducible repeat (first | exact Below.refl _ _ | refine Below.drew ?_ | refine bdr ?_ _))).mono ?_); rintro e w24 ⟨rfl, hq1'⟩; have hq1 : Below W6.heap.size W6 w24 := bto0 (by with_reducible repeat (first | exact Below.refl _ _ | refine Below.drew ?_ | refine bdr ?_ _)) hq1'))
        have pbw := H6.out.1.below hq1
        have bw := bto0 H6.out.2 hq1
        clear HS17 LY hq1 hq1'
        have CN := Lib.hid fun V (hV : Below w24.heap.size w24 V) => (pbw.below hV).count
        have RM := Lib.hid fun V (hV : Below w24.heap.size w24 V) => (pbw.below hV).room
        have RR := Lib.hid fun V (hV : Below w24.heap.size w24 V) => (pbw.below hV).rroom
        have HS : Hid (∀ V, Below w24.heap.size w24 V → V.cell? ⟨gp, 0, none⟩ = some (.int .u32 (next : Int)) ∧ V.cell? ⟨gp, 1, none⟩ = some (.slice A5 (m + 1) c5)) := fun V hV => ⟨(pbw.below hV).pg.cell 0, (pbw.below hV).pg.cell 1⟩
        have HP := Lib.hid (And.intro pbw bw)
        have hmI : (((m + 1) : Nat) : Int) ≤ 126 := by have := pbw.m6; omega
        obtain ⟨RV, hRV⟩ : ∃ RV, 508 - (8 + 4 * ((m + 1)) + tot (rs ++ [l])) = RV := ⟨_, rfl⟩
        rw [hRV] at RM RR
        clear pbw bw hRV
        go_wp2_with fail
        go_region_held3 (fun w' => w'.cell? ⟨gp, 0, none⟩ = some (.int .u32 (next : Int)) ∧ w'.cell? ⟨gp, 1, none⟩ = some (.slice A5 (m + 1) c5) ∧ Below w24.heap.size w24 w')
          (first | exact ⟨(HS.out _ (Below.refl _ _)).1, (HS.out _ (Below.refl _ _)).2, Below.refl _ _⟩ | exact ⟨(HS.out _ (Below.drew (Below.refl _ _))).1, (HS.out _ (Below.drew (Below.refl _ _))).2, Below.drew (Below.refl _ _)⟩ | exact ⟨(HS.out _ hq3).1, (HS.out _ hq3).2, hq3⟩ | exact ⟨(HS.out _ hq2).1, (HS.out _ hq2).2, hq2⟩ | exact ⟨(HS.out _ hq1).1, (HS.out _ hq1).2, hq1⟩ | assumption)
          (first
            | (go_at_call 52; (with_reducible refine (CN.out _ (by with_reducible repeat (first | exact Below.refl _ _ | exact hq3 | exact hq2 | exact hq1 | refine Below.drew ?_ | refine bdr ?_ _))).mono ?_); rintro e w21 ⟨rfl, hq1'⟩; have hq1 : Below w24.heap.size w24 w21 := bto0 (by with_reducible repeat (first | exact Below.refl _ _ | exact hq3 | exact hq2 | exact hq1 | refine Below.drew ?_ | refine bdr ?_ _)) hq1')
            | (go_at_call 53; (with_reducible refine (RM.out _ (by with_reducible repeat (first | exact Below.refl _ _ | exact hq3 | exact hq2 | exact hq1 | refine Below.drew ?_ | refine bdr ?_ _))).mono ?_); rintro e w22 ⟨rfl, hq2'⟩; have hq2 : Below w24.heap.size w24 w22 := bto0 (by with_reducible repeat (first | exact Below.refl _ _ | exact hq3 | exact hq2 | exact hq1 | refine Below.drew ?_ | refine bdr ?_ _)) hq2')
            | (go_at_call 50; (with_reducible refine (RR.out _ (by with_reducible repeat (first | exact Below.refl _ _ | exact hq3 | exact hq2 | exact hq1 | refine Below.drew ?_ | refine bdr ?_ _))).mono ?_); rintro e w23 ⟨rfl, hq3'⟩; have hq3 : Below w24.heap.size w24 w23 := bto0 (by with_reducible repeat (first | exact Below.refl _ _ | exact hq3 | exact hq2 | exact hq1 | refine Below.drew ?_ | refine bdr ?_ _)) hq3'))
        go_wp2
        go_roundw
        case rel => exact ⟨k + 1, (m + 1), A4, c4, A5, c5, (rs ++ [l]), rfl, by go_num, by omega, HP.out.1.below hq3, bto0 HP.out.2 hq3⟩
        case measure => simp [intOf]; omega
    · obtain rfl : k = n := by omega
      have LK := link_ok (n := 512) (c := c1) other HX.out.2 (lay_page pb.fits) pb.own.reads.1 (Nat.le_refl _) (by omega) pb.cap
      have hlk : linkL (layL next rs) other = layL other rs := by unfold linkL; rw [lay_C pb.fits, lay_link]
      rw [hlk] at LK
      have HL := Lib.hid LK
      have HB := Lib.hid (And.intro pb hb)
      clear LK hlk pb hb
      go_wp2_with fail
      refine HL.out.mono ?_
      rintro e w2 ⟨A5, c5, rfl, own5, hc5, hb2⟩
      have pb2 := HB.out.1.below hb2
      have g0 : w2.cell? ⟨gp, 0, none⟩ = some (.int .u32 (next : Int)) := pb2.pg.cell 0
      have f0 := pb2.pg.frozen 0
      have b2 := bto0 HB.out.2 hb2
      have D6 := pb2.pg.set_ 0 (.int .u32 (other : Int))
      have own6 := own_far own5 pb2.pg (by decide) 0 (.int .u32 (other : Int))
      have row6 := own_far pb2.row pb2.pg (by decide) 0 (.int .u32 (other : Int))
      have b6 := b2.setCell (show w.heap.size ≤ (⟨gp, 0, none⟩ : Addr).block from hgp) (.int .u32 (other : Int))
      have hz2 := HB.out.2.size
      have HQ := Lib.hid (And.intro D6 (And.intro own6 (And.intro row6 b6)))
      clear D6 own6 row6 b6 pb2 b2 own5 hb2 HL
      go_wp2_with fail
      obtain ⟨W6, hW6⟩ : ∃ W6, w2.setCell ⟨gp, 0, none⟩ (.int .u32 (other : Int)) = W6 := ⟨_, rfl⟩
      rw [hW6] at HQ ⊢
      have ownc : Own W6 wr.heap.size (.slice A5 512 c5) (layL other rs) := HQ.out.2.1
      have pbn : PB W6 w.heap.size gp A5 c5 A2 c2 m other rs := ⟨ownc.less hz2, hc5, HB.out.1.fits, HB.out.1.len, HQ.out.1, HQ.out.2.2.1⟩
      have b6 := HQ.out.2.2.2
      obtain ⟨s1, hs1⟩ : ∃ s1, str (layL other rs) = s1 := ⟨_, rfl⟩
      have HS31 : Hid (∀ w', Below W6.heap.size W6 w' → w'.cell? ⟨gp, 0, none⟩ = some (.int .u32 (other : Int)) ∧ w'.cell? ⟨gp, 1, none⟩ = some (.slice A2 m c2) ∧ (convert 37 9 (.slice A5 512 c5)).run Try.prog w' = .ok (.string s1) w' ∧ Below W6.heap.size W6 w') := fun V hV => ⟨(pbn.below hV).pg.cell 0, (pbn.below hV).pg.cell 1, by rw [← hs1]; exact (pbn.below hV).own.reads.1.cnv, hV⟩
      have LY := Lib.hid fun V (hV : Below W6.heap.size W6 V) => lay_any (c := c2) other HX.out.2 (pbn.below hV).reads pbn.fits
      rw [hs1] at LY
      have SM := Lib.hid fun V (hV : Below W6.heap.size W6 V) => psame_any (n := 512) (c := c5) (other : Int) (lay_page pbn.fits) (pbn.below hV).own.reads.1 (Nat.le_refl _) (by omega) hc5 A2 m c2 (by rw [lay_C pbn.fits, pbn.len]) (by rw [lay_recs pbn.fits]; exact (pbn.below hV).reads)
      have H6 := Lib.hid b6
      clear hW6 HQ ownc pbn b6 g0 f0 hs1
      go_region_held3 (fun w' => w'.cell? ⟨gp, 0, none⟩ = some (.int .u32 (other : Int)) ∧ w'.cell? ⟨gp, 1, none⟩ = some (.slice A2 m c2) ∧ (convert 37 9 (.slice A5 512 c5)).run Try.prog w' = .ok (.string s1) w' ∧ Below W6.heap.size W6 w')
        (first | exact HS31.out _ (Below.refl _ _) | exact HS31.out _ (Below.drew (Below.refl _ _)) | exact HS31.out _ hq3 | exact HS31.out _ hq2 | exact HS31.out _ hq1 | assumption)
        (first
          | (go_at_call 47; (with_reducible refine (F.out _).mono ?_); rintro e w24 ⟨rfl, hq1'⟩; have hq1 : Below W6.heap.size W6 w24 := bto0 (by with_reducible repeat (first | exact Below.refl _ _ | exact hq3 | exact hq2 | exact hq1 | refine Below.drew ?_ | refine bdr ?_ _)) hq1')
          | (go_at_call 51; (with_reducible refine (LY.out _ (by with_reducible repeat (first | exact Below.refl _ _ | exact hq3 | exact hq2 | exact hq1 | refine Below.drew ?_ | refine bdr ?_ _))).mono ?_); rintro e w25 ⟨rfl, hq2'⟩; have hq2 : Below W6.heap.size W6 w25 := bto0 (by with_reducible repeat (first | exact Below.refl _ _ | exact hq3 | exact hq2 | exact hq1 | refine Below.drew ?_ | refine bdr ?_ _)) hq2')
          | (go_at_call 55; (with_reducible refine (SM.out _ (by with_reducible repeat (first | exact Below.refl _ _ | exact hq3 | exact hq2 | exact hq1 | refine Below.drew ?_ | refine bdr ?_ _))).mono ?_); rintro e w26 ⟨rfl, hq3'⟩; have hq3 : Below W6.heap.size W6 w26 := bto0 (by with_reducible repeat (first | exact Below.refl _ _ | exact hq3 | exact hq2 | exact hq1 | refine Below.drew ?_ | refine bdr ?_ _)) hq3'))
      go_wp2
      go_ret
      exact ⟨rfl, bto0 H6.out hq3⟩
theorem lawPlays_all (next other : Int) (hx : 0 ≤ next ∧ next ≤ 4294967295) (hxo : 0 ≤ other ∧ other ≤ 4294967295) (A : Option Addr) (n c : Nat) (rows : List Rw) (w : World) (hr : RRs w w.heap.size A n rows) (hn : n ≤ maxLen) :
    Calls Try.prog 13 #[.int .u32 next, .int .u32 other, .slice A n c] w (RetB w (.bool true)) := by
  obtain ⟨x, rfl⟩ : ∃ q : Nat, next = q := ⟨next.toNat, by omega⟩
  obtain ⟨y, rfl⟩ : ∃ q : Nat, other = q := ⟨other.toNat, by omega⟩
  exact lawPlays_any x y (by omega) (by omega) A n c rows w hr hn
end Go.Proofs.Ytcpbkaeilmabaaa
