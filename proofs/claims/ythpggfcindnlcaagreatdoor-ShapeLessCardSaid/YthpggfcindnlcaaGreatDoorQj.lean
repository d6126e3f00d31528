
/-
  ShapeLess: the reference's Less.
-/
import Derived.Test.YthpggfcindnlcaaGreatDoorQa
import Derived.Test.YthpggfcindnlcaaGreatDoorNf
set_option linter.unusedSimpArgs false
set_option linter.unusedVariables false
namespace Go.Proofs.YthpggfcindnlcaaGreatDoor
open Go.RowKit

/-- A block of an order alone. -/
abbrev ordQ (A : Option Addr) (n c : Nat) : Array Value := #[.bool false, .slice none 0 0, .slice none 0 0, .slice none 0 0, .slice none 0 0, .slice none 0 0, .bool false, .slice none 0 0, .slice none 0 0, .slice A n c, .int .i64 0]
theorem lessK_drop {na nb : Nat} {a b : List Vl} {l : List Ky} {k : Nat} {x : Ky} (h : l[k]? = some x) : lessK na nb a b (l.drop k) = if okK na nb x = true then
      (if x.d = true then
        (if lessV (atV b (x.i - 1).toNat) (atV a (x.i - 1).toNat) = true then true else if lessV (atV a (x.i - 1).toNat) (atV b (x.i - 1).toNat) = true then false else lessK na nb a b (l.drop (k + 1)))
      else (if lessV (atV a (x.i - 1).toNat) (atV b (x.i - 1).toNat) = true then true else if lessV (atV b (x.i - 1).toNat) (atV a (x.i - 1).toNat) = true then false else lessK na nb a b (l.drop (k + 1))))
    else lessK na nb a b (l.drop (k + 1)) := by
  rw [show l.drop k = x :: l.drop (k + 1) from by rw [List.drop_eq_getElem?_toList_append, h]; rfl]
  rfl
set_option maxRecDepth 100000 in
set_option maxHeartbeats 8000000 in
theorem rlessK_any {w : World} {Ak Aa Ab : Option Addr} {nk ck na ca nb cb : Nat} {ks : List Ky} {a b : List Vl} (hk : Reads w w.heap.size 3 Ak nk (vKy ks)) (ha : Reads w w.heap.size 3 Aa na (vV a)) (hb : Reads w w.heap.size 3 Ab nb (vV b)) (hnk : nk ≤ 1000) (hna : na ≤ 10000) (hnb : nb ≤ 10000)
    (hks : ∀ x ∈ ks, -9223372036854775808 ≤ x.i ∧ x.i ≤ 9223372036854775807) (sa : ∀ v ∈ a, v.s.size ≤ 1000000) (sb : ∀ v ∈ b, v.s.size ≤ 1000000) :
    Calls Tryz.prog 10 #[.agg (ordQ Ak nk ck), .slice Aa na ca, .slice Ab nb cb] w (RetB w (.bool (lessK na nb a b ks))) := by
  have hl : ks.length = nk := by have := hk.1; rw [vKy_len] at this; omega
  have nI : (nk : Int) ≤ 1000 := by omega
  have naI : (na : Int) ≤ 10000 := by omega
  have nbI : (nb : Int) ≤ 10000 := by omega
  obtain ⟨RS, hRS⟩ : ∃ RS, lessK na nb a b ks = RS := ⟨_, rfl⟩
  rw [hRS]
  have HL := Lib.hid (And.intro hl (And.intro hks (And.intro sa (And.intro sb hRS))))
  have K0 := Blk.new w 36 (ordQ Ak nk ck)
  have b0 := ball (Below.refl w.heap.size w) (.cells (ordQ Ak nk ck) 36)
  obtain ⟨W0, hW0⟩ : ∃ W0, w.alloc (.cells (ordQ Ak nk ck) 36) = W0 := ⟨_, rfl⟩
  have hWL : w.alloc (.cells #[.bool false, .slice none 0 0, .slice none 0 0, .slice none 0 0, .slice none 0 0, .slice none 0 0, .bool false, .slice none 0 0, .slice none 0 0, .slice Ak nk ck, .int .i64 0] 36) = W0 := hW0
  rw [hW0] at K0 b0
  have k9 : W0.cell? ⟨w.heap.size, 9, none⟩ = some (.slice Ak nk ck) := K0.cell 9
  have H0 := Lib.hid (And.intro K0 b0)
  clear K0 b0 hW0 hl hks sa sb hRS
  go_enter Tryz.func10, Tryz.ntmps10
  go_wp2_with fail
  clear hWL
  go_loopw [7, 8, 9, 10, 14] (fun u7 u8 u9 u10 u14 wr => ∃ k : Nat, u14 = .int .i64 k ∧ k ≤ nk ∧ lessK na nb a b (ks.drop k) = RS ∧ Below W0.heap.size W0 wr) (fun _ _ _ _ u14 _ => nk - (intOf u14).toNat)
  case atStart => exact ⟨0, rfl, by omega, HL.out.2.2.2.2, Below.refl _ _⟩
  case round =>
    obtain ⟨wo, rfl⟩ : ∃ wo : World, wo = wr := ⟨_, rfl⟩
    obtain ⟨k, rfl, hkk, hres, hbw⟩ := hrel
    have q0 : (0 : Int) ≤ (k : Int) := by omega
    have bw := bto0 H0.out.2 hbw
    have K1 := H0.out.1.below hbw H0.out.1.lt
    have k9' : wo.cell? ⟨w.heap.size, 9, none⟩ = some (.slice Ak nk ck) := K1.cell 9
    have kl := K1.lt
    clear k9 K1
    by_cases hlt : k < nk
    · have q1 : (k : Int) < (nk : Int) := by omega
      obtain ⟨ad, x, rfl, had, hx, x0, x1, x2⟩ := (hk.below bw).ky hlt
      have had' := had
      have hrg := HL.out.2.1 x (List.mem_of_getElem? hx)
      rw [lessK_drop hx] at hres
      have hz := bw.size
      cases hok : okK na nb x
      · rw [hok, if_neg (by simp)] at hres
        have HQ := Lib.hid (And.intro hres hbw)
        unfold okK at hok
        simp only [decide_eq_false_iff_not] at hok
        clear hres hbw bw hx
        by_cases h1 : x.i < 1
        · go_wp2
          exact ⟨⟨k + 1, by go_num, by omega, HQ.out.1, HQ.out.2⟩, by simp [intOf]; omega⟩
        have b1 : 1 ≤ x.i := by omega
        have b2 := hrg.2
        by_cases h2 : (na : Int) ≤ x.i - 1
        · go_wp2
          exact ⟨⟨k + 1, by go_num, by omega, HQ.out.1, HQ.out.2⟩, by simp [intOf]; omega⟩
        · have h3 : (nb : Int) ≤ x.i - 1 := by omega
          go_wp2
          exact ⟨⟨k + 1, by go_num, by omega, HQ.out.1, HQ.out.2⟩, by simp [intOf]; omega⟩
      · rw [hok, if_pos rfl] at hres
        unfold okK at hok
        simp only [decide_eq_true_eq] at hok
        obtain ⟨xs, xi, xd⟩ := x
        dsimp only at hok hrg hres x0 x1 x2
        obtain ⟨j, rfl⟩ : ∃ j : Nat, xi = (j : Int) + 1 := ⟨(xi - 1).toNat, by omega⟩
        have j0 : (0 : Int) ≤ (j : Int) := by omega
        have ja : (j : Int) < (na : Int) := by omega
        have jb : (j : Int) < (nb : Int) := by omega
        obtain ⟨ad2, u, rfl, hau, hu, u0, u1, u2⟩ := (ha.below bw).val (k := j) (by omega)
        obtain ⟨ad3, v, rfl, hav, hv, v0, v1, v2⟩ := (hb.below bw).val (k := j) (by omega)
        have eu : atV a ((j : Int) + 1 - 1).toNat = u := by rw [show ((j : Int) + 1 - 1).toNat = j by omega]; simp [atV, hu]
        have ev : atV b ((j : Int) + 1 - 1).toNat = v := by rw [show ((j : Int) + 1 - 1).toNat = j by omega]; simp [atV, hv]
        rw [eu, ev] at hres
        have su := HL.out.2.2.1 u (List.mem_of_getElem? hu)
        have sv := HL.out.2.2.2.1 v (List.mem_of_getElem? hv)
        have LU := Lib.hid fun W => rLess_any u v W su sv
        have LV := Lib.hid fun W => rLess_any v u W sv su
        have HQ := Lib.hid (And.intro hbw bw)
        have hres := Lib.hid hres
        have g1 : ad.block < wo.heap.size := by omega
        have g2 : ad2.block < wo.heap.size := by omega
        have g3 : ad3.block < wo.heap.size := by omega
        have a1 : (ad.add (k * 3)).block < wo.heap.size := by rw [block_of_add]; exact g1
        have a2 : (ad2.add (j * 3)).block < wo.heap.size := by rw [block_of_add]; exact g2
        have a3 : (ad3.add (j * 3)).block < wo.heap.size := by rw [block_of_add]; exact g3
        have a4 : (ad.add (k * 3)).block < wo.heap.size + 1 := by omega
        have a5 : (ad2.add (j * 3)).block < wo.heap.size + 1 := by omega
        have a6 : (ad3.add (j * 3)).block < wo.heap.size + 1 := by omega
        have g4 : ad.block < wo.heap.size + 1 := by omega
        have g5 : ad2.block < wo.heap.size + 1 := by omega
        have g6 : ad3.block < wo.heap.size + 1 := by omega
        clear hok hrg hbw bw hx hu hv eu ev su sv
        cases xd
        · have hr := hres.out
          rw [if_neg (by simp)] at hr
          have b4 := ball (ball (Below.refl wo.heap.size wo) (.cells #[.int .u8 u.k, .int .i64 u.i, .string u.s] 26)) (.cells #[.int .u8 v.k, .int .i64 v.i, .string v.s] 26)
          have P4 : Blk ((wo.alloc (.cells #[.int .u8 u.k, .int .i64 u.i, .string u.s] 26)).alloc (.cells #[.int .u8 v.k, .int .i64 v.i, .string v.s] 26)) wo.heap.size 26 #[.int .u8 u.k, .int .i64 u.i, .string u.s] := (Blk.new _ _ _).alloc _
          have Q4 : Blk ((wo.alloc (.cells #[.int .u8 u.k, .int .i64 u.i, .string u.s] 26)).alloc (.cells #[.int .u8 v.k, .int .i64 v.i, .string v.s] 26)) (wo.heap.size + 1) 26 #[.int .u8 v.k, .int .i64 v.i, .string v.s] := Blk.newAt (by simp)
          have H4 := Lib.hid (And.intro b4 (And.intro P4 Q4))
          clear b4 P4 Q4
          go_wp2_with fail
          refine (LU.out _).mono ?_
          rintro e w2 ⟨rfl, hb2⟩
          have b5 := bto0 H4.out.1 hb2
          have P5 := H4.out.2.1.below hb2 H4.out.2.1.lt
          have Q5 := H4.out.2.2.below hb2 H4.out.2.2.lt
          have p0 : w2.cell? ⟨wo.heap.size, 0, none⟩ = some (.int .u8 u.k) := P5.cell 0
          have p1 : w2.cell? ⟨wo.heap.size, 1, none⟩ = some (.int .i64 u.i) := P5.cell 1
          have p2 : w2.cell? ⟨wo.heap.size, 2, none⟩ = some (.string u.s) := P5.cell 2
          have q10 : w2.cell? ⟨wo.heap.size + 1, 0, none⟩ = some (.int .u8 v.k) := Q5.cell 0
          have q11 : w2.cell? ⟨wo.heap.size + 1, 1, none⟩ = some (.int .i64 v.i) := Q5.cell 1
          have q12 : w2.cell? ⟨wo.heap.size + 1, 2, none⟩ = some (.string v.s) := Q5.cell 2
          have pl := P5.lt
          have ql := Q5.lt
          have H5 := Lib.hid b5
          clear hb2 b5 P5 Q5
          cases h6 : lessV u v
          · rw [h6, if_neg (by simp)] at hr
            go_wp2_with fail
            refine (LV.out _).mono ?_
            rintro e w3 ⟨rfl, hb3⟩
            have H6 := Lib.hid (bto0 H5.out hb3)
            clear hb3 p0 p1 p2 q10 q11 q12
            cases h7 : lessV v u
            · rw [h7, if_neg (by simp)] at hr
              go_wp2
              exact ⟨⟨k + 1, by go_num, by omega, hr, bto0 HQ.out.1 H6.out⟩, by simp [intOf]; omega⟩
            · rw [h7, if_pos rfl] at hr
              subst hr
              go_wp2
              go_ret
              exact ⟨rfl, bto0 HQ.out.2 H6.out⟩
          · rw [h6, if_pos rfl] at hr
            subst hr
            go_wp2
            go_ret
            exact ⟨rfl, bto0 HQ.out.2 H5.out⟩
        · have hr := hres.out
          rw [if_pos rfl] at hr
          have b4 := ball (ball (Below.refl wo.heap.size wo) (.cells #[.int .u8 v.k, .int .i64 v.i, .string v.s] 26)) (.cells #[.int .u8 u.k, .int .i64 u.i, .string u.s] 26)
          have P4 : Blk ((wo.alloc (.cells #[.int .u8 v.k, .int .i64 v.i, .string v.s] 26)).alloc (.cells #[.int .u8 u.k, .int .i64 u.i, .string u.s] 26)) wo.heap.size 26 #[.int .u8 v.k, .int .i64 v.i, .string v.s] := (Blk.new _ _ _).alloc _
          have Q4 : Blk ((wo.alloc (.cells #[.int .u8 v.k, .int .i64 v.i, .string v.s] 26)).alloc (.cells #[.int .u8 u.k, .int .i64 u.i, .string u.s] 26)) (wo.heap.size + 1) 26 #[.int .u8 u.k, .int .i64 u.i, .string u.s] := Blk.newAt (by simp)
          have H4 := Lib.hid (And.intro b4 (And.intro P4 Q4))
          clear b4 P4 Q4
          go_wp2_with fail
          refine (LV.out _).mono ?_
          rintro e w2 ⟨rfl, hb2⟩
          have b5 := bto0 H4.out.1 hb2
          have P5 := H4.out.2.1.below hb2 H4.out.2.1.lt
          have Q5 := H4.out.2.2.below hb2 H4.out.2.2.lt
          have p0 : w2.cell? ⟨wo.heap.size, 0, none⟩ = some (.int .u8 v.k) := P5.cell 0
          have p1 : w2.cell? ⟨wo.heap.size, 1, none⟩ = some (.int .i64 v.i) := P5.cell 1
          have p2 : w2.cell? ⟨wo.heap.size, 2, none⟩ = some (.string v.s) := P5.cell 2
          have q10 : w2.cell? ⟨wo.heap.size + 1, 0, none⟩ = some (.int .u8 u.k) := Q5.cell 0
          have q11 : w2.cell? ⟨wo.heap.size + 1, 1, none⟩ = some (.int .i64 u.i) := Q5.cell 1
          have q12 : w2.cell? ⟨wo.heap.size + 1, 2, none⟩ = some (.string u.s) := Q5.cell 2
          have pl := P5.lt
          have ql := Q5.lt
          have H5 := Lib.hid b5
          clear hb2 b5 P5 Q5
          cases h6 : lessV v u
          · rw [h6, if_neg (by simp)] at hr
            go_wp2_with fail
            refine (LU.out _).mono ?_
            rintro e w3 ⟨rfl, hb3⟩
            have H6 := Lib.hid (bto0 H5.out hb3)
            clear hb3 p0 p1 p2 q10 q11 q12
            cases h7 : lessV u v
            · rw [h7, if_neg (by simp)] at hr
              go_wp2
              exact ⟨⟨k + 1, by go_num, by omega, hr, bto0 HQ.out.1 H6.out⟩, by simp [intOf]; omega⟩
            · rw [h7, if_pos rfl] at hr
              subst hr
              go_wp2
              go_ret
              exact ⟨rfl, bto0 HQ.out.2 H6.out⟩
          · rw [h6, if_pos rfl] at hr
            subst hr
            go_wp2
            go_ret
            exact ⟨rfl, bto0 HQ.out.2 H5.out⟩
    · obtain rfl : nk = k := by omega
      have hr : RS = false := by rw [← hres, List.drop_of_length_le (by rw [HL.out.1]; exact Nat.le_refl _)]; rfl
      subst hr
      have HQ := Lib.hid bw
      clear hres hbw bw HL
      go_wp2
      go_ret
      exact ⟨rfl, HQ.out⟩
end Go.Proofs.YthpggfcindnlcaaGreatDoor
