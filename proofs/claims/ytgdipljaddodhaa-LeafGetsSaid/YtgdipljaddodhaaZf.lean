/-
  Pages of a tree: contracts of open, of a page that has not the head; of GetLeaf, of any page.
-/
import Derived.Test.YtgdipljaddodhaaYv
set_option linter.unusedSimpArgs false
set_option linter.unusedVariables false
namespace Go.Proofs.Ytgdipljaddodhaa
open Go.RowKit

def RetGlo (w : World) (N : Nat) (l : List En) (e : Ending) (w' : World) : Prop := ∃ A c, e = .returned (.tuple #[.int .u32 (N : Int), .slice A l.length c, .int .i64 0]) ∧ l.length ≤ c ∧ w'.ownsRow w.heap.size 27 3 (.slice A l.length c) l.length (vE l) ∧ Below w.heap.size w w'
def RetGla (w : World) (N : Nat) (l : List En) : Bool → Ending → World → Prop
  | true, e, w' => RetGlo w N l e w'
  | false, e, w' => RetB w (.tuple #[.int .u32 0, .slice none 0 0, .int .i64 2]) e w'
theorem own_below {w w' : World} {base : Nat} {t : TypeId} {sz n : Nat} {v : Value} {xs : List Value} (h : w.ownsRow base t sz v n xs) (hb : Below w.heap.size w w') : w'.ownsRow base t sz v n xs :=
  World.ownsRow.kept h (row := none) ⟨hb.os, hb.tape, hb.output, hb.size, fun i hi _ => hb.block i hi⟩ (by cases h' : v.ownBlock <;> simp)
set_option maxHeartbeats 2000000 in
theorem open_no (A : Option Addr) (n c B : Nat) (l : List UInt8) (k : Nat) (w : World) (hr : Reads w B 1 A n (bL l)) (hB : B ≤ w.heap.size) (hn : n ≤ 1000000) (ho : hdOk l = false ∨ hdK l ≠ k) :
    Calls Try.prog 38 #[.slice A n c, .int .u8 (k : Int)] w (RetB w (.tuple #[.agg #[.int .u8 0, .int .u16 0, .int .u32 0], .pointer none, .bool false])) := by
  have X0 := Blk.new w 70 #[.int .u8 0, .int .u16 0, .int .u32 0]
  have D := fun (W : World) (hb : Below w.heap.size w W) => dget_any A n c B l W (hr.below (hb.mono hB)) (Nat.le_trans hB hb.size) (by omega)
  unfold RetHd at D
  have fin : ∀ (W : World) (u : Value), Below w.heap.size w W → Below w.heap.size w (W.setCell ⟨w.heap.size, 0, none⟩ u) := fun W u h => h.setCell (Nat.le_refl _) _
  by_cases hk : hdOk l = true
  rotate_left
  · have hk' : hdOk l = false := by simpa using hk
    have hv : hdV l = .agg #[.int .u8 0, .int .u16 0, .int .u32 0] := by unfold hdV; rw [hk']; rfl
    rw [hv, hk'] at D
    have HD := Lib.hid D
    clear D hv hk hk' ho hr
    go_enter Try.func38, Try.ntmps38
    go_wp2_with fail
    refine (HD.out _ (by (with_reducible repeat (first | exact Below.refl _ _ | exact hb1 | exact hb1 | refine bto0 ?_ hb1 | refine bto0 ?_ hb1 | refine bdr ?_ _ | refine Below.drew ?_ | refine ball ?_ _)))).mono ?_
    rintro e w1 ⟨rfl, hb1⟩
    have X1 := X0.below hb1 X0.lt
    have f0 := X1.frozen 0
    have f1 := X1.frozen 1
    have f2 := X1.frozen 2
    have c0 : w1.cell? ⟨w.heap.size, 0, none⟩ = some (.int .u8 0) := X1.cell 0
    have c1 : w1.cell? ⟨w.heap.size, 1, none⟩ = some (.int .u16 0) := X1.cell 1
    have c2 : w1.cell? ⟨w.heap.size, 2, none⟩ = some (.int .u32 0) := X1.cell 2
    have hz1 := X1.lt
    go_wp2
    have hbel : ∀ u v x : Value, ∀ o : Obj, Below w.heap.size w ((((w1.setCell ⟨w.heap.size, 0, none⟩ u).setCell ⟨w.heap.size, 1, none⟩ v).setCell ⟨w.heap.size, 2, none⟩ x).alloc o) := fun u v x o => ball (((bto0 (ball (Below.refl _ _) _) hb1).setCell (Nat.le_refl _) _ |>.setCell (Nat.le_refl _) _).setCell (Nat.le_refl _) _) _
    have X5 := (((X1.set_ 0 (.int .u8 0)).set_ 1 (.int .u16 0)).set_ 2 (.int .u32 0)).alloc (.cells #[.int .u8 0, .int .u16 0, .int .u32 0] 70)
    have y0 : _ = some (Value.int .u8 0) := X5.cell 0
    have y1 : _ = some (Value.int .u16 0) := X5.cell 1
    have y2 : _ = some (Value.int .u32 0) := X5.cell 2
    exact bodyPost_ret (v := .tuple #[.agg #[.int .u8 0, .int .u16 0, .int .u32 0], .pointer none, .bool false]) (by simp [results, Try.results38, go_sem, y0, y1, y2]) rfl ⟨rfl, hbel _ _ _ _⟩
  · have hkk : hdK l ≠ k := by rcases ho with h | h; rw [hk] at h; cases h; exact h
    have hv : hdV l = .agg #[.int .u8 (hdK l : Int), .int .u16 (hdC l : Int), .int .u32 (hdN l : Int)] := by unfold hdV; rw [hk]; rfl
    rw [hv, hk] at D
    generalize hdK l = K at *
    generalize hdC l = C at *
    generalize hdN l = N at *
    have e1 : ((K : Int) != (k : Int)) = true := by simp; omega
    have e2 : ((K : Int) == (k : Int)) = false := by simp; omega
    have e3 : (K != k) = true := by simpa using hkk
    have e4 : (K == k) = false := by simpa using hkk
    have HD := Lib.hid D
    clear D hv hk hkk ho hr
    go_enter Try.func38, Try.ntmps38
    go_wp2_with fail
    refine (HD.out _ (by (with_reducible repeat (first | exact Below.refl _ _ | exact hb1 | exact hb1 | refine bto0 ?_ hb1 | refine bto0 ?_ hb1 | refine bdr ?_ _ | refine Below.drew ?_ | refine ball ?_ _)))).mono ?_
    rintro e w1 ⟨rfl, hb1⟩
    have X1 := X0.below hb1 X0.lt
    have f0 := X1.frozen 0
    have f1 := X1.frozen 1
    have f2 := X1.frozen 2
    have c0 : w1.cell? ⟨w.heap.size, 0, none⟩ = some (.int .u8 0) := X1.cell 0
    have c1 : w1.cell? ⟨w.heap.size, 1, none⟩ = some (.int .u16 0) := X1.cell 1
    have c2 : w1.cell? ⟨w.heap.size, 2, none⟩ = some (.int .u32 0) := X1.cell 2
    have hz1 := X1.lt
    go_wp2
    have hbel : ∀ u v x : Value, ∀ o : Obj, Below w.heap.size w ((((w1.setCell ⟨w.heap.size, 0, none⟩ u).setCell ⟨w.heap.size, 1, none⟩ v).setCell ⟨w.heap.size, 2, none⟩ x).alloc o) := fun u v x o => ball (((bto0 (ball (Below.refl _ _) _) hb1).setCell (Nat.le_refl _) _ |>.setCell (Nat.le_refl _) _).setCell (Nat.le_refl _) _) _
    have X5 := (((X1.set_ 0 (.int .u8 0)).set_ 1 (.int .u16 0)).set_ 2 (.int .u32 0)).alloc (.cells #[.int .u8 (K : Int), .int .u16 (C : Int), .int .u32 (N : Int)] 70)
    have y0 : _ = some (Value.int .u8 0) := X5.cell 0
    have y1 : _ = some (Value.int .u16 0) := X5.cell 1
    have y2 : _ = some (Value.int .u32 0) := X5.cell 2
    exact bodyPost_ret (v := .tuple #[.agg #[.int .u8 0, .int .u16 0, .int .u32 0], .pointer none, .bool false]) (by simp [results, Try.results38, go_sem, y0, y1, y2]) rfl ⟨rfl, hbel _ _ _ _⟩

set_option maxHeartbeats 2000000 in
theorem getLeaf_op (A : Option Addr) (n c B : Nat) (l : List UInt8) (w : World) (hr : Reads w B 1 A n (bL l)) (hB : B ≤ w.heap.size) (hn : n ≤ 1000000) (ho : hdOk l = false ∨ hdK l ≠ 2) :
    Calls Try.prog 18 #[.slice A n c] w (RetB w (.tuple #[.int .u32 0, .slice none 0 0, .int .i64 2])) := by
  have O := Lib.hid (open_no A n c B l 2 w hr hB hn ho)
  clear hr hB hn ho
  go_enter Try.func18, Try.ntmps18
  go_wp2_with fail
  refine O.out.mono ?_
  rintro e w1 ⟨rfl, hb1⟩
  go_wp2
  exact bodyPost_ret (v := .tuple #[.int .u32 0, .slice none 0 0, .int .i64 2]) (by simp [results, Try.results18, go_sem]) rfl ⟨rfl, ball hb1 _⟩
set_option maxHeartbeats 2000000 in
theorem getInner_op (A : Option Addr) (n c B : Nat) (l : List UInt8) (w : World) (hr : Reads w B 1 A n (bL l)) (hB : B ≤ w.heap.size) (hn : n ≤ 1000000) (ho : hdOk l = false ∨ hdK l ≠ 3) :
    Calls Try.prog 19 #[.slice A n c] w (RetB w (.tuple #[.slice none 0 0, .slice none 0 0, .int .i64 2])) := by
  have O := Lib.hid (open_no A n c B l 3 w hr hB hn ho)
  clear hr hB hn ho
  go_enter Try.func19, Try.ntmps19
  go_wp2_with fail
  refine O.out.mono ?_
  rintro e w1 ⟨rfl, hb1⟩
  go_wp2
  exact bodyPost_ret (v := .tuple #[.slice none 0 0, .slice none 0 0, .int .i64 2]) (by simp [results, Try.results19, go_sem]) rfl ⟨rfl, ball hb1 _⟩

set_option maxRecDepth 100000 in
set_option maxHeartbeats 4000000 in
theorem getLeaf_all (A : Option Addr) (n c B C : Nat) (l : List UInt8) (L : List En) (R : List UInt8) (w : World) (hr : Reads w B 1 A n (bL l)) (hB : B ≤ w.heap.size) (hn : n ≤ 1000000) (hc : n ≤ c) (ho : hdOk l = true) (hk : hdK l = 2) (hC : hdC l = C) (hC2 : C ≤ 65535)
    (hL : rdMany C (l.drop 8) = L) (hR : rdRest C (l.drop 8) = R) (S Z M : Bool) (hS : rdSh C (l.drop 8) = S) (hz : allZ R = Z) (hRl : R.length ≤ 1000000) (hm : mayEn L = M) :
    Calls Try.prog 18 #[.slice A n c] w (RetGla w (hdN l) L (!S && Z && M)) := by
  have O := Lib.hid (open_ok A n c B l 2 w hr hB hn hc ho hk)
  unfold RetOp at O
  rw [hk, hC] at O
  generalize hdN l = N at *
  generalize l.drop 8 = r0 at *
  have hLl : L.length = C := by rw [← hL, rdMany_len]
  have HL := Lib.hid (And.intro hL (And.intro hR (And.intro hS (And.intro hz (And.intro hm hLl)))))
  have HRl := Lib.hid hRl
  clear hr hn hc ho hk hC hL hR hS hz hm hLl hRl
  have hCI : (C : Int) ≤ 65535 := by omega
  obtain ⟨i0, hi0, hz0, hs0, hy0⟩ := int_info8 Try.infoE
  go_enter Try.func18, Try.ntmps18
  go_wp2_with fail
  refine O.out.mono ?_
  rintro e w1 ⟨g, rfl, hg, hrd, hb1⟩
  have hgl : g < w1.heap.size := by obtain ⟨_, _, _, h1, _⟩ := hrd; exact h1.lt
  have hBg : B ≤ g := by omega
  have X0 := Blk.new w1 70 #[.int .u8 2, .int .u16 (C : Int), .int .u32 (N : Int)]
  have hrd0 : Rd (w1.alloc (.cells #[.int .u8 2, .int .u16 (C : Int), .int .u32 (N : Int)] 70)) g B r0 false := hrd.but (but_alloc w1 w1.heap.size _) (by omega) (by omega)
  have hbw : Below w.heap.size w (w1.alloc (.cells #[.int .u8 2, .int .u16 (C : Int), .int .u32 (N : Int)] 70)) := ball (bto0 (Below.refl _ _) hb1) _
  clear hrd hb1
  have HX0 := Lib.hid (And.intro X0 (And.intro hrd0 hbw))
  clear X0 hrd0 hbw
  have cz : (w1.alloc (.cells #[.int .u8 2, .int .u16 (C : Int), .int .u32 (N : Int)] 70)).cell? ⟨w1.heap.size, 1, none⟩ = some (.int .u16 (C : Int)) := HX0.out.1.cell 1
  go_wp2_with fail
  obtain ⟨X0, hrd0, hbw0⟩ := HX0.out
  have hs0' : w1.heap.size + 1 = (w1.alloc (.cells #[.int .u8 2, .int .u16 (C : Int), .int .u32 (N : Int)] 70)).heap.size := by simp
  obtain ⟨W0, hW0⟩ : ∃ W0, w1.alloc (.cells #[.int .u8 2, .int .u16 (C : Int), .int .u32 (N : Int)] 70) = W0 := ⟨_, rfl⟩
  rw [hW0] at X0 hrd0 hbw0 hs0' ⊢
  clear hW0 HX0 cz
  obtain ⟨h, hh⟩ : ∃ h, w1.heap.size = h := ⟨_, rfl⟩
  rw [hh] at X0 hgl hs0' ⊢
  clear hh
  go_loopw [8, 19] (fun rv iv wr => ∃ j : Nat, j ≤ C ∧ iv = .int .u16 (j : Int) ∧ wr.ownsRow (h + 1) 27 3 rv (rdMany j r0).length (vE (rdMany j r0)) ∧ Rd wr g B (rdRest j r0) (rdSh j r0) ∧ Blk wr h 70 #[.int .u8 2, .int .u16 (C : Int), .int .u32 (N : Int)] ∧ Below w.heap.size w wr ∧ h + 1 ≤ wr.heap.size) (fun _ iv _ => C - (intOf iv).toNat)
  case atStart => exact ⟨0, by omega, rfl, ⟨rfl, .inl ⟨rfl, rfl⟩⟩, hrd0, X0, hbw0, by omega⟩
  case round =>
    clear X0 hrd0 hbw0
    obtain ⟨j, hj, rfl, hown, hrd, hX, hb, hsz⟩ := hrel
    have r0' : (0 : Int) ≤ (j : Int) := by omega
    by_cases hlt : j < C
    · have r1 : (j : Int) < (C : Int) := by omega
      obtain ⟨st1, st2, st3⟩ := rd_step j r0
      have HST := Lib.hid (And.intro st1 (And.intro st2 st3))
      clear st1 st2 st3
      have EN := Lib.hid (entry_any g B (rdRest j r0) (rdSh j r0) wr hrd)
      have hjl : (rdMany j r0).length ≤ 65535 := by rw [rdMany_len]; omega
      obtain ⟨E, hE⟩ : ∃ E, rdE (rdRest j r0) = E := ⟨_, rfl⟩
      unfold RetEn at EN
      rw [hE] at EN
      have HE := Lib.hid hE; clear hE
      obtain ⟨es, ep, eq⟩ := E
      unfold En.agg at EN
      simp only at EN
      go_wp2_with fail
      refine EN.out.mono ?_
      rintro e w2 ⟨rfl, hrd2, hbt⟩
      have hown2 := World.ownsRow.kept (row := some g) hown hbt (by
        rcases own_ne (g := h) hown with h1 | h1
        · exact .inl h1
        · rcases hown.2 with ⟨hv, _⟩ | ⟨g', cap, cur, hv, hb', _⟩
          · exact .inl (by rw [hv]; rfl)
          · refine .inr ?_
            rw [hv]
            show some g' ≠ some g
            intro e; injection e with e; omega)
      have hX2 := hX.grown hbt (by simp; omega)
      have hb2 : Below w.heap.size w w2 := below_but hb hbt hg (by have := hX.lt; omega)
      have hsz2 := Nat.le_trans hsz hbt.size
      clear hown hrd hX hb hbt
      go_wp2_with (at_builtin; go_loud (refine wpList_pushG (news := En.cells ⟨es, ep, eq⟩) rfl _ _ 29 rfl (h + 1) 27 i0 _ 3 24 Try.underlying29 hi0 hz0 hs0 hy0 rfl (by decide) u8 (rdMany j r0).length _ rfl hown2 rfl _ rfl rfl rfl (cells_oneE _) (by omega) (by omega) hsz2 ?_); intro v3 w3 hown3 hk3)
      have hk4 := hk3 (h + 1) w2 (Nat.le_refl _) (Below.refl _ _)
      go_roundw
      case rel => exact ⟨j + 1, by omega, by go_num, by rw [HST.out.1, HE.out, vE_snoc, List.length_append]; exact hown3, by rw [HST.out.2.1, HST.out.2.2]; exact hrd2.below (hk4.mono (by omega)), hX2.below hk4 (by omega), hk3 _ _ (by omega) hb2, Nat.le_trans hsz2 hk4.size⟩
      case measure => simp [intOf]; omega
    · obtain rfl : j = C := by omega
      obtain ⟨e1, e2, e3, e4, e5, e6⟩ := HL.out
      rw [e1] at hown
      rw [e2, e3] at hrd
      have ED := Lib.hid (ended_any g B R S wr hrd HRl.out)
      rw [e4] at ED
      have HED := Lib.hid ED; clear ED
      obtain ⟨A5, c5, rfl, hc5⟩ := own_form hown
      have hro := Reads.of_own hown
      have MY := mayE_any A5 L.length c5 L wr hro (by rw [e6]; omega)
      rw [e5] at MY
      have HO := Lib.hid hown
      have HM := Lib.hid MY; clear MY e1 e2 e3 e4 e5 e6 hown hrd
      cases S
      rotate_left
      · go_wp2_with fail
        refine HED.out.mono ?_
        rintro e w' ⟨rfl, rfl⟩
        go_wp2
        exact bodyPost_ret (v := .tuple #[.int .u32 0, .slice none 0 0, .int .i64 2]) (by simp [results, Try.results18, go_sem]) rfl ⟨rfl, hb⟩
      · cases Z
        · go_wp2_with fail
          refine HED.out.mono ?_
          rintro e w' ⟨rfl, rfl⟩
          go_wp2
          exact bodyPost_ret (v := .tuple #[.int .u32 0, .slice none 0 0, .int .i64 2]) (by simp [results, Try.results18, go_sem]) rfl ⟨rfl, hb⟩
        · cases M
          · go_wp2_with fail
            refine HED.out.mono ?_
            rintro e w' ⟨rfl, rfl⟩
            go_wp2_with fail
            refine HM.out.mono ?_
            rintro e w3 ⟨rfl, hb3⟩
            go_wp2
            exact bodyPost_ret (v := .tuple #[.int .u32 0, .slice none 0 0, .int .i64 2]) (by simp [results, Try.results18, go_sem]) rfl ⟨rfl, bto0 hb hb3⟩
          · go_wp2_with fail
            refine HED.out.mono ?_
            rintro e w' ⟨rfl, rfl⟩
            go_wp2_with fail
            refine HM.out.mono ?_
            rintro e w3 ⟨rfl, hb3⟩
            have X3 := hX.below hb3 hX.lt
            have y2 : w3.cell? ⟨h, 2, none⟩ = some (.int .u32 (N : Int)) := X3.cell 2
            go_wp2
            exact bodyPost_ret (v := .tuple #[.int .u32 (N : Int), .slice A5 L.length c5, .int .i64 0]) (by simp [results, Try.results18, go_sem]) rfl ⟨A5, c5, rfl, hc5, own_below (World.ownsRow.mono HO.out (by omega)) hb3, bto0 hb hb3⟩
end Go.Proofs.Ytgdipljaddodhaa
