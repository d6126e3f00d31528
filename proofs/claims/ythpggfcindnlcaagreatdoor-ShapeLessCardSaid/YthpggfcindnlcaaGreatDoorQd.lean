
/-
  ShapeTotal: the program's Total.
-/
import Derived.Test.YthpggfcindnlcaaGreatDoorQc
set_option linter.unusedSimpArgs false
set_option linter.unusedVariables false
namespace Go.Proofs.YthpggfcindnlcaaGreatDoor
open Go.RowKit

theorem own_keptQ {w w' : World} {base : Nat} {e : TypeId} {size n : Nat} {v : Value} {xs : List Value} (h : w.ownsRow base e size v n xs) (hb : Below w.heap.size w w') : w'.ownsRow base e size v n xs := by
  refine h.kept (row := none) ⟨hb.os, hb.tape, hb.output, hb.size, fun k hk _ => hb.block k hk⟩ ?_
  cases hv : v.ownBlock <;> simp
def nnV (l : List Vl) : List Vl := l.filter fun v => decide (v.k ≠ 0)
theorem nnV_len (l : List Vl) : (nnV l).length ≤ l.length := List.length_filter_le _ _
theorem nnV_snoc {l : List Vl} {k : Nat} {v : Vl} (h : l[k]? = some v) : nnV (l.take (k + 1)) = if v.k = 0 then nnV (l.take k) else nnV (l.take k) ++ [v] := by
  rw [List.take_add_one, h]
  unfold nnV
  rw [List.filter_append]
  by_cases h0 : v.k = 0 <;> simp [h0]
/-- What a total comes to. -/
def totV (op : ByteArray) (l : List Vl) : Vl × Bool :=
  if l.all mayV = true then
    (if (op.toList == [67, 79, 85, 78, 84]) = true then (⟨1, (nnV l).length, ⟨#[]⟩⟩, true)
     else if (op.toList == [83, 85, 77]) = true then sumV (nnV l)
     else if (op.toList == [77, 73, 78]) = true then (extV false (nnV l), true)
     else if (op.toList == [77, 65, 88]) = true then (extV true (nnV l), true)
     else (⟨0, 0, ⟨#[]⟩⟩, false))
  else (⟨0, 0, ⟨#[]⟩⟩, false)
theorem Tryz.infoVq : (Tryz.prog.info? 26).map (fun i => (i.zero, i.size, i.bytes)) = some (some (.agg #[.int .u8 0, .int .i64 0, .string ⟨#[]⟩]), 3, 32) := by kernel_rfl
theorem vV_snoc (l : List Vl) (v : Vl) : vV (l ++ [v]) = vV l ++ [.int .u8 v.k, .int .i64 v.i, .string v.s] := by simp [vV, Vl.cells]
set_option maxRecDepth 100000 in
set_option maxHeartbeats 8000000 in
theorem total_any {w : World} {A : Option Addr} {n c : Nat} {l : List Vl} (op : ByteArray) (hr : Reads w w.heap.size 3 A n (vV l)) (hn : n ≤ 10000) (hok : ∀ v ∈ l, v.ok) :
    Calls Tryz.prog 7 #[.string op, .slice A n c] w (RetB w (.tuple #[(totV op l).1.agg, .bool (totV op l).2])) := by
  have hl : l.length = n := by have := hr.1; rw [vV_len] at this; omega
  have nI : (n : Int) ≤ 10000 := by omega
  obtain ⟨i0, hi0, hz0, hs0, hy0⟩ := int_info8 Tryz.infoVq
  have HL := Lib.hid (And.intro hl hok)
  obtain ⟨SV, hSV⟩ : ∃ SV, totV op l = SV := ⟨_, rfl⟩
  rw [hSV]
  have HSV := Lib.hid hSV
  clear hl hok hSV
  go_enter Tryz.func7, Tryz.ntmps7
  go_wp2_with fail
  go_loopw [6, 8, 11] (fun u6 u8 u11 wr => ∃ (k : Nat), u11 = .int .i64 k ∧ k ≤ n ∧ (l.take k).all mayV = true ∧ wr.ownsRow (w.heap.size + 1) 26 3 u6 (nnV (l.take k)).length (vV (nnV (l.take k))) ∧ Blk wr w.heap.size 26 #[.int .u8 0, .int .i64 0, .string ⟨#[]⟩] ∧ Below w.heap.size w wr ∧ w.heap.size + 1 ≤ wr.heap.size) (fun _ _ u11 _ => n - (intOf u11).toNat)
  case atStart => exact ⟨0, rfl, by omega, rfl, ⟨rfl, .inl ⟨rfl, rfl⟩⟩, Blk.new _ _ _, ball (Below.refl _ _) _, by simp⟩
  case round =>
    obtain ⟨wo, rfl⟩ : ∃ wo : World, wo = wr := ⟨_, rfl⟩
    obtain ⟨k, rfl, hk, hall, hown, hbz, hb, hlo⟩ := hrel
    have k0 : (0 : Int) ≤ (k : Int) := by omega
    have hzz := hb.size
    by_cases hlt : k < n
    · have k1 : (k : Int) < (n : Int) := by omega
      obtain ⟨ad, v, rfl, had, hv, d0, d1, d2⟩ := (hr.below hb).val hlt
      have MA := Lib.hid (may_any v (HL.out.2 v (List.mem_of_getElem? hv)))
      have X := Blk.new wo 26 #[.int .u8 v.k, .int .i64 v.i, .string v.s]
      have ba := ball (Below.refl wo.heap.size wo) (.cells #[.int .u8 v.k, .int .i64 v.i, .string v.s] 26)
      have hln : (nnV (l.take k)).length ≤ 10000 := by have := nnV_len (l.take k); rw [List.length_take] at this; omega
      have hal : (l.take (k + 1)).all mayV = mayV v := by rw [List.take_add_one, hv, List.all_append, hall]; simp
      have htk := nnV_snoc hv
      have HQ := Lib.hid (And.intro hown (And.intro hbz (And.intro hb (And.intro X (And.intro ba (And.intro hal (And.intro htk hv)))))))
      clear hall hown hbz hb X ba hal htk hv
      go_wp2_with fail
      refine (MA.out _).mono ?_
      rintro e w2 ⟨rfl, hb2⟩
      have b2 := bto0 HQ.out.2.2.2.2.1 hb2
      have X2 := HQ.out.2.2.2.1.below hb2 HQ.out.2.2.2.1.lt
      have bz2 := HQ.out.2.1.below b2 HQ.out.2.1.lt
      have bw2 := bto0 HQ.out.2.2.1 b2
      have own2 := own_keptQ HQ.out.1 b2
      have x0 : w2.cell? ⟨wo.heap.size, 0, none⟩ = some (.int .u8 v.k) := X2.cell 0
      have x1 : w2.cell? ⟨wo.heap.size, 1, none⟩ = some (.int .i64 v.i) := X2.cell 1
      have x2 : w2.cell? ⟨wo.heap.size, 2, none⟩ = some (.string v.s) := X2.cell 2
      have hx2 := X2.lt
      have z2 := b2.size
      have z0 := bz2.cell 0
      have g0 := bz2.frozen 0
      have z1 := bz2.cell 1
      have g1 := bz2.frozen 1
      have z2 := bz2.cell 2
      have g2 := bz2.frozen 2
      simp at z0 z1 z2
      have H2 := Lib.hid (And.intro own2 (And.intro bz2 bw2))
      clear own2 bz2 bw2 b2 hb2 X2 MA
      have hw2 : w.heap.size < w2.heap.size := by omega
      cases hmv : mayV v
      · have hs : SV = (⟨0, 0, ⟨#[]⟩⟩, false) := by
          rw [← HSV.out]
          unfold totV
          rw [if_neg]
          intro h
          have := List.all_eq_true.1 h v (List.mem_of_getElem? HQ.out.2.2.2.2.2.2.2)
          rw [hmv] at this
          cases this
        subst hs
        clear HSV
        go_wp2
        obtain ⟨W5, hW5⟩ : ∃ W5, ((w2.setCell ⟨w.heap.size, 0, none⟩ (.int .u8 0)).setCell ⟨w.heap.size, 1, none⟩ (.int .i64 0)).setCell ⟨w.heap.size, 2, none⟩ (.string ⟨#[]⟩) = W5 := ⟨_, rfl⟩
        have B5 : Blk W5 (w.heap.size) 26 #[.int .u8 0, .int .i64 0, .string ⟨#[]⟩] := by
          have T := ((H2.out.2.1.set_ 0 (.int .u8 0)).set_ 1 (.int .i64 0)).set_ 2 (.string ⟨#[]⟩)
          simp only [List.setIfInBounds_toArray, List.set_cons_zero, List.set_cons_succ] at T
          exact hW5 ▸ T
        have b5 : Below w.heap.size w W5 := hW5 ▸ ((H2.out.2.2.setCell (by simp) _).setCell (by simp) _).setCell (by simp) _
        rw [hW5]
        clear hW5
        have p0 : W5.cell? ⟨w.heap.size, 0, none⟩ = some (.int .u8 0) := B5.cell 0
        have p1 : W5.cell? ⟨w.heap.size, 1, none⟩ = some (.int .i64 0) := B5.cell 1
        have p2 : W5.cell? ⟨w.heap.size, 2, none⟩ = some (.string ⟨#[]⟩) := B5.cell 2
        exact bodyPost_ret (v := .tuple #[.agg #[.int .u8 0, .int .i64 0, .string ⟨#[]⟩], .bool false]) (by simp [results, Tryz.results7, go_sem, p0, p1, p2]) rfl ⟨rfl, b5⟩
      · by_cases hk0 : v.k = 0
        · have e1 : (v.k != 0) = false := by rw [hk0]; rfl
          have hk0' := Lib.hid hk0
          clear hk0
          go_wp2
          refine ⟨⟨k + 1, by go_num, by omega, by rw [HQ.out.2.2.2.2.2.1]; exact hmv, ?_, H2.out.2.1, H2.out.2.2, by omega⟩, by simp [intOf]; omega⟩
          rw [HQ.out.2.2.2.2.2.2.1, if_pos hk0'.out]
          exact H2.out.1
        · have e1 : (v.k != 0) = true := by simpa using hk0
          have hk0' := Lib.hid hk0
          clear hk0
          go_wp2_with (at_builtin; refine wpList_pushR (news := [.int .u8 v.k, .int .i64 v.i, .string v.s]) rfl (.tmp 22) (.tmp 24) 22 rfl (w.heap.size + 1) 26 i0 _ 3 32 Tryz.underlying22 hi0 hz0 hs0 hy0 rfl (by decide) u6 (nnV (l.take k)).length (vV (nnV (l.take k))) (by first | rfl | (simp [Act.eval, Act.put]; done)) H2.out.1 rfl _ (by first | rfl | (simp [Act.eval, Act.put]; done)) (by first | rfl | simp) rfl (by intro u hu; simp only [List.mem_cons, List.not_mem_nil, or_false] at hu; rcases hu with rfl | rfl | rfl <;> rfl) (by omega) (by omega) (by omega) ?_; intro v5 w5 ho5 hg5 ob5)
          have AL := H2.out.1.alloc (.cells #[.int .u8 v.k, .int .i64 v.i, .string v.s] 26)
          have b5 := bgrow (ball H2.out.2.2 (.cells #[.int .u8 v.k, .int .i64 v.i, .string v.s] 26)) hg5 AL (by omega) (by simp; omega)
          have bz5 := (H2.out.2.1.alloc (.cells #[.int .u8 v.k, .int .i64 v.i, .string v.s] 26)).grown hg5 (fun e => by have := (World.ownsRow.lt AL w.heap.size e.symm).1; omega)
          have hz5 := hg5.size
          simp at hz5
          refine ⟨⟨k + 1, by go_num, by omega, by rw [HQ.out.2.2.2.2.2.1]; exact hmv, ?_, bz5, b5, by omega⟩, by simp [intOf]; omega⟩
          rw [HQ.out.2.2.2.2.2.2.1, if_neg hk0'.out, vV_snoc, List.length_append]
          exact ho5
    · obtain rfl : n = k := by omega
      rw [List.take_of_length_le (by rw [HL.out.1]; exact Nat.le_refl _)] at hall hown
      obtain ⟨Ao, co, rfl, hco⟩ := own_form hown
      have hln : (nnV l).length ≤ 10000 := by have := nnV_len l; rw [HL.out.1] at this; omega
      have rd := Reads.of_own hown
      have oks : ∀ v ∈ nnV l, v.ok := fun v hv => HL.out.2 v (List.mem_filter.1 hv).1
      have SM := Lib.hid (ssum_any (c := co) rd hln oks)
      have EX := Lib.hid (extreme_any (c := co) op rd hln)
      obtain ⟨L, hL⟩ : ∃ L, (nnV l).length = L := ⟨_, rfl⟩
      have hsv := HSV.out
      unfold totV at hsv
      rw [if_pos hall, hL] at hsv
      rw [hL] at hln SM EX ⊢
      have z0 := hbz.cell 0
      have g0 := hbz.frozen 0
      have z1 := hbz.cell 1
      have g1 := hbz.frozen 1
      have z2 := hbz.cell 2
      have g2 := hbz.frozen 2
      simp at z0 z1 z2
      have HQ := Lib.hid (And.intro hbz hb)
      have hzl := hbz.lt
      have lI : (L : Int) ≤ 10000 := by omega
      clear hbz hb hall hown HSV hL rd oks
      cases hO : (op.toList == [67, 79, 85, 78, 84])
      rotate_left
      · rw [hO, if_pos rfl] at hsv
        subst hsv
        go_wp2
        obtain ⟨W5, hW5⟩ : ∃ W5, ((wo.setCell ⟨w.heap.size, 0, none⟩ (.int .u8 1)).setCell ⟨w.heap.size, 1, none⟩ (.int .i64 (L : Int))).setCell ⟨w.heap.size, 2, none⟩ (.string ⟨#[]⟩) = W5 := ⟨_, rfl⟩
        have B5 : Blk W5 (w.heap.size) 26 #[.int .u8 1, .int .i64 (L : Int), .string ⟨#[]⟩] := by
          have T := ((HQ.out.1.set_ 0 (.int .u8 1)).set_ 1 (.int .i64 (L : Int))).set_ 2 (.string ⟨#[]⟩)
          simp only [List.setIfInBounds_toArray, List.set_cons_zero, List.set_cons_succ] at T
          exact hW5 ▸ T
        have b5 : Below w.heap.size w W5 := hW5 ▸ ((HQ.out.2.setCell (by simp) _).setCell (by simp) _).setCell (by simp) _
        rw [hW5]
        clear hW5
        have p0 : W5.cell? ⟨w.heap.size, 0, none⟩ = some (.int .u8 1) := B5.cell 0
        have p1 : W5.cell? ⟨w.heap.size, 1, none⟩ = some (.int .i64 (L : Int)) := B5.cell 1
        have p2 : W5.cell? ⟨w.heap.size, 2, none⟩ = some (.string ⟨#[]⟩) := B5.cell 2
        exact bodyPost_ret (v := .tuple #[.agg #[.int .u8 1, .int .i64 (L : Int), .string ⟨#[]⟩], .bool true]) (by simp [results, Tryz.results7, go_sem, p0, p1, p2]) rfl ⟨rfl, b5⟩
      rw [hO, if_neg (by simp)] at hsv
      cases hS : (op.toList == [83, 85, 77])
      rotate_left
      · rw [hS, if_pos rfl] at hsv
        rw [hsv] at SM
        go_wp2_with fail
        refine SM.out.mono ?_
        rintro e w3 ⟨rfl, hb3⟩
        have B3 := HQ.out.1.below hb3 HQ.out.1.lt
        have y0 := B3.cell 0
        have f0 := B3.frozen 0
        have y1 := B3.cell 1
        have f1 := B3.frozen 1
        have y2 := B3.cell 2
        have f2 := B3.frozen 2
        simp at y0 y1 y2
        have H3 := Lib.hid (And.intro B3 (bto0 HQ.out.2 hb3))
        have hz3 := B3.lt
        clear B3 hb3 SM EX hsv z0 z1 z2 g0 g1 g2
        go_wp2
        obtain ⟨W5, hW5⟩ : ∃ W5, ((w3.setCell ⟨w.heap.size, 0, none⟩ (.int .u8 SV.1.k)).setCell ⟨w.heap.size, 1, none⟩ (.int .i64 SV.1.i)).setCell ⟨w.heap.size, 2, none⟩ (.string SV.1.s) = W5 := ⟨_, rfl⟩
        have B5 : Blk W5 (w.heap.size) 26 #[.int .u8 SV.1.k, .int .i64 SV.1.i, .string SV.1.s] := by
          have T := ((H3.out.1.set_ 0 (.int .u8 SV.1.k)).set_ 1 (.int .i64 SV.1.i)).set_ 2 (.string SV.1.s)
          simp only [List.setIfInBounds_toArray, List.set_cons_zero, List.set_cons_succ] at T
          exact hW5 ▸ T
        have b5 : Below w.heap.size w W5 := hW5 ▸ ((H3.out.2.setCell (by simp) _).setCell (by simp) _).setCell (by simp) _
        rw [hW5]
        clear hW5
        have p0 : W5.cell? ⟨w.heap.size, 0, none⟩ = some (.int .u8 SV.1.k) := B5.cell 0
        have p1 : W5.cell? ⟨w.heap.size, 1, none⟩ = some (.int .i64 SV.1.i) := B5.cell 1
        have p2 : W5.cell? ⟨w.heap.size, 2, none⟩ = some (.string SV.1.s) := B5.cell 2
        exact bodyPost_ret (v := .tuple #[SV.1.agg, .bool SV.2]) (by simp [results, Tryz.results7, go_sem, p0, p1, p2]) rfl ⟨rfl, b5⟩
      rw [hS, if_neg (by simp)] at hsv
      cases hI : (op.toList == [77, 73, 78])
      rotate_left
      · rw [hI, if_pos rfl] at hsv
        rw [hI] at EX
        obtain ⟨E, hE⟩ : ∃ E, extV false (nnV l) = E := ⟨_, rfl⟩
        change Hid (Calls _ _ _ _ (RetB _ (extV false (nnV l)).agg)) at EX
        rw [hE] at EX hsv
        subst hsv
        go_wp2_with fail
        refine EX.out.mono ?_
        rintro e w3 ⟨rfl, hb3⟩
        have B3 := HQ.out.1.below hb3 HQ.out.1.lt
        have y0 := B3.cell 0
        have f0 := B3.frozen 0
        have y1 := B3.cell 1
        have f1 := B3.frozen 1
        have y2 := B3.cell 2
        have f2 := B3.frozen 2
        simp at y0 y1 y2
        have H3 := Lib.hid (And.intro B3 (bto0 HQ.out.2 hb3))
        have hz3 := B3.lt
        clear B3 hb3 SM EX z0 z1 z2 g0 g1 g2 hE
        go_wp2
        obtain ⟨W5, hW5⟩ : ∃ W5, ((w3.setCell ⟨w.heap.size, 0, none⟩ (.int .u8 E.k)).setCell ⟨w.heap.size, 1, none⟩ (.int .i64 E.i)).setCell ⟨w.heap.size, 2, none⟩ (.string E.s) = W5 := ⟨_, rfl⟩
        have B5 : Blk W5 (w.heap.size) 26 #[.int .u8 E.k, .int .i64 E.i, .string E.s] := by
          have T := ((H3.out.1.set_ 0 (.int .u8 E.k)).set_ 1 (.int .i64 E.i)).set_ 2 (.string E.s)
          simp only [List.setIfInBounds_toArray, List.set_cons_zero, List.set_cons_succ] at T
          exact hW5 ▸ T
        have b5 : Below w.heap.size w W5 := hW5 ▸ ((H3.out.2.setCell (by simp) _).setCell (by simp) _).setCell (by simp) _
        rw [hW5]
        clear hW5
        have p0 : W5.cell? ⟨w.heap.size, 0, none⟩ = some (.int .u8 E.k) := B5.cell 0
        have p1 : W5.cell? ⟨w.heap.size, 1, none⟩ = some (.int .i64 E.i) := B5.cell 1
        have p2 : W5.cell? ⟨w.heap.size, 2, none⟩ = some (.string E.s) := B5.cell 2
        exact bodyPost_ret (v := .tuple #[E.agg, .bool true]) (by simp [results, Tryz.results7, go_sem, p0, p1, p2]) rfl ⟨rfl, b5⟩
      rw [hI, if_neg (by simp)] at hsv
      cases hA : (op.toList == [77, 65, 88])
      rotate_left
      · rw [hA, if_pos rfl] at hsv
        rw [hI] at EX
        obtain ⟨E, hE⟩ : ∃ E, extV true (nnV l) = E := ⟨_, rfl⟩
        change Hid (Calls _ _ _ _ (RetB _ (extV true (nnV l)).agg)) at EX
        rw [hE] at EX hsv
        subst hsv
        go_wp2_with fail
        refine EX.out.mono ?_
        rintro e w3 ⟨rfl, hb3⟩
        have B3 := HQ.out.1.below hb3 HQ.out.1.lt
        have y0 := B3.cell 0
        have f0 := B3.frozen 0
        have y1 := B3.cell 1
        have f1 := B3.frozen 1
        have y2 := B3.cell 2
        have f2 := B3.frozen 2
        simp at y0 y1 y2
        have H3 := Lib.hid (And.intro B3 (bto0 HQ.out.2 hb3))
        have hz3 := B3.lt
        clear B3 hb3 SM EX z0 z1 z2 g0 g1 g2 hE
        go_wp2
        obtain ⟨W5, hW5⟩ : ∃ W5, ((w3.setCell ⟨w.heap.size, 0, none⟩ (.int .u8 E.k)).setCell ⟨w.heap.size, 1, none⟩ (.int .i64 E.i)).setCell ⟨w.heap.size, 2, none⟩ (.string E.s) = W5 := ⟨_, rfl⟩
        have B5 : Blk W5 (w.heap.size) 26 #[.int .u8 E.k, .int .i64 E.i, .string E.s] := by
          have T := ((H3.out.1.set_ 0 (.int .u8 E.k)).set_ 1 (.int .i64 E.i)).set_ 2 (.string E.s)
          simp only [List.setIfInBounds_toArray, List.set_cons_zero, List.set_cons_succ] at T
          exact hW5 ▸ T
        have b5 : Below w.heap.size w W5 := hW5 ▸ ((H3.out.2.setCell (by simp) _).setCell (by simp) _).setCell (by simp) _
        rw [hW5]
        clear hW5
        have p0 : W5.cell? ⟨w.heap.size, 0, none⟩ = some (.int .u8 E.k) := B5.cell 0
        have p1 : W5.cell? ⟨w.heap.size, 1, none⟩ = some (.int .i64 E.i) := B5.cell 1
        have p2 : W5.cell? ⟨w.heap.size, 2, none⟩ = some (.string E.s) := B5.cell 2
        exact bodyPost_ret (v := .tuple #[E.agg, .bool true]) (by simp [results, Tryz.results7, go_sem, p0, p1, p2]) rfl ⟨rfl, b5⟩
      rw [hA, if_neg (by simp)] at hsv
      subst hsv
      clear SM EX
      go_wp2
      obtain ⟨W5, hW5⟩ : ∃ W5, ((wo.setCell ⟨w.heap.size, 0, none⟩ (.int .u8 0)).setCell ⟨w.heap.size, 1, none⟩ (.int .i64 0)).setCell ⟨w.heap.size, 2, none⟩ (.string ⟨#[]⟩) = W5 := ⟨_, rfl⟩
      have B5 : Blk W5 (w.heap.size) 26 #[.int .u8 0, .int .i64 0, .string ⟨#[]⟩] := by
        have T := ((HQ.out.1.set_ 0 (.int .u8 0)).set_ 1 (.int .i64 0)).set_ 2 (.string ⟨#[]⟩)
        simp only [List.setIfInBounds_toArray, List.set_cons_zero, List.set_cons_succ] at T
        exact hW5 ▸ T
      have b5 : Below w.heap.size w W5 := hW5 ▸ ((HQ.out.2.setCell (by simp) _).setCell (by simp) _).setCell (by simp) _
      rw [hW5]
      clear hW5
      have p0 : W5.cell? ⟨w.heap.size, 0, none⟩ = some (.int .u8 0) := B5.cell 0
      have p1 : W5.cell? ⟨w.heap.size, 1, none⟩ = some (.int .i64 0) := B5.cell 1
      have p2 : W5.cell? ⟨w.heap.size, 2, none⟩ = some (.string ⟨#[]⟩) := B5.cell 2
      exact bodyPost_ret (v := .tuple #[.agg #[.int .u8 0, .int .i64 0, .string ⟨#[]⟩], .bool false]) (by simp [results, Tryz.results7, go_sem, p0, p1, p2]) rfl ⟨rfl, b5⟩
end Go.Proofs.YthpggfcindnlcaaGreatDoor
