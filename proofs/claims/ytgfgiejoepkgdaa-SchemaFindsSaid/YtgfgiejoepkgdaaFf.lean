/-
  SchemaFinds: the walk.
-/
import Derived.Test.YtgfgiejoepkgdaaFe
import Derived.Deep.DeepCutAuto
set_option linter.unusedSimpArgs false
set_option linter.unusedVariables false
namespace Go.Proofs.Ytgfgiejoepkgdaa
open Go.RowKit

theorem fst_nn (nm : ByteArray) : ∀ (l : List Tb) (k : Nat), fstT nm l k = -1 ∨ 0 ≤ fstT nm l k
  | [], _ => .inl rfl
  | t :: r, k => by
    unfold fstT
    split
    · exact .inr (by omega)
    · exact fst_nn nm r (k + 1)
set_option maxHeartbeats 4000000 in
theorem schemaFinds_any (A : Option Addr) (n c : Nat) (l : List Tb) (B : Option Addr) (m d : Nat) (r : List Ix) (nm : ByteArray) (w : World) (hr : Reads w w.heap.size 5 A n (vTb l)) (hl : ∀ t ∈ l, TbIn w w.heap.size t) (hx : Reads w w.heap.size 7 B m (vIx r)) (hn : n ≤ 2199023255552) (hm : m ≤ maxLen) (hix : ∀ x ∈ r, x.ok) :
    Calls Try.prog 3 #[.agg #[.slice A n c, .slice B m d], .string nm] w (RetB w (.bool true)) := by
  have hln : l.length = n := by have := hr.1; rw [vTb_len] at this; omega
  have nI : (n : Int) ≤ 2199023255552 := by omega
  have FX := Lib.hid fun W => fixed12_any W
  have GR := Lib.hid (great12_any A n c l B m d r (w.alloc (.cells #[.slice A n c, .slice B m d] 25)) ((hr.below (ball (Below.refl _ _) _)).more (by simp)) (fun t ht => by
    have h := (hl t ht).under (ball (Below.refl _ _) (.cells #[.slice A n c, .slice B m d] 25))
    exact ⟨h.1, h.2.1, h.2.2.1.more (by simp), h.2.2.2⟩) ((hx.below (ball (Below.refl _ _) _)).more (by simp)) hn hm hix)
  have HR := Lib.hid (And.intro hr (And.intro hl (And.intro hln hn)))
  clear hr hl hx hix hm hln
  go_enter Try.func3, Try.ntmps3
  go_wp2_with fail
  refine GR.out.mono ?_
  rintro e w1 ⟨b, rfl, hb1, hbig⟩
  have hbk1 : Blk w1 w.heap.size 25 #[.slice A n c, .slice B m d] := (Blk.new _ _ _).below hb1 (by simp)
  have hbw1 := bto0 (ball (Below.refl w.heap.size w) (.cells #[.slice A n c, .slice B m d] 25)) hb1
  have e0 : w1.cell? ⟨w.heap.size, 0, none⟩ = some (.slice A n c) := hbk1.cell 0
  have e1 : w1.cell? ⟨w.heap.size, 1, none⟩ = some (.slice B m d) := hbk1.cell 1
  cases b with
  | true =>
    clear hb1 hbig
    go_wp2_with fail
    refine (FX.out _).mono ?_
    rintro e w2 ⟨rfl, hb2⟩
    go_wp2
    go_ret
    exact ⟨rfl, bto0 hbw1 hb2⟩
  | false =>
    have HB := Lib.hid (And.intro (hbig rfl) (And.intro hbw1 hbk1))
    have hlt1 : w.heap.size < w1.heap.size := hbk1.lt
    clear hb1 hbig hbw1 hbk1
    go_wp2
    go_loopw [5, 17] (fun u v wr => ∃ (i : Nat) (x : Int), u = .int .i64 x ∧ i ≤ n ∧ v = .int .i64 i ∧ Below w1.heap.size w1 wr ∧ ((x = -1 ∧ fstT nm l 0 = fstT nm (l.drop i) i) ∨ (0 ≤ x ∧ x = fstT nm l 0))) (fun _ v _ => n - (intOf v).toNat)
    case atStart => exact ⟨0, -1, rfl, by omega, rfl, Below.refl _ _, .inl ⟨rfl, rfl⟩⟩
    case round =>
      obtain ⟨wo, rfl⟩ : ∃ wo : World, wo = wr := ⟨_, rfl⟩
      obtain ⟨i, x, rfl, hi, rfl, hb, hx⟩ := hrel
      have i0 : (0 : Int) ≤ (i : Int) := by omega
      have hbw := bto0 HB.out.2.1 hb
      have hbk := HB.out.2.2.below hb hlt1
      have b0 : wo.cell? ⟨w.heap.size, 0, none⟩ = some (.slice A n c) := hbk.cell 0
      have b1 : wo.cell? ⟨w.heap.size, 1, none⟩ = some (.slice B m d) := hbk.cell 1
      clear e0 e1
      by_cases hlt : i < n
      · have i1 : (i : Int) < (n : Int) := by omega
        obtain ⟨ad, t, rfl, hab, ht, d0, d1, d2, d3, d4⟩ := (HR.out.1.below hbw).tb_ hlt
        have htin := (HR.out.2.1 t (List.mem_of_getElem? ht)).under hbw
        have htn := HB.out.1 t (List.mem_of_getElem? ht)
        have hst := fstT_at (nm := nm) ht
        have hbz := hb.size
        have hbwz := hbw.size
        have hcl : t.cols.length = t.n := by have := htin.2.2.1.1; rw [vC_len] at this; omega
        have KD : Hid (∀ W, Below wo.heap.size wo W → Calls Try.prog 6 #[t.agg] W (RetKinds W (t.cols.map kB))) := Lib.hid fun W hW => by
          have h := htin.under (hW.mono hbwz)
          exact kinds_any t W ⟨h.1, h.2.1, h.2.2.1.more (by have := hW.size; omega), h.2.2.2⟩ htn
        have HT := Lib.hid (And.intro htin (And.intro htn (And.intro hcl (And.intro hst (And.intro hb hbw)))))
        clear htin hst hcl ht hb hbw
        have hgrn : ∀ z : Int, fstT nm l 0 = z → 0 ≤ z → (z = -1 ∧ fstT nm l 0 = fstT nm (l.drop (i + 1)) (i + 1)) ∨ (0 ≤ z ∧ z = fstT nm l 0) := fun z h1 h2 => .inr ⟨h2, h1.symm⟩
        rcases hx with ⟨rfl, hf⟩ | ⟨hx0, hxe⟩
        · rcases nm_cases t.nm nm with ⟨h1, h2⟩ | ⟨h1, h2⟩
          · have HZ := Lib.hid (hgrn (i : Int) (by rw [hf, HT.out.2.2.2.1, if_pos h1]) i0)
            clear hgrn hf h1
            go_wp2_with fail
            refine (KD.out _ (ball (Below.refl _ _) _)).mono ?_
            rintro e w2 ⟨A2, c2, rfl, own2, hb2⟩
            rw [List.length_map, HT.out.2.2.1] at own2 ⊢
            have X2 := (Blk.new wo 31 #[.string t.nm, .slice t.A t.n t.c, .int .u32 t.f, .int .i64 t.r, .int .i64 t.p]).below hb2 (by simp)
            have g1 : w2.cell? ⟨wo.heap.size, 1, none⟩ = some (.slice t.A t.n t.c) := X2.cell 1
            have hbw2 : Below wo.heap.size wo w2 := bto0 (ball (Below.refl _ _) _) hb2
            have H2 := Lib.hid (And.intro own2.reads.1 hbw2)
            have tnI : (t.n : Int) ≤ 3000 := by have := HT.out.2.1; omega
            clear own2 X2 hb2 hbw2 d0 d1 d2 d3 d4
            go_wp2
            go_loopw [42] (fun v wr => ∃ k : Nat, k ≤ t.n ∧ v = .int .i64 k ∧ Below w2.heap.size w2 wr) (fun v _ => t.n - (intOf v).toNat)
            case atStart => exact ⟨0, by omega, rfl, Below.refl _ _⟩
            case round =>
              obtain ⟨k, hk, rfl, hb3⟩ := hrel
              have k0 : (0 : Int) ≤ (k : Int) := by omega
              have hbx : Below wo.heap.size wo wr := bto0 H2.out.2 hb3
              clear g1
              by_cases hkt : k < t.n
              · have k1 : (k : Int) < (t.n : Int) := by omega
                obtain ⟨ad2, q, hA2, hab2, hq, f0, f1, f2, f3⟩ := (HT.out.1.2.2.1.below (hbx.mono hbwz)).cl_ hkt
                have hqok := HT.out.1.2.2.2 q (List.mem_of_getElem? hq)
                obtain ⟨ad3, u, rfl, hab3, hu, du⟩ := (H2.out.1.below hb3).at_ hkt
                have hue : u = .int .u8 q.k := by
                  unfold bL at hu
                  rw [List.getElem?_map, List.getElem?_map, hq] at hu
                  injection hu with hu
                  rw [← hu, kB_u hqok]
                subst hue
                have hz3 := hb3.size
                have du' : ∀ o, (wr.alloc o).cell? (ad3.add k) = some (.int .u8 q.k) := fun o => Lib.cell?_alloc_some _ du
                have HH := Lib.hid (And.intro hb3 hbx)
                clear hq hqok hu du hb3 hbx
                rw [hA2]
                go_wp2
                go_quiet (fail)
                go_wp2
                exact ⟨⟨k + 1, by omega, by go_num, bdr (ball HH.out.1 _) _⟩, by simp [intOf]; omega⟩
              · obtain rfl : k = t.n := by omega
                go_wp2
                exact ⟨⟨i + 1, _, rfl, by omega, by go_num, bto0 HT.out.2.2.2.2.1 hbx, by first | exact HZ.out | exact .inl ⟨rfl, HZ.out⟩⟩, by simp [intOf]; omega⟩
          · have HZ : Hid (fstT nm l 0 = fstT nm (l.drop (i + 1)) (i + 1)) := Lib.hid (by rw [hf, HT.out.2.2.2.1, if_neg h1])
            clear hgrn hf h1
            go_wp2_with fail
            refine (KD.out _ (ball (Below.refl _ _) _)).mono ?_
            rintro e w2 ⟨A2, c2, rfl, own2, hb2⟩
            rw [List.length_map, HT.out.2.2.1] at own2 ⊢
            have X2 := (Blk.new wo 31 #[.string t.nm, .slice t.A t.n t.c, .int .u32 t.f, .int .i64 t.r, .int .i64 t.p]).below hb2 (by simp)
            have g1 : w2.cell? ⟨wo.heap.size, 1, none⟩ = some (.slice t.A t.n t.c) := X2.cell 1
            have hbw2 : Below wo.heap.size wo w2 := bto0 (ball (Below.refl _ _) _) hb2
            have H2 := Lib.hid (And.intro own2.reads.1 hbw2)
            have tnI : (t.n : Int) ≤ 3000 := by have := HT.out.2.1; omega
            clear own2 X2 hb2 hbw2 d0 d1 d2 d3 d4
            go_wp2
            go_loopw [42] (fun v wr => ∃ k : Nat, k ≤ t.n ∧ v = .int .i64 k ∧ Below w2.heap.size w2 wr) (fun v _ => t.n - (intOf v).toNat)
            case atStart => exact ⟨0, by omega, rfl, Below.refl _ _⟩
            case round =>
              obtain ⟨k, hk, rfl, hb3⟩ := hrel
              have k0 : (0 : Int) ≤ (k : Int) := by omega
              have hbx : Below wo.heap.size wo wr := bto0 H2.out.2 hb3
              clear g1
              by_cases hkt : k < t.n
              · have k1 : (k : Int) < (t.n : Int) := by omega
                obtain ⟨ad2, q, hA2, hab2, hq, f0, f1, f2, f3⟩ := (HT.out.1.2.2.1.below (hbx.mono hbwz)).cl_ hkt
                have hqok := HT.out.1.2.2.2 q (List.mem_of_getElem? hq)
                obtain ⟨ad3, u, rfl, hab3, hu, du⟩ := (H2.out.1.below hb3).at_ hkt
                have hue : u = .int .u8 q.k := by
                  unfold bL at hu
                  rw [List.getElem?_map, List.getElem?_map, hq] at hu
                  injection hu with hu
                  rw [← hu, kB_u hqok]
                subst hue
                have hz3 := hb3.size
                have du' : ∀ o, (wr.alloc o).cell? (ad3.add k) = some (.int .u8 q.k) := fun o => Lib.cell?_alloc_some _ du
                have HH := Lib.hid (And.intro hb3 hbx)
                clear hq hqok hu du hb3 hbx
                rw [hA2]
                go_wp2
                go_quiet (fail)
                go_wp2
                exact ⟨⟨k + 1, by omega, by go_num, bdr (ball HH.out.1 _) _⟩, by simp [intOf]; omega⟩
              · obtain rfl : k = t.n := by omega
                go_wp2
                exact ⟨⟨i + 1, _, rfl, by omega, by go_num, bto0 HT.out.2.2.2.2.1 hbx, by first | exact HZ.out | exact .inl ⟨rfl, HZ.out⟩⟩, by simp [intOf]; omega⟩
        · have HZ := Lib.hid (hgrn x hxe.symm hx0)
          have hxn : ¬ x < 0 := by omega
          clear hgrn hxe
          go_wp2_with fail
          refine (KD.out _ (ball (Below.refl _ _) _)).mono ?_
          rintro e w2 ⟨A2, c2, rfl, own2, hb2⟩
          rw [List.length_map, HT.out.2.2.1] at own2 ⊢
          have X2 := (Blk.new wo 31 #[.string t.nm, .slice t.A t.n t.c, .int .u32 t.f, .int .i64 t.r, .int .i64 t.p]).below hb2 (by simp)
          have g1 : w2.cell? ⟨wo.heap.size, 1, none⟩ = some (.slice t.A t.n t.c) := X2.cell 1
          have hbw2 : Below wo.heap.size wo w2 := bto0 (ball (Below.refl _ _) _) hb2
          have H2 := Lib.hid (And.intro own2.reads.1 hbw2)
          have tnI : (t.n : Int) ≤ 3000 := by have := HT.out.2.1; omega
          clear own2 X2 hb2 hbw2 d0 d1 d2 d3 d4
          go_wp2
          go_loopw [42] (fun v wr => ∃ k : Nat, k ≤ t.n ∧ v = .int .i64 k ∧ Below w2.heap.size w2 wr) (fun v _ => t.n - (intOf v).toNat)
          case atStart => exact ⟨0, by omega, rfl, Below.refl _ _⟩
          case round =>
            obtain ⟨k, hk, rfl, hb3⟩ := hrel
            have k0 : (0 : Int) ≤ (k : Int) := by omega
            have hbx : Below wo.heap.size wo wr := bto0 H2.out.2 hb3
            clear g1
            by_cases hkt : k < t.n
            · have k1 : (k : Int) < (t.n : Int) := by omega
              obtain ⟨ad2, q, hA2, hab2, hq, f0, f1, f2, f3⟩ := (HT.out.1.2.2.1.below (hbx.mono hbwz)).cl_ hkt
              have hqok := HT.out.1.2.2.2 q (List.mem_of_getElem? hq)
              obtain ⟨ad3, u, rfl, hab3, hu, du⟩ := (H2.out.1.below hb3).at_ hkt
              have hue : u = .int .u8 q.k := by
                unfold bL at hu
                rw [List.getElem?_map, List.getElem?_map, hq] at hu
                injection hu with hu
                rw [← hu, kB_u hqok]
              subst hue
              have hz3 := hb3.size
              have du' : ∀ o, (wr.alloc o).cell? (ad3.add k) = some (.int .u8 q.k) := fun o => Lib.cell?_alloc_some _ du
              have HH := Lib.hid (And.intro hb3 hbx)
              clear hq hqok hu du hb3 hbx
              rw [hA2]
              go_wp2
              go_quiet (fail)
              go_wp2
              exact ⟨⟨k + 1, by omega, by go_num, bdr (ball HH.out.1 _) _⟩, by simp [intOf]; omega⟩
            · obtain rfl : k = t.n := by omega
              go_wp2
              exact ⟨⟨i + 1, _, rfl, by omega, by go_num, bto0 HT.out.2.2.2.2.1 hbx, by first | exact HZ.out | exact .inl ⟨rfl, HZ.out⟩⟩, by simp [intOf]; omega⟩
      · obtain rfl : i = n := by omega
        have hxe : x = fstT nm l 0 := by
          rcases hx with ⟨rfl, hf⟩ | ⟨_, h⟩
          · rw [hf, List.drop_eq_nil_of_le (by have := HR.out.2.2.1; omega)]; rfl
          · exact h
        subst hxe
        clear hx
        go_wp2_with fail
        refine (FX.out _).mono ?_
        rintro e w3 ⟨rfl, hb3⟩
        have hbk3 := hbk.below hb3 hbk.lt
        have e0 : w3.cell? ⟨w.heap.size, 0, none⟩ = some (.slice A i c) := hbk3.cell 0
        have e1 : w3.cell? ⟨w.heap.size, 1, none⟩ = some (.slice B m d) := hbk3.cell 1
        have hbw3 := bto0 hbw hb3
        have FD := Lib.hid (find_any A i c l (.slice B m d) nm w3 ((HR.out.1.below hbw3).more hbw3.size) HR.out.2.2.2)
        have H3 := Lib.hid hbw3
        clear b0 b1 hbk hbk3 hbw3 hb3 hb hbw
        go_wp2_with fail
        refine FD.out.mono ?_
        rintro e w4 ⟨rfl, hb4⟩
        go_wp2
        go_ret
        exact ⟨rfl, bto0 H3.out hb4⟩
end Go.Proofs.Ytgfgiejoepkgdaa
