
/-
  ShapeTotal: the reference's Total.
-/
import Derived.Test.YthpggfcindnlcaaGreatDoorQd
import Derived.Deep.DeepCutAuto
import Derived.Deep.RegionWith
set_option linter.unusedSimpArgs false
set_option linter.unusedVariables false
namespace Go.Proofs.YthpggfcindnlcaaGreatDoor
open Go.RowKit

def betR (mn mx : Bool) (v m : Vl) : Bool := (mn && lessV v m) || (mx && lessV m v)
def bstR (mn mx : Bool) : Vl → List Vl → Vl
  | m, [] => m
  | m, v :: t => bstR mn mx (if betR mn mx v m = true then v else m) t
def extR (mn mx : Bool) : List Vl → Vl
  | [] => ⟨0, 0, ⟨#[]⟩⟩
  | x :: t => bstR mn mx x t
theorem bstR_snoc (mn mx : Bool) (v : Vl) : ∀ (l : List Vl) (m : Vl), bstR mn mx m (l ++ [v]) = if betR mn mx v (bstR mn mx m l) = true then v else bstR mn mx m l
  | [], m => rfl
  | x :: t, m => bstR_snoc mn mx v t _
theorem extR_snoc (mn mx : Bool) (v : Vl) (l : List Vl) : extR mn mx (l ++ [v]) = if ((decide (l.length = 0)) || betR mn mx v (extR mn mx l)) = true then v else extR mn mx l := by
  cases l with
  | nil => rfl
  | cons x t =>
    show bstR mn mx x (t ++ [v]) = _
    rw [bstR_snoc]
    simp [extR]
theorem bstR_min : ∀ (l : List Vl) (m : Vl), bstR true false m l = bst false m l
  | [], _ => rfl
  | v :: t, m => by
    have e : betR true false v m = bet false v m := by simp [betR, bet, lessV_cmp]
    rw [bstR, bst, e]
    exact bstR_min t _
theorem bstR_max : ∀ (l : List Vl) (m : Vl), bstR false true m l = bst true m l
  | [], _ => rfl
  | v :: t, m => by
    have e : betR false true v m = bet true v m := by simp [betR, bet, lessV_cmp2]
    rw [bstR, bst, e]
    exact bstR_max t _
theorem extR_min (l : List Vl) : extR true false l = extV false l := by cases l with | nil => rfl | cons x t => exact bstR_min t x
theorem extR_max (l : List Vl) : extR false true l = extV true l := by cases l with | nil => rfl | cons x t => exact bstR_max t x
/-- What the reference's Total holds. -/
structure RT (w wr : World) (NB : Nat) (b : Vl) (sg : Int) (Ao : Option Addr) (no co : Nat) (lo : List Nat) : Prop where
  z : Blk wr w.heap.size 26 #[.int .u8 0, .int .i64 0, .string ⟨#[]⟩]
  z6 : Blk wr (w.heap.size + 1) 26 #[.int .u8 0, .int .i64 0, .string ⟨#[]⟩]
  bb : Blk wr (w.heap.size + 2) 26 #[.int .u8 b.k, .int .i64 b.i, .string b.s]
  nb : Blk wr NB 52 #[.int .i64 sg, .slice Ao no co]
  rd : Reads wr wr.heap.size 1 Ao no (vD lo)
  dk : dok lo
  nc : no ≤ co
  ll : lo.length = no
  sg1 : sg = 1 ∨ sg = -1
  hb : Below w.heap.size w wr
  lN : w.heap.size + 2 < NB
section
variable {w wr wr' : World} {NB no co : Nat} {b v : Vl} {sg : Int} {Ao : Option Addr} {lo : List Nat}
theorem RT.below (h : RT w wr NB b sg Ao no co lo) (hb : Below wr.heap.size wr wr') : RT w wr' NB b sg Ao no co lo :=
  ⟨h.z.below hb h.z.lt, h.z6.below hb h.z6.lt, h.bb.below hb h.bb.lt, h.nb.below hb h.nb.lt, h.rd.up hb, h.dk, h.nc, h.ll, h.sg1, bto0 h.hb hb, h.lN⟩
theorem reads_val {g : Nat} {t : TypeId} {k i : Int} {s : ByteArray} {n : Nat} {A : Option Addr} {l : List Nat} (h : Reads wr wr.heap.size 1 A n (vD l)) (hb : Blk wr g t #[.int .u8 k, .int .i64 i, .string s]) : ∀ ad, A = some ad → 0 < n → ad.block ≠ g := by
  intro ad e h0 hg
  obtain ⟨ad', e', _, hc⟩ := h.2 h0
  rw [e] at e'
  obtain rfl := Option.some.inj e'
  have hl : (vD l).length = n := by rw [h.1]; omega
  obtain ⟨d, hd⟩ : ∃ d : Nat, (vD l)[0]? = some (.int .u64 (d : Int)) := by
    rw [vD_len] at hl
    cases l with
    | nil => simp at hl; omega
    | cons d t => exact ⟨d, rfl⟩
  have h1 := hc 0 _ hd
  rw [Addr.add_zero'] at h1
  unfold World.cell? at h1
  rw [hg] at h1
  unfold Blk at hb
  rw [hb] at h1
  obtain ⟨bl, off, sp⟩ := ad
  dsimp only at h1
  rcases off with _ | _ | _ | off <;> cases sp <;> simp at h1
theorem RT.best (h : RT w wr NB b sg Ao no co lo) : RT w (((wr.setCell ⟨w.heap.size + 2, 0, none⟩ (.int .u8 v.k)).setCell ⟨w.heap.size + 2, 1, none⟩ (.int .i64 v.i)).setCell ⟨w.heap.size + 2, 2, none⟩ (.string v.s)) NB v sg Ao no co lo := by
  have hn := h.lN
  have f := reads_val h.rd h.bb
  refine ⟨((h.z.far (by simp) _).far (by simp) _).far (by simp) _, ((h.z6.far (by simp) _).far (by simp) _).far (by simp) _, ?_, ((h.nb.far (by simp; omega) _).far (by simp; omega) _).far (by simp; omega) _, ((h.rd.sf f _).sf f _).sf f _, h.dk, h.nc, h.ll, h.sg1, ((h.hb.setCell (by simp) _).setCell (by simp) _).setCell (by simp) _, h.lN⟩
  have T := ((h.bb.set_ 0 (.int .u8 v.k)).set_ 1 (.int .i64 v.i)).set_ 2 (.string v.s)
  simp only [List.setIfInBounds_toArray, List.set_cons_zero, List.set_cons_succ] at T
  exact T
theorem RT.num {sg7 : Int} {A7 : Option Addr} {n7 c7 : Nat} {l7 : List Nat} (h : RT w wr NB b sg Ao no co lo) (hr : Reads wr wr.heap.size 1 A7 n7 (vD l7)) (hk : dok l7) (hc : n7 ≤ c7) (hl : l7.length = n7) (hs : sg7 = 1 ∨ sg7 = -1) :
    RT w ((wr.setCell ⟨NB, 0, none⟩ (.int .i64 sg7)).setCell ⟨NB, 1, none⟩ (.slice A7 n7 c7)) NB b sg7 A7 n7 c7 l7 := by
  have g5 := hr.offN h.nb
  have hN := h.lN
  refine ⟨(h.z.far (by simp; omega) _).far (by simp; omega) _, (h.z6.far (by simp; omega) _).far (by simp; omega) _, (h.bb.far (by simp; omega) _).far (by simp; omega) _, ?_, (hr.sf g5 _).sf g5 _, hk, hc, hl, hs, (h.hb.setCell (by simp; omega) _).setCell (by simp; omega) _, hN⟩
  have T := (h.nb.set_ 0 (.int .i64 sg7)).set_ 1 (.slice A7 n7 c7)
  simp only [List.setIfInBounds_toArray, List.set_cons_zero, List.set_cons_succ] at T
  exact T
end
set_option maxRecDepth 100000 in
set_option maxHeartbeats 16000000 in
theorem rtotal_any {w : World} {A : Option Addr} {n c : Nat} {l : List Vl} (op : ByteArray) (hr : Reads w w.heap.size 3 A n (vV l)) (hn : n ≤ 9000) (hok : ∀ v ∈ l, v.ok) (hsz : ∀ v ∈ l, v.s.size ≤ 1000000) :
    Calls Tryz.prog 8 #[.string op, .slice A n c] w (RetB w (.tuple #[(totV op l).1.agg, .bool (totV op l).2])) := by
  have hl : l.length = n := by have := hr.1; rw [vV_len] at this; omega
  have nI : (n : Int) ≤ 9000 := by omega
  have HL := Lib.hid (And.intro hl (And.intro hok hsz))
  obtain ⟨SV, hSV⟩ : ∃ SV, totV op l = SV := ⟨_, rfl⟩
  rw [hSV]
  have HSV := Lib.hid hSV
  have HWh : Hid (∀ W, Calls Tryz.prog 15 #[.int .u64 (0 : Nat)] W (RetN W 1 0 4)) := fun W => whole_any 0 (by omega) W
  obtain ⟨mn, hmn⟩ : ∃ mn, (op.toList == [77, 73, 78]) = mn := ⟨_, rfl⟩
  obtain ⟨mx, hmx⟩ : ∃ mx, (op.toList == [77, 65, 88]) = mx := ⟨_, rfl⟩
  have HM := Lib.hid (And.intro hmn hmx)
  clear hl hok hsz hSV hmn hmx
  go_enter Tryz.func8, Tryz.ntmps8
  go_wp2_with fail
  refine (HWh.out _).mono ?_
  rintro e w3 ⟨v3, rfl, ⟨A3, n3, c3, l3, rfl, hr3, hnc3, hnm3, hok3, hdv3, hl3⟩, hb3⟩
  have b0 : Below w.heap.size w (((w.alloc (.cells #[.int .u8 0, .int .i64 0, .string ⟨#[]⟩] 26)).alloc (.cells #[.int .u8 0, .int .i64 0, .string ⟨#[]⟩] 26)).alloc (.cells #[.int .u8 0, .int .i64 0, .string ⟨#[]⟩] 26)) := ball (ball (ball (Below.refl _ _) _) _) _
  have B0 : Blk (((w.alloc (.cells #[.int .u8 0, .int .i64 0, .string ⟨#[]⟩] 26)).alloc (.cells #[.int .u8 0, .int .i64 0, .string ⟨#[]⟩] 26)).alloc (.cells #[.int .u8 0, .int .i64 0, .string ⟨#[]⟩] 26)) w.heap.size 26 #[.int .u8 0, .int .i64 0, .string ⟨#[]⟩] := ((Blk.new _ _ _).alloc _).alloc _
  have B1 : Blk (((w.alloc (.cells #[.int .u8 0, .int .i64 0, .string ⟨#[]⟩] 26)).alloc (.cells #[.int .u8 0, .int .i64 0, .string ⟨#[]⟩] 26)).alloc (.cells #[.int .u8 0, .int .i64 0, .string ⟨#[]⟩] 26)) (w.heap.size + 1) 26 #[.int .u8 0, .int .i64 0, .string ⟨#[]⟩] := (Blk.newAt (by simp)).alloc _
  have B2 : Blk (((w.alloc (.cells #[.int .u8 0, .int .i64 0, .string ⟨#[]⟩] 26)).alloc (.cells #[.int .u8 0, .int .i64 0, .string ⟨#[]⟩] 26)).alloc (.cells #[.int .u8 0, .int .i64 0, .string ⟨#[]⟩] 26)) (w.heap.size + 2) 26 #[.int .u8 0, .int .i64 0, .string ⟨#[]⟩] := Blk.newAt (by simp)
  have zz := hb3.size
  simp at zz
  have F0 : RT w (w3.alloc (.cells #[.int .i64 1, .slice A3 n3 c3] 52)) w3.heap.size ⟨0, 0, ⟨#[]⟩⟩ 1 A3 n3 c3 l3 :=
    ⟨(B0.below hb3 B0.lt).alloc _, (B1.below hb3 B1.lt).alloc _, (B2.below hb3 B2.lt).alloc _, Blk.new _ _ _, hr3.al _, hok3, hnc3, hl3, .inl rfl, ball (bto0 b0 hb3) _, by omega⟩
  have HF := Lib.hid (And.intro F0 hdv3)
  clear F0 B0 B1 B2 b0 hb3 hr3 hok3 hnc3 hl3 hdv3 zz
  go_wp2_with fail
  obtain ⟨W0, hW0⟩ : ∃ W0, w3.alloc (.cells #[.int .i64 1, .slice A3 n3 c3] 52) = W0 := ⟨_, rfl⟩
  rw [hW0] at HF ⊢
  clear hW0
  obtain ⟨NB, hNB⟩ : ∃ NB, w3.heap.size = NB := ⟨_, rfl⟩
  rw [hNB] at HF ⊢
  clear hNB HWh
  go_loopw [7, 10, 11, 12, 20] (fun u7 u10 u11 u12 u20 wr => ∃ (k : Nat) (b : Vl) (sg : Int) (Ao : Option Addr) (no co : Nat) (lo : List Nat), u20 = .int .i64 k ∧ k ≤ n ∧ u7 = .int .i64 (nnV (l.take k)).length ∧ u10 = .bool ((nnV (l.take k)).all fun v => decide (v.k = 1)) ∧ (l.take k).all mayV = true ∧ b = extR mn mx (nnV (l.take k)) ∧ b.s.size ≤ 1000000 ∧ no ≤ k + 5 ∧ sg * ((dv lo : Nat) : Int) = ((nnV (l.take k)).map Vl.i).sum ∧ RT w wr NB b sg Ao no co lo) (fun _ _ _ _ u20 _ => n - (intOf u20).toNat)
  case atStart => exact ⟨0, ⟨0, 0, ⟨#[]⟩⟩, 1, A3, n3, c3, l3, rfl, by omega, rfl, rfl, rfl, rfl, by decide, by omega, by rw [HF.out.2]; simp [nnV], HF.out.1⟩
  case round =>
    obtain ⟨wo, rfl⟩ : ∃ wo : World, wo = wr := ⟨_, rfl⟩
    obtain ⟨k, b, sg, Ao, no, co, lo, rfl, hk, rfl, rfl, hall, hbst, hbs, hno, hsum, rt⟩ := hrel
    have k0 : (0 : Int) ≤ (k : Int) := by omega
    by_cases hlt : k < n
    · have k1 : (k : Int) < (n : Int) := by omega
      obtain ⟨ad, v, rfl, had, hv, d0, d1, d2⟩ := (hr.below rt.hb).val hlt
      have hvo := HL.out.2.1 v (List.mem_of_getElem? hv)
      have hvs := HL.out.2.2 v (List.mem_of_getElem? hv)
      have MA := Lib.hid (rmay_any v hvo)
      have LV := Lib.hid fun W => rLess_any v b W hvs hbs
      have LB := Lib.hid fun W => rLess_any b v W hbs hvs
      have OF := Lib.hid fun W => of_any v.i W hvo.2.1.1 hvo.2.1.2
      have X := Blk.new wo 26 #[.int .u8 v.k, .int .i64 v.i, .string v.s]
      have ba := ball (Below.refl wo.heap.size wo) (.cells #[.int .u8 v.k, .int .i64 v.i, .string v.s] 26)
      have hal : (l.take (k + 1)).all mayV = mayV v := by rw [List.take_add_one, hv, List.all_append, hall]; simp
      have htk := nnV_snoc hv
      have hln : (nnV (l.take k)).length ≤ k := by have := nnV_len (l.take k); rw [List.length_take] at this; omega
      have hzz := rt.hb.size
      obtain ⟨P, hP⟩ : ∃ P, nnV (l.take k) = P := ⟨_, rfl⟩
      rw [hP] at hbst hsum htk hln ⊢
      obtain ⟨nb, hnb⟩ : ∃ nb, (P.all fun v => decide (v.k = 1)) = nb := ⟨_, rfl⟩
      rw [hnb]
      obtain ⟨m, hm⟩ : ∃ m, P.length = m := ⟨_, rfl⟩
      rw [hm] at hln ⊢
      have m0 : (m : Int) ≤ 9000 := by omega
      have HQ := Lib.hid (And.intro rt (And.intro X (And.intro ba (And.intro hal (And.intro htk (And.intro hv (And.intro hbst (And.intro hbs (And.intro hno (And.intro hsum (And.intro hnb (And.intro hm (And.intro hvs hP)))))))))))))
      clear rt X ba hal htk hv hbst hbs hno hsum hnb hm hvo hvs hall hP
      go_wp2_with fail
      refine (MA.out _).mono ?_
      rintro e w2 ⟨rfl, hb2⟩
      have b2 := bto0 HQ.out.2.2.1 hb2
      have X2 := HQ.out.2.1.below hb2 HQ.out.2.1.lt
      have rt2 := HQ.out.1.below b2
      have x0 : w2.cell? ⟨wo.heap.size, 0, none⟩ = some (.int .u8 v.k) := X2.cell 0
      have x1 : w2.cell? ⟨wo.heap.size, 1, none⟩ = some (.int .i64 v.i) := X2.cell 1
      have x2 : w2.cell? ⟨wo.heap.size, 2, none⟩ = some (.string v.s) := X2.cell 2
      have hx2 := X2.lt
      have H2 := Lib.hid (And.intro rt2 X2)
      clear hb2 b2 X2 rt2 MA
      have hw2 : w.heap.size + 2 < w2.heap.size := H2.out.1.bb.lt
      cases hmv : mayV v
      · have hs : SV = (⟨0, 0, ⟨#[]⟩⟩, false) := by
          rw [← HSV.out]
          unfold totV
          rw [if_neg]
          intro h
          have := List.all_eq_true.1 h v (List.mem_of_getElem? HQ.out.2.2.2.2.2.1)
          rw [hmv] at this
          cases this
        subst hs
        have z0 := H2.out.1.z.cell 0
        have g0 := H2.out.1.z.frozen 0
        have z1 := H2.out.1.z.cell 1
        have g1 := H2.out.1.z.frozen 1
        have z2 := H2.out.1.z.cell 2
        have g2 := H2.out.1.z.frozen 2
        simp at z0 z1 z2
        have y0 := H2.out.1.z6.cell 0
        have f0 := H2.out.1.z6.frozen 0
        have y1 := H2.out.1.z6.cell 1
        have f1 := H2.out.1.z6.frozen 1
        have y2 := H2.out.1.z6.cell 2
        have f2 := H2.out.1.z6.frozen 2
        simp at y0 y1 y2
        clear HSV
        go_wp2
        obtain ⟨W5, hW5⟩ : ∃ W5, ((w2.setCell ⟨w.heap.size, 0, none⟩ (.int .u8 0)).setCell ⟨w.heap.size, 1, none⟩ (.int .i64 0)).setCell ⟨w.heap.size, 2, none⟩ (.string ⟨#[]⟩) = W5 := ⟨_, rfl⟩
        have B5 : Blk W5 (w.heap.size) 26 #[.int .u8 0, .int .i64 0, .string ⟨#[]⟩] := by
          have T := ((H2.out.1.z.set_ 0 (.int .u8 0)).set_ 1 (.int .i64 0)).set_ 2 (.string ⟨#[]⟩)
          simp only [List.setIfInBounds_toArray, List.set_cons_zero, List.set_cons_succ] at T
          exact hW5 ▸ T
        have b5 : Below w.heap.size w W5 := hW5 ▸ ((H2.out.1.hb.setCell (by simp) _).setCell (by simp) _).setCell (by simp) _
        rw [hW5]
        clear hW5
        have p0 : W5.cell? ⟨w.heap.size, 0, none⟩ = some (.int .u8 0) := B5.cell 0
        have p1 : W5.cell? ⟨w.heap.size, 1, none⟩ = some (.int .i64 0) := B5.cell 1
        have p2 : W5.cell? ⟨w.heap.size, 2, none⟩ = some (.string ⟨#[]⟩) := B5.cell 2
        exact bodyPost_ret (v := .tuple #[.agg #[.int .u8 0, .int .i64 0, .string ⟨#[]⟩], .bool false]) (by simp [results, Tryz.results8, go_sem, p0, p1, p2]) rfl ⟨rfl, b5⟩
      · by_cases hk0 : v.k = 0
        · have e1 : (v.k == 0) = true := by rw [hk0]; rfl
          have hk0' := Lib.hid hk0
          clear hk0
          go_wp2
          have ht : nnV (l.take (k + 1)) = P := by rw [HQ.out.2.2.2.2.1, if_pos hk0'.out]
          exact ⟨⟨k + 1, b, sg, Ao, no, co, lo, by go_num, by omega, by rw [ht, HQ.out.2.2.2.2.2.2.2.2.2.2.2.1], by rw [ht, HQ.out.2.2.2.2.2.2.2.2.2.2.1], by rw [HQ.out.2.2.2.1]; exact hmv, by rw [ht]; exact HQ.out.2.2.2.2.2.2.1, HQ.out.2.2.2.2.2.2.2.1, by have := HQ.out.2.2.2.2.2.2.2.2.1; omega, by rw [ht]; exact HQ.out.2.2.2.2.2.2.2.2.2.1, H2.out.1⟩, by simp [intOf]; omega⟩
        · have e1 : (v.k == 0) = false := by simpa using hk0
          have hk0' := Lib.hid hk0
          clear hk0
          obtain ⟨B, hB⟩ : ∃ B, ((decide (m = 0)) || betR mn mx v b) = B := ⟨_, rfl⟩
          have HB := Lib.hid hB
          clear hB
          go_upto_region 13 with fail
          go_cut [53] (fun s53 wx => s53 = .bool B ∧ RT w wx NB b sg Ao no co lo ∧ Blk wx wo.heap.size 26 #[.int .u8 v.k, .int .i64 v.i, .string v.s])
          case first =>
            have y0 : w2.cell? ⟨w.heap.size + 2, 0, none⟩ = some (.int .u8 b.k) := H2.out.1.bb.cell 0
            have y1 : w2.cell? ⟨w.heap.size + 2, 1, none⟩ = some (.int .i64 b.i) := H2.out.1.bb.cell 1
            have y2 : w2.cell? ⟨w.heap.size + 2, 2, none⟩ = some (.string b.s) := H2.out.1.bb.cell 2
            have hy2 := H2.out.1.bb.lt
            have em := HM.out.1
            have ex := HM.out.2
            have hB := HB.out
            by_cases hm0 : m = 0
            · have e2 : ((m : Int) == 0) = true := by rw [hm0]; rfl
              obtain rfl : B = true := by rw [← hB]; simp [hm0]
              clear hm0 hB em ex
              go_wp2_with fail
              go_meet
              case rel => exact ⟨rfl, H2.out.1, H2.out.2⟩
            have e2 : ((m : Int) == 0) = false := by rw [beq_eq_false_iff_ne]; omega
            rw [show decide (m = 0) = false by simp [hm0], Bool.false_or] at hB
            unfold betR at hB
            clear hm0
            cases mn
            · rw [Bool.false_and, Bool.false_or] at hB
              cases mx
              · obtain rfl : B = false := by rw [← hB]; rfl
                clear hB
                go_wp2_with fail
                go_meet
                case rel => exact ⟨rfl, H2.out.1, H2.out.2⟩
              · rw [Bool.true_and] at hB
                go_wp2_with fail
                refine (LB.out _).mono ?_
                rintro e w4 ⟨rfl, hb4⟩
                rw [hB]
                have H4 := Lib.hid (And.intro (H2.out.1.below hb4) (H2.out.2.below hb4 H2.out.2.lt))
                clear hb4 y0 y1 y2 x0 x1 x2 hB
                go_wp2_with fail
                go_meet
                case rel => exact ⟨rfl, H4.out.1, H4.out.2⟩
            · obtain rfl : mx = false := by
                have h1 : op.toList = [77, 73, 78] := by simpa using em
                rw [← ex, h1]
                rfl
              rw [Bool.true_and, Bool.false_and, Bool.or_false] at hB
              go_wp2_with fail
              refine (LV.out _).mono ?_
              rintro e w4 ⟨rfl, hb4⟩
              rw [hB]
              have H4 := Lib.hid (And.intro (H2.out.1.below hb4) (H2.out.2.below hb4 H2.out.2.lt))
              clear hb4 y0 y1 y2 x0 x1 x2 hB
              cases B
              · go_wp2_with fail
                go_meet
                case rel => exact ⟨rfl, H4.out.1, H4.out.2⟩
              · go_wp2_with fail
                go_meet
                case rel => exact ⟨rfl, H4.out.1, H4.out.2⟩
          case rest =>
            obtain ⟨rfl, rt3, X3⟩ := hcut
            clear x0 x1 x2
            go_upto_if 53 with fail
            go_cut [] (fun wx => RT w wx NB (if B = true then v else b) sg Ao no co lo ∧ Blk wx wo.heap.size 26 #[.int .u8 v.k, .int .i64 v.i, .string v.s])
            case first =>
              have y0 : wc.cell? ⟨w.heap.size + 2, 0, none⟩ = some (.int .u8 b.k) := rt3.bb.cell 0
              have y1 : wc.cell? ⟨w.heap.size + 2, 1, none⟩ = some (.int .i64 b.i) := rt3.bb.cell 1
              have y2 : wc.cell? ⟨w.heap.size + 2, 2, none⟩ = some (.string b.s) := rt3.bb.cell 2
              have hy2 := rt3.bb.lt
              have x0 : wc.cell? ⟨wo.heap.size, 0, none⟩ = some (.int .u8 v.k) := X3.cell 0
              have x1 : wc.cell? ⟨wo.heap.size, 1, none⟩ = some (.int .i64 v.i) := X3.cell 1
              have x2 : wc.cell? ⟨wo.heap.size, 2, none⟩ = some (.string v.s) := X3.cell 2
              have f0 := rt3.bb.frozen 0
              have f1 := rt3.bb.frozen 1
              have f2 := rt3.bb.frozen 2
              have hne : wo.heap.size ≠ w.heap.size + 2 := by have := HQ.out.1.bb.lt; omega
              have H3 := Lib.hid (And.intro rt3 X3)
              clear rt3 X3
              cases B
              · go_wp2_with fail
                go_meet
                case rel => exact ⟨H3.out.1, H3.out.2⟩
              · go_wp2_with fail
                go_meet
                case rel => exact ⟨H3.out.1.best, ((H3.out.2.far (by simpa using hne) _).far (by simpa using hne) _).far (by simpa using hne) _⟩
            case rest =>
              obtain ⟨rt4, X4⟩ := hcut
              have hbn : (if B = true then v else b) = extR mn mx (P ++ [v]) := by rw [extR_snoc, ← HQ.out.2.2.2.2.2.2.1, HQ.out.2.2.2.2.2.2.2.2.2.2.2.1, HB.out]
              have hbz : (if B = true then v else b).s.size ≤ 1000000 := by
                split
                · exact HQ.out.2.2.2.2.2.2.2.2.2.2.2.2.1
                · exact HQ.out.2.2.2.2.2.2.2.1
              obtain ⟨b', hb'⟩ : ∃ b', (if B = true then v else b) = b' := ⟨_, rfl⟩
              rw [hb'] at rt4 hbn hbz
              have HN := Lib.hid (And.intro hbn hbz)
              clear hbn hbz hb'
              have x0 : wc.cell? ⟨wo.heap.size, 0, none⟩ = some (.int .u8 v.k) := X4.cell 0
              have x1 : wc.cell? ⟨wo.heap.size, 1, none⟩ = some (.int .i64 v.i) := X4.cell 1
              have x2 : wc.cell? ⟨wo.heap.size, 2, none⟩ = some (.string v.s) := X4.cell 2
              have hxl := X4.lt
              have n0 : wc.cell? ⟨NB, 0, none⟩ = some (.int .i64 sg) := rt4.nb.cell 0
              have n1 : wc.cell? ⟨NB, 1, none⟩ = some (.slice Ao no co) := rt4.nb.cell 1
              have nl := rt4.nb.lt
              have H4 := Lib.hid (And.intro rt4 X4)
              have hln2 := hln
              clear rt4 X4 LV LB
              have ht : nnV (l.take (k + 1)) = P ++ [v] := by rw [HQ.out.2.2.2.2.1, if_neg hk0'.out]
              have t1 : (nnV (l.take (k + 1))).length = m + 1 := by rw [ht, List.length_append, HQ.out.2.2.2.2.2.2.2.2.2.2.2.1]; rfl
              have t2 : ((nnV (l.take (k + 1))).all fun v => decide (v.k = 1)) = (nb && decide (v.k = 1)) := by rw [ht, List.all_append, HQ.out.2.2.2.2.2.2.2.2.2.2.1]; simp
              have t3 : ((nnV (l.take (k + 1))).map Vl.i).sum = sg * ((dv lo : Nat) : Int) + v.i := by rw [ht, List.map_append, List.sum_append, HQ.out.2.2.2.2.2.2.2.2.2.1]; simp
              have t4 : b' = extR mn mx (nnV (l.take (k + 1))) := by rw [ht]; exact HN.out.1
              have t5 : (l.take (k + 1)).all mayV = true := by rw [HQ.out.2.2.2.1]; exact hmv
              have t6 := HQ.out.2.2.2.2.2.2.2.2.1
              have HT := Lib.hid (And.intro t1 (And.intro t2 (And.intro t3 (And.intro t4 (And.intro t5 t6)))))
              clear ht t1 t2 t3 t4 t5 t6
              have hnn : no ≤ 10000 := by have := HQ.out.2.2.2.2.2.2.2.2.1; omega
              cases nb
              · go_wp2_with fail
                go_region_with (first
                  | (go_at_call 19; (with_reducible refine (OF.out _).mono ?_); rintro e w6 ⟨v6, sg6, x6, rfl, hsg6, hval6, ⟨A6, n6, c6, l6, rfl, hr6, hnc6, hnm6, hok6, hdv6, hl6⟩, hb6⟩; rw [← hdv6] at hval6; clear hdv6; have b6 : Below wc.heap.size wc w6 := bto0 (by with_reducible repeat (first | exact Below.refl _ _ | refine Below.drew ?_ | refine bdr ?_ _)) hb6; have rt6 := H4.out.1.below b6; have m0' : w6.cell? ⟨NB, 0, none⟩ = some (.int .i64 sg) := rt6.nb.cell 0; have m1' : w6.cell? ⟨NB, 1, none⟩ = some (.slice Ao no co) := rt6.nb.cell 1; have H6 := Lib.hid (And.intro rt6 (And.intro hr6 (And.intro hok6 (And.intro hsg6 (And.intro hval6 (And.intro hnc6 hl6)))))); clear hr6 hok6 hsg6 hval6 hl6 rt6 hb6 b6 hnc6)
                  | (go_at_call 18; (with_reducible refine (plus_any sg sg6 H6.out.1.sg1 H6.out.2.2.2.1 Ao no co lo A6 n6 c6 l6 _ (H6.out.1.rd.up (by with_reducible repeat (first | exact Below.refl _ _ | refine bdr ?_ _ | refine Below.drew ?_))) (H6.out.2.1.up (by with_reducible repeat (first | exact Below.refl _ _ | refine bdr ?_ _ | refine Below.drew ?_))) H6.out.1.dk H6.out.2.2.1 hnn (by omega) H6.out.1.nc H6.out.2.2.2.2.2.1).mono ?_); rintro e w7 ⟨v7, sg7, x7, rfl, hsg7, hval7, ⟨A7, n7, c7, l7, rfl, hr7, hnc7, hnm7, hok7, hdv7, hl7⟩, hb7⟩; rw [← hdv7] at hval7; clear hdv7; have b7 : Below w6.heap.size w6 w7 := bto0 (by with_reducible repeat (first | exact Below.refl _ _ | refine Below.drew ?_ | refine bdr ?_ _)) hb7; have rt7 := H6.out.1.below b7; have f70 := rt7.nb.frozen 0; have f71 := rt7.nb.frozen 1; have q70 : w7.cell? ⟨NB, 0, none⟩ = some (.int .i64 sg) := rt7.nb.cell 0; have q71 : w7.cell? ⟨NB, 1, none⟩ = some (.slice Ao no co) := rt7.nb.cell 1; have H7 := Lib.hid (And.intro rt7 (And.intro hr7 (And.intro hok7 (And.intro hsg7 (And.intro hval7 (And.intro hnc7 (And.intro hl7 hnm7))))))); clear hr7 hok7 hsg7 hval7 hl7 rt7 hb7 b7 hnc7 hnm7))
                all_goals go_wp2_with fail
                all_goals
                  have hn7 := H7.out.2.2.2.2.2.2.2
                  have ho := HT.out.2.2.2.2.2
                  refine ⟨⟨k + 1, b', sg7, A7, n7, c7, l7, by go_num, by omega, by rw [HT.out.1]; go_num, ?_, HT.out.2.2.2.2.1, HT.out.2.2.2.1, HN.out.2, by omega, ?_, H7.out.1.num H7.out.2.1 H7.out.2.2.1 H7.out.2.2.2.2.2.1 H7.out.2.2.2.2.2.2.1 H7.out.2.2.2.1⟩, by simp [intOf]; omega⟩
                  · rw [HT.out.2.1]
                    rfl
                  · rw [HT.out.2.2.1, H7.out.2.2.2.2.1, H6.out.2.2.2.2.1]
              · go_wp2_with fail
                go_region_with (first
                  | (go_at_call 19; (with_reducible refine (OF.out _).mono ?_); rintro e w6 ⟨v6, sg6, x6, rfl, hsg6, hval6, ⟨A6, n6, c6, l6, rfl, hr6, hnc6, hnm6, hok6, hdv6, hl6⟩, hb6⟩; rw [← hdv6] at hval6; clear hdv6; have b6 : Below wc.heap.size wc w6 := bto0 (by with_reducible repeat (first | exact Below.refl _ _ | refine Below.drew ?_ | refine bdr ?_ _)) hb6; have rt6 := H4.out.1.below b6; have m0' : w6.cell? ⟨NB, 0, none⟩ = some (.int .i64 sg) := rt6.nb.cell 0; have m1' : w6.cell? ⟨NB, 1, none⟩ = some (.slice Ao no co) := rt6.nb.cell 1; have H6 := Lib.hid (And.intro rt6 (And.intro hr6 (And.intro hok6 (And.intro hsg6 (And.intro hval6 (And.intro hnc6 hl6)))))); clear hr6 hok6 hsg6 hval6 hl6 rt6 hb6 b6 hnc6)
                  | (go_at_call 18; (with_reducible refine (plus_any sg sg6 H6.out.1.sg1 H6.out.2.2.2.1 Ao no co lo A6 n6 c6 l6 _ (H6.out.1.rd.up (by with_reducible repeat (first | exact Below.refl _ _ | refine bdr ?_ _ | refine Below.drew ?_))) (H6.out.2.1.up (by with_reducible repeat (first | exact Below.refl _ _ | refine bdr ?_ _ | refine Below.drew ?_))) H6.out.1.dk H6.out.2.2.1 hnn (by omega) H6.out.1.nc H6.out.2.2.2.2.2.1).mono ?_); rintro e w7 ⟨v7, sg7, x7, rfl, hsg7, hval7, ⟨A7, n7, c7, l7, rfl, hr7, hnc7, hnm7, hok7, hdv7, hl7⟩, hb7⟩; rw [← hdv7] at hval7; clear hdv7; have b7 : Below w6.heap.size w6 w7 := bto0 (by with_reducible repeat (first | exact Below.refl _ _ | refine Below.drew ?_ | refine bdr ?_ _)) hb7; have rt7 := H6.out.1.below b7; have f70 := rt7.nb.frozen 0; have f71 := rt7.nb.frozen 1; have q70 : w7.cell? ⟨NB, 0, none⟩ = some (.int .i64 sg) := rt7.nb.cell 0; have q71 : w7.cell? ⟨NB, 1, none⟩ = some (.slice Ao no co) := rt7.nb.cell 1; have H7 := Lib.hid (And.intro rt7 (And.intro hr7 (And.intro hok7 (And.intro hsg7 (And.intro hval7 (And.intro hnc7 (And.intro hl7 hnm7))))))); clear hr7 hok7 hsg7 hval7 hl7 rt7 hb7 b7 hnc7 hnm7))
                all_goals go_wp2_with fail
                all_goals
                  have hn7 := H7.out.2.2.2.2.2.2.2
                  have ho := HT.out.2.2.2.2.2
                  refine ⟨⟨k + 1, b', sg7, A7, n7, c7, l7, by go_num, by omega, by rw [HT.out.1]; go_num, ?_, HT.out.2.2.2.2.1, HT.out.2.2.2.1, HN.out.2, by omega, ?_, H7.out.1.num H7.out.2.1 H7.out.2.2.1 H7.out.2.2.2.2.2.1 H7.out.2.2.2.2.2.2.1 H7.out.2.2.2.1⟩, by simp [intOf]; omega⟩
                  · rw [HT.out.2.1]
                    rw [Bool.true_and]; congr 1
                  · rw [HT.out.2.2.1, H7.out.2.2.2.2.1, H6.out.2.2.2.2.1]
    · obtain rfl : n = k := by omega
      rw [List.take_of_length_le (by rw [HL.out.1]; exact Nat.le_refl _)] at hall hbst hsum ⊢
      have hsv := HSV.out
      unfold totV at hsv
      rw [if_pos hall] at hsv
      have hln := nnV_len l
      rw [HL.out.1] at hln
      obtain ⟨P, hP⟩ : ∃ P, nnV l = P := ⟨_, rfl⟩
      rw [hP] at hbst hsum hsv hln ⊢
      obtain ⟨nb, hnb⟩ : ∃ nb, (P.all fun v => decide (v.k = 1)) = nb := ⟨_, rfl⟩
      rw [hnb]
      obtain ⟨m, hm⟩ : ∃ m, P.length = m := ⟨_, rfl⟩
      rw [hm] at hln hsv ⊢
      have m9 : (m : Int) ≤ 9000 := by omega
      have em := HM.out.1
      have ex := HM.out.2
      rw [em, ex] at hsv
      obtain ⟨S, hS⟩ : ∃ S, (P.map Vl.i).sum = S := ⟨_, rfl⟩
      have RG := Lib.hid fun W (hW : Below wo.heap.size wo W) => right_any sg rt.sg1 Ao no co lo W (rt.rd.up hW) rt.dk (by omega) rt.nc
      rw [hsum, hS] at RG
      have z0 := rt.z.cell 0
      have g0 := rt.z.frozen 0
      have z1 := rt.z.cell 1
      have g1 := rt.z.frozen 1
      have z2 := rt.z.cell 2
      have g2 := rt.z.frozen 2
      simp at z0 z1 z2
      have y0 := rt.z6.cell 0
      have f0 := rt.z6.frozen 0
      have y1 := rt.z6.cell 1
      have f1 := rt.z6.frozen 1
      have y2 := rt.z6.cell 2
      have f2 := rt.z6.frozen 2
      simp at y0 y1 y2
      have t0 : wo.cell? ⟨w.heap.size + 2, 0, none⟩ = some (.int .u8 b.k) := rt.bb.cell 0
      have t1 : wo.cell? ⟨w.heap.size + 2, 1, none⟩ = some (.int .i64 b.i) := rt.bb.cell 1
      have t2 : wo.cell? ⟨w.heap.size + 2, 2, none⟩ = some (.string b.s) := rt.bb.cell 2
      have n0 : wo.cell? ⟨NB, 0, none⟩ = some (.int .i64 sg) := rt.nb.cell 0
      have n1 : wo.cell? ⟨NB, 1, none⟩ = some (.slice Ao no co) := rt.nb.cell 1
      have hzl := rt.z.lt
      have HQ := Lib.hid (And.intro rt (And.intro hbst (And.intro hnb (And.intro hm hS))))
      clear rt hbst hnb hm hS hall HSV hsum hP
      cases hO : (op.toList == [67, 79, 85, 78, 84])
      rotate_left
      · rw [hO, if_pos rfl] at hsv
        subst hsv
        clear em ex
        go_wp2
        obtain ⟨W5, hW5⟩ : ∃ W5, ((wo.setCell ⟨w.heap.size, 0, none⟩ (.int .u8 1)).setCell ⟨w.heap.size, 1, none⟩ (.int .i64 (m : Int))).setCell ⟨w.heap.size, 2, none⟩ (.string ⟨#[]⟩) = W5 := ⟨_, rfl⟩
        have B5 : Blk W5 (w.heap.size) 26 #[.int .u8 1, .int .i64 (m : Int), .string ⟨#[]⟩] := by
          have T := ((HQ.out.1.z.set_ 0 (.int .u8 1)).set_ 1 (.int .i64 (m : Int))).set_ 2 (.string ⟨#[]⟩)
          simp only [List.setIfInBounds_toArray, List.set_cons_zero, List.set_cons_succ] at T
          exact hW5 ▸ T
        have b5 : Below w.heap.size w W5 := hW5 ▸ ((HQ.out.1.hb.setCell (by simp) _).setCell (by simp) _).setCell (by simp) _
        rw [hW5]
        clear hW5
        have p0 : W5.cell? ⟨w.heap.size, 0, none⟩ = some (.int .u8 1) := B5.cell 0
        have p1 : W5.cell? ⟨w.heap.size, 1, none⟩ = some (.int .i64 (m : Int)) := B5.cell 1
        have p2 : W5.cell? ⟨w.heap.size, 2, none⟩ = some (.string ⟨#[]⟩) := B5.cell 2
        exact bodyPost_ret (v := .tuple #[.agg #[.int .u8 1, .int .i64 (m : Int), .string ⟨#[]⟩], .bool true]) (by simp [results, Tryz.results8, go_sem, p0, p1, p2]) rfl ⟨rfl, b5⟩
      rw [hO, if_neg (by simp)] at hsv
      have hmS : mn = true → (op.toList == [83, 85, 77]) = false ∧ mx = false := fun h => by
        rw [h] at em
        have h1 : op.toList = [77, 73, 78] := by simpa using em
        rw [← ex, h1]
        exact ⟨rfl, rfl⟩
      have hxS : mx = true → (op.toList == [83, 85, 77]) = false := fun h => by
        rw [h] at ex
        have h1 : op.toList = [77, 65, 88] := by simpa using ex
        rw [h1]
        rfl
      have HX := Lib.hid (And.intro hmS hxS)
      clear hmS hxS
      cases hmn : mn
      rotate_left
      · obtain ⟨hs, hx⟩ := HX.out.1 hmn
        rw [hmn] at em hsv
        rw [hx] at ex
        rw [hs, if_neg (by simp), if_pos rfl] at hsv
        have hbe : b = extV false P := by rw [HQ.out.2.1, hmn, hx, extR_min]
        rw [← hbe] at hsv
        subst hsv
        clear hs hx hbe
        go_wp2
        obtain ⟨W5, hW5⟩ : ∃ W5, ((wo.setCell ⟨w.heap.size, 0, none⟩ (.int .u8 b.k)).setCell ⟨w.heap.size, 1, none⟩ (.int .i64 b.i)).setCell ⟨w.heap.size, 2, none⟩ (.string b.s) = W5 := ⟨_, rfl⟩
        have B5 : Blk W5 (w.heap.size) 26 #[.int .u8 b.k, .int .i64 b.i, .string b.s] := by
          have T := ((HQ.out.1.z.set_ 0 (.int .u8 b.k)).set_ 1 (.int .i64 b.i)).set_ 2 (.string b.s)
          simp only [List.setIfInBounds_toArray, List.set_cons_zero, List.set_cons_succ] at T
          exact hW5 ▸ T
        have b5 : Below w.heap.size w W5 := hW5 ▸ ((HQ.out.1.hb.setCell (by simp) _).setCell (by simp) _).setCell (by simp) _
        rw [hW5]
        clear hW5
        have p0 : W5.cell? ⟨w.heap.size, 0, none⟩ = some (.int .u8 b.k) := B5.cell 0
        have p1 : W5.cell? ⟨w.heap.size, 1, none⟩ = some (.int .i64 b.i) := B5.cell 1
        have p2 : W5.cell? ⟨w.heap.size, 2, none⟩ = some (.string b.s) := B5.cell 2
        exact bodyPost_ret (v := .tuple #[b.agg, .bool true]) (by simp [results, Tryz.results8, go_sem, p0, p1, p2]) rfl ⟨rfl, b5⟩
      cases hmx : mx
      rotate_left
      · have hs := HX.out.2 hmx
        rw [hmx] at ex hsv
        rw [hmn] at em hsv
        rw [hs, if_neg (by simp), if_neg (by simp), if_pos rfl] at hsv
        have hbe : b = extV true P := by rw [HQ.out.2.1, hmn, hmx, extR_max]
        rw [← hbe] at hsv
        subst hsv
        clear hs hbe
        go_wp2
        obtain ⟨W5, hW5⟩ : ∃ W5, ((wo.setCell ⟨w.heap.size, 0, none⟩ (.int .u8 b.k)).setCell ⟨w.heap.size, 1, none⟩ (.int .i64 b.i)).setCell ⟨w.heap.size, 2, none⟩ (.string b.s) = W5 := ⟨_, rfl⟩
        have B5 : Blk W5 (w.heap.size) 26 #[.int .u8 b.k, .int .i64 b.i, .string b.s] := by
          have T := ((HQ.out.1.z.set_ 0 (.int .u8 b.k)).set_ 1 (.int .i64 b.i)).set_ 2 (.string b.s)
          simp only [List.setIfInBounds_toArray, List.set_cons_zero, List.set_cons_succ] at T
          exact hW5 ▸ T
        have b5 : Below w.heap.size w W5 := hW5 ▸ ((HQ.out.1.hb.setCell (by simp) _).setCell (by simp) _).setCell (by simp) _
        rw [hW5]
        clear hW5
        have p0 : W5.cell? ⟨w.heap.size, 0, none⟩ = some (.int .u8 b.k) := B5.cell 0
        have p1 : W5.cell? ⟨w.heap.size, 1, none⟩ = some (.int .i64 b.i) := B5.cell 1
        have p2 : W5.cell? ⟨w.heap.size, 2, none⟩ = some (.string b.s) := B5.cell 2
        exact bodyPost_ret (v := .tuple #[b.agg, .bool true]) (by simp [results, Tryz.results8, go_sem, p0, p1, p2]) rfl ⟨rfl, b5⟩
      rw [hmx] at ex hsv
      rw [hmn] at em hsv
      cases hSs : (op.toList == [83, 85, 77])
      · rw [hSs, if_neg (by simp), if_neg (by simp), if_neg (by simp)] at hsv
        subst hsv
        go_wp2
        obtain ⟨W5, hW5⟩ : ∃ W5, ((wo.setCell ⟨w.heap.size, 0, none⟩ (.int .u8 0)).setCell ⟨w.heap.size, 1, none⟩ (.int .i64 0)).setCell ⟨w.heap.size, 2, none⟩ (.string ⟨#[]⟩) = W5 := ⟨_, rfl⟩
        have B5 : Blk W5 (w.heap.size) 26 #[.int .u8 0, .int .i64 0, .string ⟨#[]⟩] := by
          have T := ((HQ.out.1.z.set_ 0 (.int .u8 0)).set_ 1 (.int .i64 0)).set_ 2 (.string ⟨#[]⟩)
          simp only [List.setIfInBounds_toArray, List.set_cons_zero, List.set_cons_succ] at T
          exact hW5 ▸ T
        have b5 : Below w.heap.size w W5 := hW5 ▸ ((HQ.out.1.hb.setCell (by simp) _).setCell (by simp) _).setCell (by simp) _
        rw [hW5]
        clear hW5
        have p0 : W5.cell? ⟨w.heap.size, 0, none⟩ = some (.int .u8 0) := B5.cell 0
        have p1 : W5.cell? ⟨w.heap.size, 1, none⟩ = some (.int .i64 0) := B5.cell 1
        have p2 : W5.cell? ⟨w.heap.size, 2, none⟩ = some (.string ⟨#[]⟩) := B5.cell 2
        exact bodyPost_ret (v := .tuple #[.agg #[.int .u8 0, .int .i64 0, .string ⟨#[]⟩], .bool false]) (by simp [results, Tryz.results8, go_sem, p0, p1, p2]) rfl ⟨rfl, b5⟩
      rw [hSs, if_pos rfl] at hsv
      unfold sumV at hsv
      by_cases hm0 : m = 0
      · have e2 : ((m : Int) == 0) = true := by rw [hm0]; rfl
        have hPe : P = [] := by
          have := HQ.out.2.2.2.1
          rw [hm0] at this
          exact List.eq_nil_of_length_eq_zero this
        rw [if_pos hPe] at hsv
        subst hsv
        clear hm0 hPe
        go_wp2
        obtain ⟨W5, hW5⟩ : ∃ W5, ((wo.setCell ⟨w.heap.size, 0, none⟩ (.int .u8 0)).setCell ⟨w.heap.size, 1, none⟩ (.int .i64 0)).setCell ⟨w.heap.size, 2, none⟩ (.string ⟨#[]⟩) = W5 := ⟨_, rfl⟩
        have B5 : Blk W5 (w.heap.size) 26 #[.int .u8 0, .int .i64 0, .string ⟨#[]⟩] := by
          have T := ((HQ.out.1.z.set_ 0 (.int .u8 0)).set_ 1 (.int .i64 0)).set_ 2 (.string ⟨#[]⟩)
          simp only [List.setIfInBounds_toArray, List.set_cons_zero, List.set_cons_succ] at T
          exact hW5 ▸ T
        have b5 : Below w.heap.size w W5 := hW5 ▸ ((HQ.out.1.hb.setCell (by simp) _).setCell (by simp) _).setCell (by simp) _
        rw [hW5]
        clear hW5
        have p0 : W5.cell? ⟨w.heap.size, 0, none⟩ = some (.int .u8 0) := B5.cell 0
        have p1 : W5.cell? ⟨w.heap.size, 1, none⟩ = some (.int .i64 0) := B5.cell 1
        have p2 : W5.cell? ⟨w.heap.size, 2, none⟩ = some (.string ⟨#[]⟩) := B5.cell 2
        exact bodyPost_ret (v := .tuple #[.agg #[.int .u8 0, .int .i64 0, .string ⟨#[]⟩], .bool true]) (by simp [results, Tryz.results8, go_sem, p0, p1, p2]) rfl ⟨rfl, b5⟩
      have e2 : ((m : Int) == 0) = false := by rw [beq_eq_false_iff_ne]; omega
      have hPe : P ≠ [] := fun h => by
        have := HQ.out.2.2.2.1
        rw [h] at this
        simp at this
        omega
      rw [if_neg hPe, HQ.out.2.2.1, HQ.out.2.2.2.2] at hsv
      clear hm0 hPe
      by_cases hrg : rngP S
      rotate_left
      · rw [numR_out hrg] at RG
        have hsv : SV = (⟨0, 0, ⟨#[]⟩⟩, false) := by
          rw [if_neg hrg] at hsv
          rw [← hsv]
          split <;> rfl
        clear hrg
        go_wp2_with fail
        refine (RG.out _ (Below.refl _ _)).mono ?_
        rintro e w5 ⟨rfl, hb5⟩
        have rt5 := HQ.out.1.below hb5
        have r0 := rt5.z.cell 0
        have s0 := rt5.z.frozen 0
        have r1 := rt5.z.cell 1
        have s1 := rt5.z.frozen 1
        have r2 := rt5.z.cell 2
        have s2 := rt5.z.frozen 2
        simp at r0 r1 r2
        have u0 := rt5.z6.cell 0
        have q0 := rt5.z6.frozen 0
        have u1 := rt5.z6.cell 1
        have q1 := rt5.z6.frozen 1
        have u2 := rt5.z6.cell 2
        have q2 := rt5.z6.frozen 2
        simp at u0 u1 u2
        have hzl5 := rt5.z.lt
        have H5 := Lib.hid rt5
        clear rt5 hb5 RG
        subst hsv
        go_wp2
        obtain ⟨W5, hW5⟩ : ∃ W5, ((w5.setCell ⟨w.heap.size, 0, none⟩ (.int .u8 0)).setCell ⟨w.heap.size, 1, none⟩ (.int .i64 0)).setCell ⟨w.heap.size, 2, none⟩ (.string ⟨#[]⟩) = W5 := ⟨_, rfl⟩
        have B5 : Blk W5 (w.heap.size) 26 #[.int .u8 0, .int .i64 0, .string ⟨#[]⟩] := by
          have T := ((H5.out.z.set_ 0 (.int .u8 0)).set_ 1 (.int .i64 0)).set_ 2 (.string ⟨#[]⟩)
          simp only [List.setIfInBounds_toArray, List.set_cons_zero, List.set_cons_succ] at T
          exact hW5 ▸ T
        have b5 : Below w.heap.size w W5 := hW5 ▸ ((H5.out.hb.setCell (by simp) _).setCell (by simp) _).setCell (by simp) _
        rw [hW5]
        clear hW5
        have p0 : W5.cell? ⟨w.heap.size, 0, none⟩ = some (.int .u8 0) := B5.cell 0
        have p1 : W5.cell? ⟨w.heap.size, 1, none⟩ = some (.int .i64 0) := B5.cell 1
        have p2 : W5.cell? ⟨w.heap.size, 2, none⟩ = some (.string ⟨#[]⟩) := B5.cell 2
        exact bodyPost_ret (v := .tuple #[.agg #[.int .u8 0, .int .i64 0, .string ⟨#[]⟩], .bool false]) (by simp [results, Tryz.results8, go_sem, p0, p1, p2]) rfl ⟨rfl, b5⟩

      · rw [numR_in hrg] at RG
        rw [if_pos hrg] at hsv
        clear hrg
        go_wp2_with fail
        refine (RG.out _ (Below.refl _ _)).mono ?_
        rintro e w5 ⟨rfl, hb5⟩
        have rt5 := HQ.out.1.below hb5
        have r0 := rt5.z.cell 0
        have s0 := rt5.z.frozen 0
        have r1 := rt5.z.cell 1
        have s1 := rt5.z.frozen 1
        have r2 := rt5.z.cell 2
        have s2 := rt5.z.frozen 2
        simp at r0 r1 r2
        have u0 := rt5.z6.cell 0
        have q0 := rt5.z6.frozen 0
        have u1 := rt5.z6.cell 1
        have q1 := rt5.z6.frozen 1
        have u2 := rt5.z6.cell 2
        have q2 := rt5.z6.frozen 2
        simp at u0 u1 u2
        have hzl5 := rt5.z.lt
        have H5 := Lib.hid rt5
        clear rt5 hb5 RG
        cases nb
        · rw [if_neg (by simp)] at hsv
          subst hsv
          go_wp2
          obtain ⟨W5, hW5⟩ : ∃ W5, ((w5.setCell ⟨w.heap.size, 0, none⟩ (.int .u8 0)).setCell ⟨w.heap.size, 1, none⟩ (.int .i64 0)).setCell ⟨w.heap.size, 2, none⟩ (.string ⟨#[]⟩) = W5 := ⟨_, rfl⟩
          have B5 : Blk W5 (w.heap.size) 26 #[.int .u8 0, .int .i64 0, .string ⟨#[]⟩] := by
            have T := ((H5.out.z.set_ 0 (.int .u8 0)).set_ 1 (.int .i64 0)).set_ 2 (.string ⟨#[]⟩)
            simp only [List.setIfInBounds_toArray, List.set_cons_zero, List.set_cons_succ] at T
            exact hW5 ▸ T
          have b5 : Below w.heap.size w W5 := hW5 ▸ ((H5.out.hb.setCell (by simp) _).setCell (by simp) _).setCell (by simp) _
          rw [hW5]
          clear hW5
          have p0 : W5.cell? ⟨w.heap.size, 0, none⟩ = some (.int .u8 0) := B5.cell 0
          have p1 : W5.cell? ⟨w.heap.size, 1, none⟩ = some (.int .i64 0) := B5.cell 1
          have p2 : W5.cell? ⟨w.heap.size, 2, none⟩ = some (.string ⟨#[]⟩) := B5.cell 2
          exact bodyPost_ret (v := .tuple #[.agg #[.int .u8 0, .int .i64 0, .string ⟨#[]⟩], .bool false]) (by simp [results, Tryz.results8, go_sem, p0, p1, p2]) rfl ⟨rfl, b5⟩
        · rw [if_pos rfl] at hsv
          subst hsv
          go_wp2
          obtain ⟨W5, hW5⟩ : ∃ W5, ((w5.setCell ⟨w.heap.size, 0, none⟩ (.int .u8 1)).setCell ⟨w.heap.size, 1, none⟩ (.int .i64 S)).setCell ⟨w.heap.size, 2, none⟩ (.string ⟨#[]⟩) = W5 := ⟨_, rfl⟩
          have B5 : Blk W5 (w.heap.size) 26 #[.int .u8 1, .int .i64 S, .string ⟨#[]⟩] := by
            have T := ((H5.out.z.set_ 0 (.int .u8 1)).set_ 1 (.int .i64 S)).set_ 2 (.string ⟨#[]⟩)
            simp only [List.setIfInBounds_toArray, List.set_cons_zero, List.set_cons_succ] at T
            exact hW5 ▸ T
          have b5 : Below w.heap.size w W5 := hW5 ▸ ((H5.out.hb.setCell (by simp) _).setCell (by simp) _).setCell (by simp) _
          rw [hW5]
          clear hW5
          have p0 : W5.cell? ⟨w.heap.size, 0, none⟩ = some (.int .u8 1) := B5.cell 0
          have p1 : W5.cell? ⟨w.heap.size, 1, none⟩ = some (.int .i64 S) := B5.cell 1
          have p2 : W5.cell? ⟨w.heap.size, 2, none⟩ = some (.string ⟨#[]⟩) := B5.cell 2
          exact bodyPost_ret (v := .tuple #[.agg #[.int .u8 1, .int .i64 S, .string ⟨#[]⟩], .bool true]) (by simp [results, Tryz.results8, go_sem, p0, p1, p2]) rfl ⟨rfl, b5⟩
end Go.Proofs.YthpggfcindnlcaaGreatDoor
