/-
  Several texts in one: Sq.
-/
import Derived.Test.YtdimkeoncgjegaaMfan
import Derived.Test.YtdimkeoncgjegaaMfae
import Derived.Test.YtdimkeoncgjegaaMfap
/-
  Slots of a heap page: the reference's Read.
-/
namespace Go.Proofs.Ytdimkeoncgjegaa
section
set_option linter.unusedSimpArgs false
set_option linter.unusedVariables false
open Go.RowKit

theorem two_val (l : List UInt8) (i : Nat) (h : i + 1 < l.length) : beVal ((l.drop i).take 2) = two l i := by
  have e : (l.drop i).take 2 = [l[i]'(by omega), l[i + 1]'h] := by
    rw [List.drop_eq_getElem_cons (by omega), List.drop_eq_getElem_cons h]; rfl
  rw [e]
  unfold two beVal
  rw [List.getD_eq_getElem?_getD, List.getD_eq_getElem?_getD, List.getElem?_eq_getElem (by omega), List.getElem?_eq_getElem h]
  simp
theorem endK_mono (l : List UInt8) (i e : Nat) (h : endK l i = some e) : ∀ j e', i ≤ j → endK l j = some e' → e' ≤ e := by
  intro j
  induction j with
  | zero => intro e' hj he; have : i = 0 := by omega
            subst this; rw [h] at he; injection he with he; omega
  | succ j ih =>
    intro e' hj he
    by_cases hij : i = j + 1
    · subst hij; rw [h] at he; injection he with he; omega
    · rw [endK] at he
      rcases hk : endK l j with _ | f
      · rw [hk] at he; cases he
      · rw [hk, Option.bind_some] at he
        have := ih f (by omega) hk
        split at he
        · rename_i hc
          injection he with he; omega
        · cases he
def RetRd (w : World) (l : List UInt8) (e : Ending) (w' : World) : Prop :=
  (isPage l = false ∧ e = .returned (.tuple #[.agg #[.int .u32 0, .slice none 0 0], .bool false]) ∧ Below w.heap.size w w') ∨
  (isPage l = true ∧ ∃ A c, e = .returned (.tuple #[.agg #[.int .u32 (hdN l : Nat), .slice A (hdC l) c], .bool true]) ∧ Reads w' w'.heap.size 1 A (hdC l) (sL (recs l)) ∧ hdC l ≤ c ∧ (∀ ad, A = some ad → w.heap.size ≤ ad.block) ∧ Below w.heap.size w w')
theorem page_false {l : List UInt8} (h : ∀ e, hdOk l = true → hdK l = 1 → endK l (hdC l) = some e → 8 + 4 * hdC l ≤ 512 → 8 + 4 * hdC l ≤ e → False) : isPage l = false := by
  rcases hp : isPage l with _ | _
  · rfl
  · exfalso
    obtain ⟨e1, e2, e3, e4, e5⟩ := page_end hp
    unfold isPage at hp
    simp only [Bool.and_eq_true, beq_iff_eq, decide_eq_true_eq] at hp
    exact h _ hp.1 hp.2.1 e1 hp.2.2.1 e3
set_option maxRecDepth 100000 in
set_option maxHeartbeats 4000000 in
theorem rread_any (l : List UInt8) (hn : l.length ≤ 1000000) (w : World) : Calls Try.prog 61 #[.string (str l)] w (RetRd w l) := by
  have G := Lib.hid fun W => rhget_any l (by omega) W
  by_cases hok : hdOk l = true
  rotate_left
  · have ho : hdOk l = false := by simpa using hok
    have hp : Hid (isPage l = false) := by unfold Hid isPage; rw [ho]; rfl
    have hv : hdV l = .agg #[.int .u8 0, .int .u16 0, .int .u32 0] := by unfold hdV; rw [ho]; rfl
    unfold RetHd at G
    rw [hv, ho] at G
    clear ho hok hv hn
    go_enter Try.func61, Try.ntmps61
    go_wp2_with fail
    refine (G.out _).mono ?_
    rintro e w1 ⟨rfl, hb1⟩
    have hX1 := (Blk.new w 41 #[.int .u32 0, .slice none 0 0]).below hb1 (by simp)
    have hb2 : Below w.heap.size w w1 := bto0 (ball (Below.refl _ _) _) hb1
    have hz1 : w.heap.size < w1.heap.size := by have := hb1.size; simp at this; omega
    have r0 : w1.cell? ⟨w.heap.size, 0, none⟩ = some (.int .u32 0) := hX1.cell 0
    have r1 : w1.cell? ⟨w.heap.size, 1, none⟩ = some (.slice none 0 0) := hX1.cell 1
    have f0 := hX1.frozen 0
    have f1 := hX1.frozen 1
    have X2 := (hX1.set_ 0 (.int .u32 0)).set_ 1 (.slice none 0 0)
    have X2a := fun o => X2.alloc o
    have b2 := (hb2.setCell (p := ⟨w.heap.size, 0, none⟩) (Nat.le_refl _) (.int .u32 0)).setCell (p := ⟨w.heap.size, 1, none⟩) (Nat.le_refl _) (.slice none 0 0)
    have HB3 := Lib.hid (And.intro X2 (And.intro X2a b2))
    clear X2 X2a b2
    go_wp2
    have y0 : ((w1.setCell ⟨w.heap.size, 0, none⟩ (.int .u32 0)).setCell ⟨w.heap.size, 1, none⟩ (.slice none 0 0)).cell? ⟨w.heap.size, 0, none⟩ = some (.int .u32 0) := HB3.out.1.cell 0
    have y1 : ((w1.setCell ⟨w.heap.size, 0, none⟩ (.int .u32 0)).setCell ⟨w.heap.size, 1, none⟩ (.slice none 0 0)).cell? ⟨w.heap.size, 1, none⟩ = some (.slice none 0 0) := HB3.out.1.cell 1
    have z0 : ∀ o, (((w1.setCell ⟨w.heap.size, 0, none⟩ (.int .u32 0)).setCell ⟨w.heap.size, 1, none⟩ (.slice none 0 0)).alloc o).cell? ⟨w.heap.size, 0, none⟩ = some (.int .u32 0) := fun o => (HB3.out.2.1 o).cell 0
    have z1 : ∀ o, (((w1.setCell ⟨w.heap.size, 0, none⟩ (.int .u32 0)).setCell ⟨w.heap.size, 1, none⟩ (.slice none 0 0)).alloc o).cell? ⟨w.heap.size, 1, none⟩ = some (.slice none 0 0) := fun o => (HB3.out.2.1 o).cell 1
    exact bodyPost_ret (v := .tuple #[.agg #[.int .u32 0, .slice none 0 0], .bool false]) (by simp only [results, Try.results61]; simp [go_sem, y0, y1, z0, z1]) rfl (Or.inl ⟨hp.out, rfl, by first | exact HB3.out.2.2 | exact HB3.out.2.2.alloc (Nat.le_trans HB3.out.2.2.size (Nat.le_refl _)) _⟩)
  have hn5 : l.length = 512 := by unfold hdOk at hok; simp at hok; exact hok.1
  have hv : hdV l = .agg #[.int .u8 (hdK l : Int), .int .u16 (hdC l : Int), .int .u32 (hdN l : Int)] := by unfold hdV; rw [hok]; rfl
  unfold RetHd at G
  rw [hv, hok] at G
  have hKl : hdK l < 256 := by unfold hdK; exact UInt8.toNat_lt _
  have hCl : hdC l < 65536 := by
    have := beVal_lt ((l.drop 2).take 2)
    unfold hdC
    have h2 : ((l.drop 2).take 2).length = 2 := by rw [List.length_take, List.length_drop, hn5]; omega
    rw [h2] at this
    omega
  have HF : Hid (∀ (h : ∀ e, hdK l = 1 → endK l (hdC l) = some e → 8 + 4 * hdC l ≤ 512 → 8 + 4 * hdC l ≤ e → False), isPage l = false) := fun h => page_false fun e _ a b c d => h e a b c d
  have HP : Hid (hdK l = 1 → 8 + 4 * hdC l ≤ 512 → isPage l = pageEnd l) := by unfold Hid isPage; intro a b; rw [hok, a]; simp [b]
  have hpe : Hid (pageEnd l = match endK l (hdC l) with
    | none => false
    | some e => decide (8 + 4 * hdC l ≤ e) && allZ ((l.drop (8 + 4 * hdC l)).take (e - (8 + 4 * hdC l)))) := rfl
  have HRC : Hid (recs l = (List.range (hdC l)).map (recK l)) := rfl
  clear hok hv hn
  obtain ⟨K, hK⟩ : ∃ K, hdK l = K := ⟨_, rfl⟩
  obtain ⟨C, hC⟩ : ∃ C, hdC l = C := ⟨_, rfl⟩
  obtain ⟨N, hN⟩ : ∃ N, hdN l = N := ⟨_, rfl⟩
  have HC := Lib.hid hC
  have HN := Lib.hid hN
  rw [hK, hC] at HF HP
  rw [hK, hC, hN] at G
  rw [hC] at hpe hCl HRC
  rw [hK] at hKl
  clear hK hC hN
  by_cases hk1 : K = 1
  rotate_left
  · have hp : Hid (isPage l = false) := HF.out fun e a _ _ _ => hk1 a
    have e1 : ((K : Int) != 1) = true := by simp; omega
    clear hk1
    go_enter Try.func61, Try.ntmps61
    go_wp2_with fail
    refine (G.out _).mono ?_
    rintro e w1 ⟨rfl, hb1⟩
    have hX1 := (Blk.new w 41 #[.int .u32 0, .slice none 0 0]).below hb1 (by simp)
    have hb2 : Below w.heap.size w w1 := bto0 (ball (Below.refl _ _) _) hb1
    have hz1 : w.heap.size < w1.heap.size := by have := hb1.size; simp at this; omega
    have r0 : w1.cell? ⟨w.heap.size, 0, none⟩ = some (.int .u32 0) := hX1.cell 0
    have r1 : w1.cell? ⟨w.heap.size, 1, none⟩ = some (.slice none 0 0) := hX1.cell 1
    have f0 := hX1.frozen 0
    have f1 := hX1.frozen 1
    have X2 := (hX1.set_ 0 (.int .u32 0)).set_ 1 (.slice none 0 0)
    have X2a := fun o => X2.alloc o
    have b2 := (hb2.setCell (p := ⟨w.heap.size, 0, none⟩) (Nat.le_refl _) (.int .u32 0)).setCell (p := ⟨w.heap.size, 1, none⟩) (Nat.le_refl _) (.slice none 0 0)
    have HB3 := Lib.hid (And.intro X2 (And.intro X2a b2))
    clear X2 X2a b2
    go_wp2
    have y0 : ((w1.setCell ⟨w.heap.size, 0, none⟩ (.int .u32 0)).setCell ⟨w.heap.size, 1, none⟩ (.slice none 0 0)).cell? ⟨w.heap.size, 0, none⟩ = some (.int .u32 0) := HB3.out.1.cell 0
    have y1 : ((w1.setCell ⟨w.heap.size, 0, none⟩ (.int .u32 0)).setCell ⟨w.heap.size, 1, none⟩ (.slice none 0 0)).cell? ⟨w.heap.size, 1, none⟩ = some (.slice none 0 0) := HB3.out.1.cell 1
    have z0 : ∀ o, (((w1.setCell ⟨w.heap.size, 0, none⟩ (.int .u32 0)).setCell ⟨w.heap.size, 1, none⟩ (.slice none 0 0)).alloc o).cell? ⟨w.heap.size, 0, none⟩ = some (.int .u32 0) := fun o => (HB3.out.2.1 o).cell 0
    have z1 : ∀ o, (((w1.setCell ⟨w.heap.size, 0, none⟩ (.int .u32 0)).setCell ⟨w.heap.size, 1, none⟩ (.slice none 0 0)).alloc o).cell? ⟨w.heap.size, 1, none⟩ = some (.slice none 0 0) := fun o => (HB3.out.2.1 o).cell 1
    exact bodyPost_ret (v := .tuple #[.agg #[.int .u32 0, .slice none 0 0], .bool false]) (by simp only [results, Try.results61]; simp [go_sem, y0, y1, z0, z1]) rfl (Or.inl ⟨hp.out, rfl, by first | exact HB3.out.2.2 | exact HB3.out.2.2.alloc (Nat.le_trans HB3.out.2.2.size (Nat.le_refl _)) _⟩)
  subst hk1
  have hCI : (C : Int) ≤ 65535 := by omega
  clear hCl hKl
  have V := Lib.hid fun (r : List UInt8) (hr : r.length ≤ 7) W => dval_any r hr W
  have hz512 : (str l).size = 512 := by rw [str_size, hn5]
  go_enter Try.func61, Try.ntmps61
  go_wp2_with fail
  refine (G.out _).mono ?_
  rintro e w1 ⟨rfl, hb1⟩
  have hX1 := (Blk.new w 41 #[.int .u32 0, .slice none 0 0]).below hb1 (by simp)
  have hb2 : Below w.heap.size w w1 := bto0 (ball (Below.refl _ _) _) hb1
  have hz1 : w.heap.size < w1.heap.size := by have := hb1.size; simp at this; omega
  go_wp2_with fail
  have hXa := (hX1.alloc (.cells #[.int .u8 1, .int .u16 (C : Int), .int .u32 (N : Int)] 109)).alloc (.cells #[.int .u32 (N : Int), .slice none 0 0] 41)
  have hHa : Blk ((w1.alloc (.cells #[.int .u8 1, .int .u16 (C : Int), .int .u32 (N : Int)] 109)).alloc (.cells #[.int .u32 (N : Int), .slice none 0 0] 41)) w1.heap.size 109 #[.int .u8 1, .int .u16 (C : Int), .int .u32 (N : Int)] := (Blk.new _ _ _).alloc _
  have hPa : Blk ((w1.alloc (.cells #[.int .u8 1, .int .u16 (C : Int), .int .u32 (N : Int)] 109)).alloc (.cells #[.int .u32 (N : Int), .slice none 0 0] 41)) (w1.heap.size + 1) 41 #[.int .u32 (N : Int), .slice none 0 0] := Blk.newAt (by simp)
  have hba : Below w.heap.size w ((w1.alloc (.cells #[.int .u8 1, .int .u16 (C : Int), .int .u32 (N : Int)] 109)).alloc (.cells #[.int .u32 (N : Int), .slice none 0 0] 41)) := ball (ball hb2 _) _
  have hsa : ((w1.alloc (.cells #[.int .u8 1, .int .u16 (C : Int), .int .u32 (N : Int)] 109)).alloc (.cells #[.int .u32 (N : Int), .slice none 0 0] 41)).heap.size = w1.heap.size + 2 := by simp
  obtain ⟨Wa, hWa⟩ : ∃ Wa, ((w1.alloc (.cells #[.int .u8 1, .int .u16 (C : Int), .int .u32 (N : Int)] 109)).alloc (.cells #[.int .u32 (N : Int), .slice none 0 0] 41)) = Wa := ⟨_, rfl⟩
  rw [hWa] at hXa hHa hPa hba hsa ⊢
  obtain ⟨gh, hgh⟩ : ∃ gh, w1.heap.size = gh := ⟨_, rfl⟩
  rw [hgh] at hHa hPa hz1 hsa ⊢
  clear hWa hgh hb1 hX1 hb2 G
  obtain ⟨i0, hi0, hz0, hs0, hy0⟩ := int_info8 Try.infoS
  go_loopw [7, 8] (fun u7 u8 wr => ∃ (i e : Nat) (A : Option Addr) (c : Nat), u7 = .int .i64 e ∧ u8 = .int .i64 i ∧ i ≤ C ∧ endK l i = some e ∧ (i = 0 ∧ e = 512 ∨ 8 + 4 * C ≤ e) ∧ Blk wr w.heap.size 41 #[.int .u32 0, .slice none 0 0] ∧ Blk wr gh 109 #[.int .u8 1, .int .u16 (C : Int), .int .u32 (N : Int)] ∧ Blk wr (gh + 1) 41 #[.int .u32 (N : Int), .slice A i c] ∧
      wr.ownsRow w.heap.size 9 1 (.slice A i c) i (sL ((List.range i).map (recK l))) ∧ Below w.heap.size w wr ∧ gh + 2 ≤ wr.heap.size) (fun _ u8 _ => C - (intOf u8).toNat)
  case atStart => exact ⟨0, 512, none, 0, rfl, rfl, by omega, rfl, .inl ⟨rfl, rfl⟩, hXa, hHa, hPa, World.ownsRow_nil _ _ _ _, hba, by omega⟩
  case round =>
    clear hXa hHa hPa hba hsa
    obtain ⟨i, e, A, c, rfl, rfl, hi, he, hle, hXr, hHr, hPr, ho, hb, hzg⟩ := hrel
    have hel := endK_le l i e he
    have q0 : (0 : Int) ≤ (i : Int) := by omega
    have hzr := hb.size
    have d1 := hHr.cell 1
    by_cases hlt : i < C
    · have q1 : (i : Int) < (C : Int) := by omega
      have hle2 : 12 + 4 * i ≤ e := by omega
      have hleI : 8 + 4 * (i : Int) + 4 ≤ (e : Int) := by omega
      have sl1 := cut_mid (P := Try.prog) Try.underlying9 l ((l.drop (8 + 4 * i)).take 2) .i64 .i64 (8 + 4 * (i : Int)) (8 + 4 * (i : Int) + 2) (by omega) (by omega) (by rw [hn5]; omega) (by rw [show (8 + 4 * (i : Int)).toNat = 8 + 4 * i from by omega, show (8 + 4 * (i : Int) + 2).toNat - (8 + 4 * i) = 2 from by omega])
      have sl2 := cut_mid (P := Try.prog) Try.underlying9 l ((l.drop (8 + 4 * i + 2)).take 2) .i64 .i64 (8 + 4 * (i : Int) + 2) (8 + 4 * (i : Int) + 4) (by omega) (by omega) (by rw [hn5]; omega) (by rw [show (8 + 4 * (i : Int) + 2).toNat = 8 + 4 * i + 2 from by omega, show (8 + 4 * (i : Int) + 4).toNat - (8 + 4 * i + 2) = 2 from by omega])
      have V1 := V.out ((l.drop (8 + 4 * i)).take 2) (by rw [List.length_take]; omega)
      have V2 := V.out ((l.drop (8 + 4 * i + 2)).take 2) (by rw [List.length_take]; omega)
      rw [two_val l _ (by omega)] at V1 V2
      have hK1 : endK l (i + 1) = if two l (8 + 4 * i + 2) ≠ 0 ∧ two l (8 + 4 * i) + two l (8 + 4 * i + 2) = e then some (two l (8 + 4 * i)) else none := by rw [endK, he]; rfl
      have ha6 := two_lt l (8 + 4 * i)
      have hb6 := two_lt l (8 + 4 * i + 2)
      have HR0 : recK l i = (l.drop (two l (8 + 4 * i))).take (two l (8 + 4 * i + 2)) := rfl
      obtain ⟨r1, hr1⟩ : ∃ r1, (l.drop (8 + 4 * i)).take 2 = r1 := ⟨_, rfl⟩
      obtain ⟨r2, hr2⟩ : ∃ r2, (l.drop (8 + 4 * i + 2)).take 2 = r2 := ⟨_, rfl⟩
      obtain ⟨a, ha⟩ : ∃ a, two l (8 + 4 * i) = a := ⟨_, rfl⟩
      obtain ⟨b, hb'⟩ : ∃ b, two l (8 + 4 * i + 2) = b := ⟨_, rfl⟩
      rw [hr1] at sl1 V1
      rw [hr2] at sl2 V2
      rw [ha] at V1 hK1 ha6 HR0
      rw [hb'] at V2 hK1 hb6 HR0
      have HK1 := Lib.hid hK1
      have W1 := Lib.hid V1
      have W2 := Lib.hid V2
      have HE := Lib.hid he
      clear hr1 hr2 ha hb' hK1 V1 V2 he
      have a0 : (0 : Int) ≤ (a : Int) := by omega
      have a6 : (a : Int) ≤ 65535 := by omega
      have b0 : (0 : Int) ≤ (b : Int) := by omega
      have b6 : (b : Int) ≤ 65535 := by omega
      by_cases hz : b = 0
      · have e1 : ((b : Int) == 0) = true := by simp; omega
        have hp : Hid (isPage l = false) := HF.out fun f _ h _ _ => by
          rw [endK_none l (i + 1) (by rw [HK1.out, if_neg (by omega)]) C (by omega)] at h; cases h
        clear hz ho hle hle2 HR0 ha6 hb6
        have HPX := Lib.hid hPr
        clear hPr
        go_wp2_with fail
        refine (W1.out _).mono ?_
        rintro e w' ⟨rfl, rfl⟩
        go_wp2_with fail
        refine (W2.out _).mono ?_
        rintro e w' ⟨rfl, rfl⟩
        have r0 : wr.cell? ⟨w.heap.size, 0, none⟩ = some (.int .u32 0) := hXr.cell 0
        have r1 : wr.cell? ⟨w.heap.size, 1, none⟩ = some (.slice none 0 0) := hXr.cell 1
        have f0 := hXr.frozen 0
        have f1 := hXr.frozen 1
        have X2 := (hXr.set_ 0 (.int .u32 0)).set_ 1 (.slice none 0 0)
        have X2a := fun o => X2.alloc o
        have b2 := (hb.setCell (p := ⟨w.heap.size, 0, none⟩) (Nat.le_refl _) (.int .u32 0)).setCell (p := ⟨w.heap.size, 1, none⟩) (Nat.le_refl _) (.slice none 0 0)
        have HB3 := Lib.hid (And.intro X2 (And.intro X2a b2))
        clear X2 X2a b2
        go_wp2
        have y0 : ((wr.setCell ⟨w.heap.size, 0, none⟩ (.int .u32 0)).setCell ⟨w.heap.size, 1, none⟩ (.slice none 0 0)).cell? ⟨w.heap.size, 0, none⟩ = some (.int .u32 0) := HB3.out.1.cell 0
        have y1 : ((wr.setCell ⟨w.heap.size, 0, none⟩ (.int .u32 0)).setCell ⟨w.heap.size, 1, none⟩ (.slice none 0 0)).cell? ⟨w.heap.size, 1, none⟩ = some (.slice none 0 0) := HB3.out.1.cell 1
        have z0 : ∀ o, (((wr.setCell ⟨w.heap.size, 0, none⟩ (.int .u32 0)).setCell ⟨w.heap.size, 1, none⟩ (.slice none 0 0)).alloc o).cell? ⟨w.heap.size, 0, none⟩ = some (.int .u32 0) := fun o => (HB3.out.2.1 o).cell 0
        have z1 : ∀ o, (((wr.setCell ⟨w.heap.size, 0, none⟩ (.int .u32 0)).setCell ⟨w.heap.size, 1, none⟩ (.slice none 0 0)).alloc o).cell? ⟨w.heap.size, 1, none⟩ = some (.slice none 0 0) := fun o => (HB3.out.2.1 o).cell 1
        exact bodyPost_ret (v := .tuple #[.agg #[.int .u32 0, .slice none 0 0], .bool false]) (by simp only [results, Try.results61]; simp [go_sem, y0, y1, z0, z1]) rfl (Or.inl ⟨hp.out, rfl, by first | exact HB3.out.2.2 | exact HB3.out.2.2.alloc (Nat.le_trans HB3.out.2.2.size (Nat.le_refl _)) _⟩)
      have e1 : ((b : Int) == 0) = false := by simp; omega
      by_cases hs : a + b = e
      rotate_left
      · have e2 : ((a : Int) + (b : Int) != (e : Int)) = true := by simp; omega
        have hp : Hid (isPage l = false) := HF.out fun f _ h _ _ => by
          rw [endK_none l (i + 1) (by rw [HK1.out, if_neg (by omega)]) C (by omega)] at h; cases h
        clear hz hs ho hle hle2 HR0 ha6 hb6 hPr
        go_wp2_with fail
        refine (W1.out _).mono ?_
        rintro e w' ⟨rfl, rfl⟩
        go_wp2_with fail
        refine (W2.out _).mono ?_
        rintro e w' ⟨rfl, rfl⟩
        have r0 : wr.cell? ⟨w.heap.size, 0, none⟩ = some (.int .u32 0) := hXr.cell 0
        have r1 : wr.cell? ⟨w.heap.size, 1, none⟩ = some (.slice none 0 0) := hXr.cell 1
        have f0 := hXr.frozen 0
        have f1 := hXr.frozen 1
        have X2 := (hXr.set_ 0 (.int .u32 0)).set_ 1 (.slice none 0 0)
        have X2a := fun o => X2.alloc o
        have b2 := (hb.setCell (p := ⟨w.heap.size, 0, none⟩) (Nat.le_refl _) (.int .u32 0)).setCell (p := ⟨w.heap.size, 1, none⟩) (Nat.le_refl _) (.slice none 0 0)
        have HB3 := Lib.hid (And.intro X2 (And.intro X2a b2))
        clear X2 X2a b2
        go_wp2
        have y0 : ((wr.setCell ⟨w.heap.size, 0, none⟩ (.int .u32 0)).setCell ⟨w.heap.size, 1, none⟩ (.slice none 0 0)).cell? ⟨w.heap.size, 0, none⟩ = some (.int .u32 0) := HB3.out.1.cell 0
        have y1 : ((wr.setCell ⟨w.heap.size, 0, none⟩ (.int .u32 0)).setCell ⟨w.heap.size, 1, none⟩ (.slice none 0 0)).cell? ⟨w.heap.size, 1, none⟩ = some (.slice none 0 0) := HB3.out.1.cell 1
        have z0 : ∀ o, (((wr.setCell ⟨w.heap.size, 0, none⟩ (.int .u32 0)).setCell ⟨w.heap.size, 1, none⟩ (.slice none 0 0)).alloc o).cell? ⟨w.heap.size, 0, none⟩ = some (.int .u32 0) := fun o => (HB3.out.2.1 o).cell 0
        have z1 : ∀ o, (((wr.setCell ⟨w.heap.size, 0, none⟩ (.int .u32 0)).setCell ⟨w.heap.size, 1, none⟩ (.slice none 0 0)).alloc o).cell? ⟨w.heap.size, 1, none⟩ = some (.slice none 0 0) := fun o => (HB3.out.2.1 o).cell 1
        exact bodyPost_ret (v := .tuple #[.agg #[.int .u32 0, .slice none 0 0], .bool false]) (by simp only [results, Try.results61]; simp [go_sem, y0, y1, z0, z1]) rfl (Or.inl ⟨hp.out, rfl, by first | exact HB3.out.2.2 | exact HB3.out.2.2.alloc (Nat.le_trans HB3.out.2.2.size (Nat.le_refl _)) _⟩)
      have e2 : ((a : Int) + (b : Int) != (e : Int)) = false := by simp; omega
      have he' : Hid (endK l (i + 1) = some a) := by unfold Hid; rw [HK1.out, if_pos ⟨hz, hs⟩]
      by_cases hg : a < 8 + 4 * C
      · have hgI : (a : Int) < 8 + 4 * (C : Int) := by omega
        have e3 : decide ((a : Int) < 8 + 4 * (C : Int)) = true := by simp; omega
        have hp : Hid (isPage l = false) := HF.out fun f _ h _ h4 => by
          have := endK_mono l (i + 1) a he'.out C f (by omega) h; omega
        clear hz hs ho hle hle2 HR0 ha6 hb6 hPr hg
        go_wp2_with fail
        refine (W1.out _).mono ?_
        rintro e w' ⟨rfl, rfl⟩
        go_wp2_with fail
        refine (W2.out _).mono ?_
        rintro e w' ⟨rfl, rfl⟩
        have r0 : wr.cell? ⟨w.heap.size, 0, none⟩ = some (.int .u32 0) := hXr.cell 0
        have r1 : wr.cell? ⟨w.heap.size, 1, none⟩ = some (.slice none 0 0) := hXr.cell 1
        have f0 := hXr.frozen 0
        have f1 := hXr.frozen 1
        have X2 := (hXr.set_ 0 (.int .u32 0)).set_ 1 (.slice none 0 0)
        have X2a := fun o => X2.alloc o
        have b2 := (hb.setCell (p := ⟨w.heap.size, 0, none⟩) (Nat.le_refl _) (.int .u32 0)).setCell (p := ⟨w.heap.size, 1, none⟩) (Nat.le_refl _) (.slice none 0 0)
        have HB3 := Lib.hid (And.intro X2 (And.intro X2a b2))
        clear X2 X2a b2
        go_wp2
        have y0 : ((wr.setCell ⟨w.heap.size, 0, none⟩ (.int .u32 0)).setCell ⟨w.heap.size, 1, none⟩ (.slice none 0 0)).cell? ⟨w.heap.size, 0, none⟩ = some (.int .u32 0) := HB3.out.1.cell 0
        have y1 : ((wr.setCell ⟨w.heap.size, 0, none⟩ (.int .u32 0)).setCell ⟨w.heap.size, 1, none⟩ (.slice none 0 0)).cell? ⟨w.heap.size, 1, none⟩ = some (.slice none 0 0) := HB3.out.1.cell 1
        have z0 : ∀ o, (((wr.setCell ⟨w.heap.size, 0, none⟩ (.int .u32 0)).setCell ⟨w.heap.size, 1, none⟩ (.slice none 0 0)).alloc o).cell? ⟨w.heap.size, 0, none⟩ = some (.int .u32 0) := fun o => (HB3.out.2.1 o).cell 0
        have z1 : ∀ o, (((wr.setCell ⟨w.heap.size, 0, none⟩ (.int .u32 0)).setCell ⟨w.heap.size, 1, none⟩ (.slice none 0 0)).alloc o).cell? ⟨w.heap.size, 1, none⟩ = some (.slice none 0 0) := fun o => (HB3.out.2.1 o).cell 1
        exact bodyPost_ret (v := .tuple #[.agg #[.int .u32 0, .slice none 0 0], .bool false]) (by simp only [results, Try.results61]; simp [go_sem, y0, y1, z0, z1]) rfl (Or.inl ⟨hp.out, rfl, by first | exact HB3.out.2.2 | exact HB3.out.2.2.alloc (Nat.le_trans HB3.out.2.2.size (Nat.le_refl _)) _⟩)
      · have hgI : 8 + 4 * (C : Int) ≤ (a : Int) := by omega
        have e3 : decide ((a : Int) < 8 + 4 * (C : Int)) = false := by simp; omega
        have sl3 := cut_mid (P := Try.prog) Try.underlying9 l (recK l i) .i64 .i64 (a : Int) (e : Int) (by omega) (by omega) (by rw [hn5]; omega) (by rw [HR0, Int.toNat_natCast, Int.toNat_natCast, show e - a = b from by omega])
        obtain ⟨R, hR⟩ : ∃ R, recK l i = R := ⟨_, rfl⟩
        rw [hR] at sl3
        have HR := Lib.hid hR
        clear hR HR0
        go_wp2_with fail
        refine (W1.out _).mono ?_
        rintro e w' ⟨rfl, rfl⟩
        go_wp2_with fail
        refine (W2.out _).mono ?_
        rintro e w' ⟨rfl, rfl⟩
        have c1 : wr.cell? ⟨gh + 1, 1, none⟩ = some (.slice A i c) := hPr.cell 1
        have c1a : ∀ o, (wr.alloc o).cell? ⟨gh + 1, 1, none⟩ = some (.slice A i c) := fun o => (hPr.alloc o).cell 1
        have OX : Hid (∀ m, (wr.drewN m).ownsRow w.heap.size 9 1 (.slice A i c) i (sL ((List.range i).map (recK l)))) := fun _ => ho
        have PX : Hid (∀ m, Blk (wr.drewN m) (gh + 1) 41 #[.int .u32 (N : Int), .slice A i c]) := fun _ => hPr
        have HX : Hid (∀ m, Blk (wr.drewN m) gh 109 #[.int .u8 1, .int .u16 (C : Int), .int .u32 (N : Int)]) := fun _ => hHr
        have RX : Hid (∀ m, Blk (wr.drewN m) w.heap.size 41 #[.int .u32 0, .slice none 0 0]) := fun _ => hXr
        have BX : Hid (∀ m, Below w.heap.size w (wr.drewN m)) := fun m => bdr hb m
        clear hle hle2 hz hs hg ho hPr hHr hXr hb ha6 hb6
        go_wp2_with fail
        refine wp_region_held_drew (S := (fun _ => True)) (by kernel_rfl) trivial (fun hHeld => ?_)
        try dsimp only at hHeld
        refine wpAnyH_take (i := 0) (v := ?_) rfl (by kernel_rfl) (by kernel_rfl) (by kernel_rfl) (fun _ _ _ h => h) (Or.inl ⟨rfl, ?_⟩) hHeld ?_
        rotate_left
        focus (intro wx hSw; (try dsimp only at hSw); (try go_split_ands); go_simp; (try with_reducible rfl))
        try simp only [Act.put, List.getElem_toArray, List.getElem_cons_succ, List.getElem_cons_zero, List.setIfInBounds_toArray, List.set_cons_zero, List.set_cons_succ]
        refine wpAnyH_take (i := 2) (v := ?_) rfl (by kernel_rfl) (by kernel_rfl) (by kernel_rfl) (fun _ _ _ h => h) (Or.inl ⟨rfl, ?_⟩) hHeld ?_
        rotate_left
        focus (intro wx hSw; (try dsimp only at hSw); (try go_split_ands); go_simp; (try with_reducible rfl))
        try simp only [Act.put, List.getElem_toArray, List.getElem_cons_succ, List.getElem_cons_zero, List.setIfInBounds_toArray, List.set_cons_zero, List.set_cons_succ]
        refine wpAnyH_take (i := 3) (v := ?_) rfl (by kernel_rfl) (by kernel_rfl) (by kernel_rfl) (fun _ _ _ h => h) (Or.inl ⟨rfl, ?_⟩) hHeld ?_
        rotate_left
        focus (intro wx hSw; (try dsimp only at hSw); (try go_split_ands); go_simp; (try with_reducible rfl))
        try simp only [Act.put, List.getElem_toArray, List.getElem_cons_succ, List.getElem_cons_zero, List.setIfInBounds_toArray, List.set_cons_zero, List.set_cons_succ]
        refine wpAnyH_take (i := 4) (v := ?_) rfl (by kernel_rfl) (by kernel_rfl) (by kernel_rfl) (fun _ _ _ h => h) (Or.inl ⟨rfl, ?_⟩) hHeld ?_
        rotate_left
        focus (intro wx hSw; (try dsimp only at hSw); (try go_split_ands); go_simp; (try with_reducible rfl))
        try simp only [Act.put, List.getElem_toArray, List.getElem_cons_succ, List.getElem_cons_zero, List.setIfInBounds_toArray, List.set_cons_zero, List.set_cons_succ]
        refine wpAnyH_take (i := 5) (v := ?_) rfl (by kernel_rfl) (by kernel_rfl) (by kernel_rfl) (fun _ _ _ h => h) (Or.inl ⟨rfl, ?_⟩) hHeld ?_
        rotate_left
        focus (intro wx hSw; (try dsimp only at hSw); (try go_split_ands); go_simp; (try with_reducible rfl))
        try simp only [Act.put, List.getElem_toArray, List.getElem_cons_succ, List.getElem_cons_zero, List.setIfInBounds_toArray, List.set_cons_zero, List.set_cons_succ]
        refine wpAnyH_ready (rs := [1, 6]) (by kernel_rfl) (by simp) (AllReadyH.cons rfl (fun K hK => ?_) (AllReadyH.cons rfl (fun K hK => ?_) AllReadyH.nil))
        · go_simp
          refine hK.out _ _ ?_ (fun hHeld => ?_)
          · ((try dsimp only); (try dsimp only at hHeld); try trivial)
          clear hK K
          try dsimp only at hHeld
          try simp only [Act.put, List.getElem_toArray, List.getElem_cons_succ, List.getElem_cons_zero, List.setIfInBounds_toArray, List.set_cons_zero, List.set_cons_succ]
          refine wpAnyH_ready (rs := [6]) (by kernel_rfl) (by simp) (AllReadyH.cons rfl (fun K hK => ?_) AllReadyH.nil)
          go_simp
          refine hK.out _ _ ?_ (fun hHeld => ?_)
          · ((try dsimp only); (try dsimp only at hHeld); try trivial)
          clear hK K
          try dsimp only at hHeld
          try simp only [Act.put, List.getElem_toArray, List.getElem_cons_succ, List.getElem_cons_zero, List.setIfInBounds_toArray, List.set_cons_zero, List.set_cons_succ]
          refine wpAnyH_ready (rs := [7]) (by kernel_rfl) (by simp) (AllReadyH.cons rfl (fun K hK => ?_) AllReadyH.nil)
          refine wp_push1 (.tmp 79) (.tmp 84) 29 rfl w.heap.size 9 i0 (.string ⟨#[]⟩) 16 Try.underlying29 hi0 hz0 hs0 hy0 rfl _ i _ (.string (str R)) (by simp [Act.eval, Act.put]) (OX.out _) _ (by simp [Act.eval, Act.put]) rfl rfl (by omega) (by omega) (by simpa using hzr) ?_
          intro v' w3 o3 hg3
          obtain ⟨A3, c3, rfl, hc3⟩ := own_form o3
          have P3 := blk_grown (OX.out _) (PX.out _) (by decide) hg3
          have d31 := P3.cell 1
          have f31 := P3.frozen 1
          refine hK.out _ _ ?_ (fun hHeld => ?_)
          · ((try dsimp only); (try dsimp only at hHeld); try trivial)
          clear hK K
          try dsimp only at hHeld
          try simp only [Act.put, List.getElem_toArray, List.getElem_cons_succ, List.getElem_cons_zero, List.setIfInBounds_toArray, List.set_cons_zero, List.set_cons_succ]
          refine wpAnyH_take (i := 8) (v := ?_) rfl (by kernel_rfl) (by kernel_rfl) (by kernel_rfl) (fun _ _ _ h => h) (Or.inl ⟨rfl, ?_⟩) hHeld ?_
          rotate_left
          focus (intro wx hSw; (try dsimp only at hSw); (try go_split_ands); go_simp; (try with_reducible rfl))
          try simp only [Act.put, List.getElem_toArray, List.getElem_cons_succ, List.getElem_cons_zero, List.setIfInBounds_toArray, List.set_cons_zero, List.set_cons_succ]
          refine wpAnyH_ready (rs := [9]) (by kernel_rfl) (by simp) (AllReadyH.cons rfl (fun K hK => ?_) AllReadyH.nil)
          go_simp
          refine hK.out _ _ ?_ (fun hHeld => ?_)
          · ((try dsimp only); (try dsimp only at hHeld); try trivial)
          clear hK K
          try dsimp only at hHeld
          try simp only [Act.put, List.getElem_toArray, List.getElem_cons_succ, List.getElem_cons_zero, List.setIfInBounds_toArray, List.set_cons_zero, List.set_cons_succ]
          refine wpAnyH_done (by kernel_rfl) ?_ _
          clear hHeld
          have R3 := blk_grown (OX.out _) (RX.out _) (by decide) hg3
          have H3 := blk_grown (OX.out _) (HX.out _) (by decide) hg3
          have b3 := below_grown (OX.out _) (Nat.le_refl _) hzr hg3 (BX.out _)
          have z3 : wr.heap.size + 1 ≤ w3.heap.size := by have := hg3.size; simpa using this
          go_wp2
          go_roundw
          case rel => exact ⟨i + 1, a, A3, c3, rfl, by go_num, by omega, he'.out, .inr (by omega), R3.far (by simp; omega) _, H3.far (by simp) _, P3.set_ 1 _, by rw [List.range_succ, List.map_append, show List.map (recK l) [i] = [R] from by simp [HR.out], ← sL_snoc]; exact own_far o3 P3 (by decide) 1 _, b3.setCell (by simp; omega) _, by simp [World.setCell]; omega⟩
          case measure => simp [intOf]; omega
        · go_simp
          refine hK.out _ _ ?_ (fun hHeld => ?_)
          · ((try dsimp only); (try dsimp only at hHeld); try trivial)
          clear hK K
          try dsimp only at hHeld
          try simp only [Act.put, List.getElem_toArray, List.getElem_cons_succ, List.getElem_cons_zero, List.setIfInBounds_toArray, List.set_cons_zero, List.set_cons_succ]
          refine wpAnyH_ready (rs := [1]) (by kernel_rfl) (by simp) (AllReadyH.cons rfl (fun K hK => ?_) AllReadyH.nil)
          go_simp
          refine hK.out _ _ ?_ (fun hHeld => ?_)
          · ((try dsimp only); (try dsimp only at hHeld); try trivial)
          clear hK K
          try dsimp only at hHeld
          try simp only [Act.put, List.getElem_toArray, List.getElem_cons_succ, List.getElem_cons_zero, List.setIfInBounds_toArray, List.set_cons_zero, List.set_cons_succ]
          refine wpAnyH_ready (rs := [7]) (by kernel_rfl) (by simp) (AllReadyH.cons rfl (fun K hK => ?_) AllReadyH.nil)
          refine wp_push1 (.tmp 79) (.tmp 84) 29 rfl w.heap.size 9 i0 (.string ⟨#[]⟩) 16 Try.underlying29 hi0 hz0 hs0 hy0 rfl _ i _ (.string (str R)) (by simp [Act.eval, Act.put]) (OX.out _) _ (by simp [Act.eval, Act.put]) rfl rfl (by omega) (by omega) (by simpa using hzr) ?_
          intro v' w3 o3 hg3
          obtain ⟨A3, c3, rfl, hc3⟩ := own_form o3
          have P3 := blk_grown (OX.out _) (PX.out _) (by decide) hg3
          have d31 := P3.cell 1
          have f31 := P3.frozen 1
          refine hK.out _ _ ?_ (fun hHeld => ?_)
          · ((try dsimp only); (try dsimp only at hHeld); try trivial)
          clear hK K
          try dsimp only at hHeld
          try simp only [Act.put, List.getElem_toArray, List.getElem_cons_succ, List.getElem_cons_zero, List.setIfInBounds_toArray, List.set_cons_zero, List.set_cons_succ]
          refine wpAnyH_take (i := 8) (v := ?_) rfl (by kernel_rfl) (by kernel_rfl) (by kernel_rfl) (fun _ _ _ h => h) (Or.inl ⟨rfl, ?_⟩) hHeld ?_
          rotate_left
          focus (intro wx hSw; (try dsimp only at hSw); (try go_split_ands); go_simp; (try with_reducible rfl))
          try simp only [Act.put, List.getElem_toArray, List.getElem_cons_succ, List.getElem_cons_zero, List.setIfInBounds_toArray, List.set_cons_zero, List.set_cons_succ]
          refine wpAnyH_ready (rs := [9]) (by kernel_rfl) (by simp) (AllReadyH.cons rfl (fun K hK => ?_) AllReadyH.nil)
          go_simp
          refine hK.out _ _ ?_ (fun hHeld => ?_)
          · ((try dsimp only); (try dsimp only at hHeld); try trivial)
          clear hK K
          try dsimp only at hHeld
          try simp only [Act.put, List.getElem_toArray, List.getElem_cons_succ, List.getElem_cons_zero, List.setIfInBounds_toArray, List.set_cons_zero, List.set_cons_succ]
          refine wpAnyH_done (by kernel_rfl) ?_ _
          clear hHeld
          have R3 := blk_grown (OX.out _) (RX.out _) (by decide) hg3
          have H3 := blk_grown (OX.out _) (HX.out _) (by decide) hg3
          have b3 := below_grown (OX.out _) (Nat.le_refl _) hzr hg3 (BX.out _)
          have z3 : wr.heap.size + 1 ≤ w3.heap.size := by have := hg3.size; simpa using this
          go_wp2
          go_roundw
          case rel => exact ⟨i + 1, a, A3, c3, rfl, by go_num, by omega, he'.out, .inr (by omega), R3.far (by simp; omega) _, H3.far (by simp) _, P3.set_ 1 _, by rw [List.range_succ, List.map_append, show List.map (recK l) [i] = [R] from by simp [HR.out], ← sL_snoc]; exact own_far o3 P3 (by decide) 1 _, b3.setCell (by simp; omega) _, by simp [World.setCell]; omega⟩
          case measure => simp [intOf]; omega
    · obtain rfl : i = C := by omega
      have hle2 : 8 + 4 * i ≤ e := by omega
      have hpg : Hid (isPage l = allZ ((l.drop (8 + 4 * i)).take (e - (8 + 4 * i)))) := by
        unfold Hid
        rw [HP.out (by trivial) (by omega), hpe.out, he]
        simp [hle2]
      obtain ⟨Z, hZ⟩ : ∃ Z, e - (8 + 4 * i) = Z := ⟨_, rfl⟩
      obtain ⟨L, hL⟩ : ∃ L, (l.drop (8 + 4 * i)).take Z = L := ⟨_, rfl⟩
      have hLL : L.length = Z := by rw [← hL, List.length_take, List.length_drop, hn5]; omega
      have hLa : ∀ k, k < Z → L[k]? = l[8 + 4 * i + k]? := fun k hk => by rw [← hL, List.getElem?_take_of_lt hk, List.getElem?_drop]
      rw [hZ, hL] at hpg
      have HZ : Hid (e = 8 + 4 * i + Z) := by unfold Hid; omega
      have HLL := Lib.hid hLL
      have HLa := Lib.hid hLa
      have heI : (e : Int) ≤ 512 := by omega
      have hleI : 8 + 4 * (i : Int) ≤ (e : Int) := by omega
      clear hle hle2 hZ hL hLL hLa he
      go_wp2_with fail
      go_loop [12] (fun u12 => ∃ k : Nat, u12 = .int .i64 (8 + 4 * (i : Int) + (k : Int)) ∧ k ≤ Z ∧ allZ (L.take k) = true) (fun u12 => Z + (8 + 4 * i) - (intOf u12).toNat)
      case atStart => exact ⟨0, by simp, by omega, rfl⟩
      case round =>
        obtain ⟨k, rfl, hk, hz⟩ := hrel
        have k0 : (0 : Int) ≤ (k : Int) := by omega
        have ke := HZ.out
        have Hz := Lib.hid hz
        clear hz
        by_cases hkZ : k < Z
        · have k1 : 8 + 4 * (i : Int) + (k : Int) < (e : Int) := by omega
          obtain ⟨x, hx⟩ : ∃ x, L[k]? = some x := ⟨_, List.getElem?_eq_getElem (by rw [HLL.out]; exact hkZ)⟩
          have hx2 : l[8 + 4 * i + k]? = some x := by rw [← HLa.out k hkZ]; exact hx
          have ix : ∀ W, (Instr.index 9 (.string (str l)) (.int .i64 (8 + 4 * (i : Int) + (k : Int)))).run Try.prog W = .ok (.int .u8 (x.toNat : Int)) W := by
            intro W
            have hz : 8 + 4 * i + k < (str l).size := by rw [hz512]; omega
            have h := run_index_string (P := Try.prog) (w := W) 9 (str l) .i64 (8 + 4 * (i : Int) + (k : Int)) Try.underlying9
            rw [dif_pos ⟨by omega, by omega⟩] at h
            rw [h]
            have := str_at l (8 + 4 * i + k) hz
            rw [hx2] at this
            injection this with this
            rw [this]
            rfl
          have HX := Lib.hid hx
          clear hx hx2 ke
          by_cases hx0 : x = 0
          · have e1 : ((x.toNat : Int) != 0) = false := by subst hx0; rfl
            have Hx0 := Lib.hid hx0; clear hx0
            go_wp2
            go_round
            case rel => exact ⟨k + 1, by go_num, by omega, by rw [allZ_take HX.out, Hz.out, Hx0.out]; rfl⟩
            case measure => simp [intOf]; omega
          · have e1 : ((x.toNat : Int) != 0) = true := by
              have : ¬ x.toNat = 0 := fun e => hx0 (UInt8.toNat_inj.1 e)
              simp; omega
            have hp : Hid (isPage l = false) := by unfold Hid; rw [hpg.out]; exact allZ_false HX.out hx0
            clear hx0
            have r0 : wr.cell? ⟨w.heap.size, 0, none⟩ = some (.int .u32 0) := hXr.cell 0
            have r1 : wr.cell? ⟨w.heap.size, 1, none⟩ = some (.slice none 0 0) := hXr.cell 1
            have f0 := hXr.frozen 0
            have f1 := hXr.frozen 1
            have X2 := (hXr.set_ 0 (.int .u32 0)).set_ 1 (.slice none 0 0)
            have X2a := fun o => X2.alloc o
            have b2 := (hb.setCell (p := ⟨w.heap.size, 0, none⟩) (Nat.le_refl _) (.int .u32 0)).setCell (p := ⟨w.heap.size, 1, none⟩) (Nat.le_refl _) (.slice none 0 0)
            have HB3 := Lib.hid (And.intro X2 (And.intro X2a b2))
            clear X2 X2a b2
            go_wp2
            have y0 : ((wr.setCell ⟨w.heap.size, 0, none⟩ (.int .u32 0)).setCell ⟨w.heap.size, 1, none⟩ (.slice none 0 0)).cell? ⟨w.heap.size, 0, none⟩ = some (.int .u32 0) := HB3.out.1.cell 0
            have y1 : ((wr.setCell ⟨w.heap.size, 0, none⟩ (.int .u32 0)).setCell ⟨w.heap.size, 1, none⟩ (.slice none 0 0)).cell? ⟨w.heap.size, 1, none⟩ = some (.slice none 0 0) := HB3.out.1.cell 1
            have z0 : ∀ o, (((wr.setCell ⟨w.heap.size, 0, none⟩ (.int .u32 0)).setCell ⟨w.heap.size, 1, none⟩ (.slice none 0 0)).alloc o).cell? ⟨w.heap.size, 0, none⟩ = some (.int .u32 0) := fun o => (HB3.out.2.1 o).cell 0
            have z1 : ∀ o, (((wr.setCell ⟨w.heap.size, 0, none⟩ (.int .u32 0)).setCell ⟨w.heap.size, 1, none⟩ (.slice none 0 0)).alloc o).cell? ⟨w.heap.size, 1, none⟩ = some (.slice none 0 0) := fun o => (HB3.out.2.1 o).cell 1
            exact bodyPost_ret (v := .tuple #[.agg #[.int .u32 0, .slice none 0 0], .bool false]) (by simp only [results, Try.results61]; simp [go_sem, y0, y1, z0, z1]) rfl (Or.inl ⟨hp.out, rfl, by first | exact HB3.out.2.2 | exact HB3.out.2.2.alloc (Nat.le_trans HB3.out.2.2.size (Nat.le_refl _)) _⟩)
        · obtain rfl : k = Z := by omega
          have hp : isPage l = true := by
            rw [hpg.out]
            have h2 := Hz.out
            rwa [List.take_of_length_le (by rw [HLL.out]; exact Nat.le_refl _)] at h2
          have Hp := Lib.hid hp
          have k1 : 8 + 4 * (i : Int) + (k : Int) = (e : Int) := by omega
          rw [k1]
          clear hp k1 ke hz512
          have c0 : wr.cell? ⟨gh + 1, 0, none⟩ = some (.int .u32 (N : Int)) := hPr.cell 0
          have c1 : wr.cell? ⟨gh + 1, 1, none⟩ = some (.slice A i c) := hPr.cell 1
          have r0 : wr.cell? ⟨w.heap.size, 0, none⟩ = some (.int .u32 0) := hXr.cell 0
          have r1 : wr.cell? ⟨w.heap.size, 1, none⟩ = some (.slice none 0 0) := hXr.cell 1
          have f0 := hXr.frozen 0
          have f1 := hXr.frozen 1
          have HA := Lib.hid (And.intro ho (And.intro hXr hb))
          clear ho hXr hb
          go_wp2
          have q1 := own_far (own_far HA.out.1 HA.out.2.1 (by decide) 0 (.int .u32 (N : Int))) (HA.out.2.1.set_ 0 (.int .u32 (N : Int))) (by decide) 1 (.slice A i c)
          have bz := (HA.out.2.2.setCell (show w.heap.size ≤ (⟨w.heap.size, 0, none⟩ : Addr).block by simp) (.int .u32 (N : Int))).setCell (show w.heap.size ≤ (⟨w.heap.size, 1, none⟩ : Addr).block by simp) (.slice A i c)
          have X2 := (HA.out.2.1.set_ 0 (.int .u32 (N : Int))).set_ 1 (.slice A i c)
          have y0 : ((wr.setCell ⟨w.heap.size, 0, none⟩ (.int .u32 (N : Int))).setCell ⟨w.heap.size, 1, none⟩ (.slice A i c)).cell? ⟨w.heap.size, 0, none⟩ = some (.int .u32 (N : Int)) := X2.cell 0
          have y1 : ((wr.setCell ⟨w.heap.size, 0, none⟩ (.int .u32 (N : Int))).setCell ⟨w.heap.size, 1, none⟩ (.slice A i c)).cell? ⟨w.heap.size, 1, none⟩ = some (.slice A i c) := X2.cell 1
          have m1 : i ≤ c := by
            obtain ⟨A', c', e, hc⟩ := own_form HA.out.1
            injection e with e1 e2 e3
            omega
          have q2 := Reads.of_own q1
          rw [← HRC.out] at q2
          exact bodyPost_ret (v := .tuple #[.agg #[.int .u32 (N : Int), .slice A i c], .bool true]) (by simp only [results, Try.results61]; simp [go_sem, y0, y1]) rfl (Or.inr ⟨Hp.out, A, c, by rw [HN.out, HC.out], by rw [HC.out]; exact q2, by rw [HC.out]; exact m1, fun ad h => own_hi q1 ad h, bz⟩)
end
end Go.Proofs.Ytdimkeoncgjegaa
