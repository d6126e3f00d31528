/-
  A reader of a page's bytes: contract of number.
-/
import Derived.Test.YtgdipljaddodhaaYq
set_option linter.unusedSimpArgs false
namespace Go.Proofs.Ytgdipljaddodhaa
open Go.RowKit

def RetNm (w : World) (g B : Nat) (r : List UInt8) (sh : Bool) (k : Nat) (e : Ending) (w' : World) : Prop :=
  e = .returned (.int .u32 (beVal (tk r k) : Int)) ∧ Rd w' g B (dr r k) (sh || decide (r.length < k)) ∧ w.grownBy w' (some g)
set_option maxHeartbeats 2000000 in
theorem number_any (g B : Nat) (r : List UInt8) (sh : Bool) (k : Nat) (w : World) (h : Rd w g B r sh) (hk : k ≤ 4) :
    Calls Try.prog 41 #[.pointer (some ⟨g, 0, none⟩), .int .i64 k] w (RetNm w g B r sh k) := by
  have T := Lib.hid (take_any g B r sh k w h (by omega))
  have hlen := tk_len r k
  unfold RetNm
  unfold RetTk at T
  generalize tk r k = L at *
  generalize dr r k = D at *
  generalize (sh || decide (r.length < k)) = sh' at *
  have HL := Lib.hid hlen; clear hlen h
  have hkI : (k : Int) ≤ 4 := by omega
  have hk0 : (0 : Int) ≤ (k : Int) := by omega
  go_enter Try.func41, Try.ntmps41
  go_wp2_with fail
  refine T.out.mono ?_
  rintro e w1 ⟨A, c, rfl, hc, hr, hrd, hbt⟩
  have HRd := Lib.hid (And.intro hrd hbt)
  clear hrd hbt
  go_wp2
  go_loop [5, 12] (fun uv iv => ∃ j : Nat, j ≤ k ∧ iv = .int .i64 j ∧ uv = .int .u32 ((beVal (L.take j) : Nat) : Int)) (fun _ iv => k - (intOf iv).toNat)
  case atStart => exact ⟨0, by omega, rfl, rfl⟩
  case round =>
    obtain ⟨j, hj, rfl, rfl⟩ := hrel
    have q0 : (0 : Int) ≤ (j : Int) := by omega
    by_cases hlt : j < k
    · have q1 : (j : Int) < (k : Int) := by omega
      obtain ⟨ad, b, rfl, _, hb, cb⟩ := hr.byte hlt
      have hbt := Lib.hid (beVal_take hb)
      have hlt2 : beVal (L.take j) < 16777216 := by
        have h1 := beVal_lt_of (l := L.take j) (n := 3) (by rw [List.length_take]; omega)
        omega
      have hor := or_u32 (beVal (L.take j)) b hlt2
      rw [← hbt.out] at hor
      clear hlt2 hb hbt
      obtain ⟨U, hU⟩ : ∃ U, beVal (L.take j) = U := ⟨_, rfl⟩
      rw [hU] at hor ⊢
      clear hU
      have HOR := Lib.hid hor; clear hor
      have xb : (b.toNat : Int) ≤ 255 := by have := b.toNat_lt; omega
      have xb0 : (0 : Int) ≤ (b.toNat : Int) := by omega
      go_wp2
      go_round
      case rel => exact ⟨j + 1, by omega, by go_num, val_int HOR.out⟩
      case measure => simp [intOf]; omega
    · obtain rfl : j = k := by omega
      have hT : Hid (beVal (L.take j) = beVal L) := Lib.hid (by rw [List.take_of_length_le (by rw [HL.out]; exact Nat.le_refl _)])
      go_wp2
      go_ret
      exact ⟨by rw [hT.out]; rfl, HRd.out.1, HRd.out.2⟩

theorem but_far {w a : World} {g : Nat} (h : w.grownBy a (some g)) {p : Addr} (hp : w.heap.size ≤ p.block) (u : Value) : w.grownBy (a.setCell p u) (some g) := by
  have k := (Below.refl 0 a).setCell (p := p) (Nat.zero_le _) u
  exact ⟨k.os.trans h.os, k.tape.trans h.tape, k.output.trans h.output, Nat.le_trans h.size k.size, fun i hi hne => (Below.heap_setCell _ _ _ _ (by omega)).trans (h.block i hi hne)⟩
theorem Rd.far {a : World} {g B : Nat} {r : List UInt8} {sh : Bool} (h : Rd a g B r sh) {p : Addr} (hp : g < p.block) (u : Value) : Rd (a.setCell p u) g B r sh := by
  obtain ⟨A, m, c, h1, h2, h3, h4⟩ := h
  have hk : a.grownBy (a.setCell p u) (some p.block) := by
    have k := (Below.refl 0 a).setCell (p := p) (Nat.zero_le _) u
    exact ⟨k.os, k.tape, k.output, k.size, fun i hi hne => Below.heap_setCell _ _ _ _ (fun e => hne (by rw [e]))⟩
  exact ⟨A, m, c, h1.far (by omega) u, reads_but hk h2 (by omega), h3, h4⟩
/-- The entry with which bytes begin, as a reader takes it; what is left; whether something wasn't there. -/
def rdKey (r : List UInt8) : List UInt8 := tk (dr r 2) (beVal (tk r 2))
def rd1 (r : List UInt8) : List UInt8 := dr (dr r 2) (beVal (tk r 2))
def rdE (r : List UInt8) : En := ⟨str (rdKey r), (beVal (tk (rd1 r) 4) : Int), (beVal (tk (dr (rd1 r) 4) 2) : Int)⟩
def rdR (r : List UInt8) : List UInt8 := dr (dr (rd1 r) 4) 2
def rdS (r : List UInt8) : Bool := decide (r.length < 2) || decide ((dr r 2).length < beVal (tk r 2)) || decide ((rd1 r).length < 4) || decide ((dr (rd1 r) 4).length < 2)
def RetEn (w : World) (g B : Nat) (r : List UInt8) (sh : Bool) (e : Ending) (w' : World) : Prop :=
  e = .returned (rdE r).agg ∧ Rd w' g B (rdR r) (sh || rdS r) ∧ w.grownBy w' (some g)
set_option maxHeartbeats 2000000 in
theorem entry_any (g B : Nat) (r : List UInt8) (sh : Bool) (w : World) (h : Rd w g B r sh) :
    Calls Try.prog 39 #[.pointer (some ⟨g, 0, none⟩)] w (RetEn w g B r sh) := by
  have hgw : g < w.heap.size := by obtain ⟨A, m, c, h1, _⟩ := h; exact h1.lt
  have hBg : B ≤ g := by obtain ⟨A, m, c, _, _, _, h4⟩ := h; exact h4
  have X0 := Blk.new w 27 #[.string ⟨#[]⟩, .int .u32 0, .int .u16 0]
  have ha : w.grownBy (w.alloc (.cells #[.string ⟨#[]⟩, .int .u32 0, .int .u16 0] 27)) (some g) := but_alloc _ _ _
  have hrd0 : Rd (w.alloc (.cells #[.string ⟨#[]⟩, .int .u32 0, .int .u16 0] 27)) g B r sh := by
    obtain ⟨A, m, c, h1, h2, h3, h4⟩ := h
    exact ⟨A, m, c, h1.alloc _, h2.keep (fun p hp => World.cell?_alloc_lt w _ p (by omega)), h3, h4⟩
  have hb2 : beVal (tk r 2) ≤ 100000 := by have := beVal_lt_of (l := tk r 2) (n := 2) (by rw [tk_len]; exact Nat.le_refl _); omega
  have N1 := Lib.hid (number_any g B r sh 2 _ hrd0 (by omega))
  have HX := Lib.hid X0
  have HA := Lib.hid ha
  clear X0 ha hrd0 h
  go_enter Try.func39, Try.ntmps39
  go_wp2_with fail
  refine N1.out.mono ?_
  rintro e w1 ⟨rfl, hrd1, hb1⟩
  have n0 : (0 : Int) ≤ (beVal (tk r 2) : Int) := by omega
  have n1 : (beVal (tk r 2) : Int) ≤ 100000 := by omega
  go_wp2_with fail
  refine (take_any g B (dr r 2) _ (beVal (tk r 2)) w1 hrd1 hb2).mono ?_
  rintro e w2 ⟨A, c, rfl, hc, hr2, hrd2, hb2'⟩
  have hcv := conv_reads hr2 34 5 9 Try.underlying34 Try.underlying5 Try.underlying9 c
  go_wp2_with fail
  refine (number_any g B (rd1 r) _ 4 w2 hrd2 (by omega)).mono ?_
  rintro e w3 ⟨rfl, hrd3, hb3⟩
  go_wp2_with fail
  refine (number_any g B _ _ 2 w3 hrd3 (by omega)).mono ?_
  rintro e w4 ⟨rfl, hrd4, hb4⟩
  have X4 := (((HX.out.grown hb1 (by simp; omega)).grown hb2' (by simp; omega)).grown hb3 (by simp; omega)).grown hb4 (by simp; omega)
  have m0 : (0 : Int) ≤ (beVal (tk (dr (rd1 r) 4) 2) : Int) := by omega
  have m1 : (beVal (tk (dr (rd1 r) 4) 2) : Int) ≤ 65535 := by have := beVal_lt_of (l := tk (dr (rd1 r) 4) 2) (n := 2) (by rw [tk_len]; exact Nat.le_refl _); omega
  have hall := but_trans (but_trans (but_trans (but_trans HA.out hb1) hb2') hb3) hb4
  have c0 : w4.cell? ⟨w.heap.size, 0, none⟩ = some (.string ⟨#[]⟩) := X4.cell 0
  have c1 : w4.cell? ⟨w.heap.size, 1, none⟩ = some (.int .u32 0) := X4.cell 1
  have c2 : w4.cell? ⟨w.heap.size, 2, none⟩ = some (.int .u16 0) := X4.cell 2
  have f0 := X4.frozen 0
  have f1 := X4.frozen 1
  have f2 := X4.frozen 2
  have hsh : ((((sh || decide (r.length < 2)) || decide ((dr r 2).length < beVal (tk r 2))) || decide ((dr (dr r 2) (beVal (tk r 2))).length < 4)) || decide ((dr (rd1 r) 4).length < 2)) = (sh || rdS r) := by unfold rdS rd1; simp [Bool.or_assoc]
  have HF := Lib.hid (And.intro hall (And.intro hrd4 hsh))
  have hen : (rdE r).agg = .agg #[.string (str (tk (dr r 2) (beVal (tk r 2)))), .int .u32 (beVal (tk (rd1 r) 4) : Int), .int .u16 (beVal (tk (dr (rd1 r) 4) 2) : Int)] := rfl
  have HEn := Lib.hid hen
  clear hall hrd4 hsh hrd1 hrd2 hrd3 hb1 hb2' hb3 hb4 hr2 hcv hen
  go_wp2
  exact bodyPost_ret (v := .agg #[.string (str (tk (dr r 2) (beVal (tk r 2)))), .int .u32 (beVal (tk (rd1 r) 4) : Int), .int .u16 (beVal (tk (dr (rd1 r) 4) 2) : Int)]) (by simp [results, Try.results39, go_sem, c0, c1, c2]) rfl ⟨by rw [HEn.out], by rw [← HF.out.2.2]; repeat (first | exact HF.out.2.1 | refine Rd.far ?_ hgw _), by repeat (first | exact HF.out.1 | refine but_far ?_ (Nat.le_refl _) _)⟩
end Go.Proofs.Ytgdipljaddodhaa
