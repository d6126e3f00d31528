
/-
  The program's Answer.
-/
import Derived.Test.YtblpflobpffjnaaDoorWq
set_option linter.unusedSimpArgs false
set_option linter.unusedVariables false
namespace Go.Proofs.YtblpflobpffjnaaDoor
open Go.RowKit

/-- A row as it lies in memory. -/
structure Rw where
  A : Option Addr
  n : Nat
  c : Nat
  l : List Vl
def vRw (l : List Rw) : List Value := l.map fun r => .slice r.A r.n r.c
theorem vRw_len (l : List Rw) : (vRw l).length = l.length := by simp [vRw]
theorem Reads.rw_ {w : World} {B : Nat} {A : Option Addr} {n k : Nat} {l : List Rw} (hr : Reads w B 1 A n (vRw l)) (hk : k < n) :
    ∃ ad r, A = some ad ∧ ad.block < B ∧ l[k]? = some r ∧ w.cell? (ad.add k) = some (.slice r.A r.n r.c) := by
  obtain ⟨ad, u, hA, hb, hu, hc⟩ := hr.at_ hk
  simp only [vRw, List.getElem?_map, Option.map_eq_some_iff] at hu
  obtain ⟨r, hr, rfl⟩ := hu
  exact ⟨ad, r, hA, hb, hr, hc⟩
def rowT (r : Rw) : List UInt8 := joinB (r.l.map showL) ++ [10]
def ansT (names : List (List UInt8)) (rows : List Rw) : List UInt8 := joinB (names.map nameL) ++ [10] ++ rows.flatMap rowT
theorem rowT_len {r : Rw} (hn : r.l.length ≤ 10000) (h : RowOk r.l) : (rowT r).length ≤ 100030001 := by
  have h1 := joinB_bound 10000 (r.l.map showL) (rowok_show h)
  rw [List.length_map] at h1
  have h2 : r.l.length * (10000 + 3) ≤ 10000 * (10000 + 3) := Nat.mul_le_mul_right _ hn
  unfold rowT
  rw [List.length_append, List.length_cons, List.length_nil]
  omega
/-- All that an answer has, where it isn't great. -/
structure AnsIn (w : World) (B : Nat) (NA : Option Addr) (nn : Nat) (names : List (List UInt8)) (RA : Option Addr) (rn : Nat) (rows : List Rw) : Prop where
  nr : Reads w B 1 NA nn (vStr names)
  rr : Reads w B 1 RA rn (vRw rows)
  each : ∀ r ∈ rows, Reads w B 3 r.A r.n (vV r.l) ∧ r.n ≤ 10000 ∧ RowOk r.l
  nn : nn ≤ 9000
  nl : ∀ x ∈ names, x.length ≤ 9000
  rn : rn ≤ 300
theorem AnsIn.below {w w' : World} {B : Nat} {NA : Option Addr} {nn : Nat} {names : List (List UInt8)} {RA : Option Addr} {rn : Nat} {rows : List Rw} (h : AnsIn w B NA nn names RA rn rows) (hb : Below B w w') : AnsIn w' B NA nn names RA rn rows :=
  ⟨h.nr.below hb, h.rr.below hb, fun r hr => ⟨(h.each r hr).1.below hb, (h.each r hr).2⟩, h.nn, h.nl, h.rn⟩
theorem AnsIn.nlen {w : World} {B : Nat} {NA : Option Addr} {nn : Nat} {names : List (List UInt8)} {RA : Option Addr} {rn : Nat} {rows : List Rw} (h : AnsIn w B NA nn names RA rn rows) : names.length = nn := by
  have := h.nr.1; rw [vStr_len] at this; omega
theorem AnsIn.rlen {w : World} {B : Nat} {NA : Option Addr} {nn : Nat} {names : List (List UInt8)} {RA : Option Addr} {rn : Nat} {rows : List Rw} (h : AnsIn w B NA nn names RA rn rows) : rows.length = rn := by
  have := h.rr.1; rw [vRw_len] at this; omega
theorem AnsIn.nT {w : World} {B : Nat} {NA : Option Addr} {nn : Nat} {names : List (List UInt8)} {RA : Option Addr} {rn : Nat} {rows : List Rw} (h : AnsIn w B NA nn names RA rn rows) : (joinB (names.map nameL)).length ≤ 9000 * 9004 := by
  have h1 := joinB_bound 9001 (names.map nameL) (fun x hx => by
    obtain ⟨y, hy, rfl⟩ := List.mem_map.1 hx
    have := nameL_len y
    have := h.nl y hy
    omega)
  rw [List.length_map, h.nlen] at h1
  exact Nat.le_trans h1 (Nat.mul_le_mul_right _ h.nn)
theorem AnsIn.rT {w : World} {B : Nat} {NA : Option Addr} {nn : Nat} {names : List (List UInt8)} {RA : Option Addr} {rn : Nat} {rows : List Rw} (h : AnsIn w B NA nn names RA rn rows) (k : Nat) : ((rows.take k).flatMap rowT).length ≤ 300 * 100030001 := by
  refine Nat.le_trans (flat_bound rowT 100030001 _ fun r hr => ?_) (Nat.mul_le_mul_right _ ?_)
  · have hr2 := h.each r (List.mem_of_mem_take hr)
    have hl : r.l.length = r.n := by have := hr2.1.1; rw [vV_len] at this; omega
    exact rowT_len (by rw [hl]; exact hr2.2.1) hr2.2.2
  · rw [List.length_take, h.rlen]
    have := h.rn
    omega

set_option maxRecDepth 100000 in
set_option maxHeartbeats 2000000 in
theorem answer_any (NA : Option Addr) (nn nc : Nat) (names : List (List UInt8)) (RA : Option Addr) (rn rc : Nat) (rows : List Rw) (w : World) (hv : VM w) (hA : AnsIn w w.heap.size NA nn names RA rn rows) :
    Calls Tryd.prog 11 #[.agg #[.slice NA nn nc, .slice RA rn rc]] w (RetB w (.string (str (ansT names rows)))) := by
  obtain ⟨WA, hWA⟩ : ∃ WA, w.alloc (.cells #[.slice NA nn nc, .slice RA rn rc] 42) = WA := ⟨_, rfl⟩
  have hbA : Below w.heap.size w WA := hWA ▸ ball (Below.refl w.heap.size w) _
  have B0 : Blk WA w.heap.size 42 #[.slice NA nn nc, .slice RA rn rc] := hWA ▸ Blk.new w _ _
  have hzA : w.heap.size < WA.heap.size := B0.lt
  have hBE : Below WA.heap.size WA (WA.alloc (.cells #[.pointer none, .slice none 0 0] 74)) := ball (Below.refl _ _) _
  have HN := Lib.hid (Bd30.new WA (b := WA.heap.size) rfl)
  have HAI := Lib.hid fun (W : World) (hb : Below WA.heap.size WA W) => hA.below (bto0 hbA hb)
  have HVM := Lib.hid fun (W : World) (hb : Below WA.heap.size WA W) => hv.below0 (bto0 hbA hb)
  have hS := Lib.hid fun (W : World) (hb : Below WA.heap.size WA W) => (show W.cell? ⟨w.heap.size, 0, none⟩ = some (.slice NA nn nc) ∧ W.cell? ⟨w.heap.size, 1, none⟩ = some (.slice RA rn rc) from ⟨(hb.cell (by simp <;> omega)).trans (B0.cell 0), (hb.cell (by simp <;> omega)).trans (B0.cell 1)⟩)
  have HBA := Lib.hid hbA
  have HBE := Lib.hid hBE
  have HP := Lib.hid (show ansT names rows = joinB (names.map nameL) ++ [10] ++ rows.flatMap rowT from rfl)
  have HRL := Lib.hid (And.intro hA.rlen hA.nT)
  have HRT := Lib.hid hA.rT
  have HNN := Lib.hid (And.intro hA.nn (And.intro hA.nl hA.rn))
  have rI : (rn : Int) ≤ 300 := by have := hA.rn; omega
  obtain ⟨f0, f1⟩ := hS.out _ hBE
  have HLS := Lib.hid (lineS_any WA.heap.size [] NA nn nc w.heap.size names _ HN.out (fun W hb => (HAI.out W (HBE.out.trans hb)).nr) hA.nn hA.nl (by simp))
  rw [List.nil_append] at HLS
  clear hA hv hbA hBE B0
  go_enter Tryd.func11, Tryd.ntmps11
  go_wp2_with fail
  refine HLS.out.mono ?_
  rintro e w1 ⟨⟨v, rfl⟩, hbd1, hb1⟩
  have hbw1 := HBE.out.trans hb1
  clear f0 f1 hb1
  obtain ⟨f0, f1⟩ := hS.out _ hbw1
  generalize joinB (names.map nameL) = N at *
  go_wp2
  clear f0 f1
  go_loopw [12] (fun kv wr => ∃ k : Nat, k ≤ rn ∧ kv = .int .i64 k ∧ Bd30 wr WA.heap.size (N ++ [10] ++ (rows.take k).flatMap rowT) ∧ Below WA.heap.size WA wr) (fun kv _ => rn - (intOf kv).toNat)
  case atStart => exact ⟨0, Nat.zero_le _, rfl, by simpa using hbd1, hbw1⟩
  case round =>
    clear hbd1 hbw1
    obtain ⟨k, hk, rfl, hbd, hb⟩ := hrel
    have k0 : (0 : Int) ≤ (k : Int) := by omega
    have hgt := hbd.lt
    have g0 : w.heap.size < wr.heap.size := by omega
    by_cases hlt : k < rn
    · have k1 : (k : Int) < (rn : Int) := by omega
      obtain ⟨ad, r, rfl, hab, hx, d0⟩ := (HAI.out wr hb).rr.rw_ hlt
      have hrm := List.mem_of_getElem? hx
      have hro := (HAI.out wr hb).each r hrm
      have hnx := flat_take rowT hx
      rw [show rowT r = joinB (r.l.map showL) ++ [10] from rfl] at hnx
      have HNX := Lib.hid hnx
      have HW := Lib.hid (lineV_any WA.heap.size (N ++ [10] ++ (rows.take k).flatMap rowT) r.A r.n r.c w.heap.size r.l wr hbd (fun W h => ((HAI.out W (hb.trans h)).each r hrm).1) (fun W h => HVM.out W (hb.trans h)) hro.2.1 hro.2.2 (by have := HRT.out k; have := HRL.out.2; rw [List.length_append, List.length_append, List.length_cons, List.length_nil]; omega))
      clear hbd hx hrm hro hnx
      go_wp2_with fail
      refine HW.out.mono ?_
      rintro e w2 ⟨⟨v2, rfl⟩, hbd2, hb2⟩
      go_wp2
      go_roundw
      case rel => exact ⟨k + 1, by omega, by go_num, by rw [HNX.out]; simpa using hbd2, hb.trans hb2⟩
      case measure => simp [intOf]; omega
    · obtain rfl : k = rn := by omega
      have hfin : rows.take k = rows := List.take_of_length_le (by rw [HRL.out.1]; omega)
      rw [hfin] at hbd
      have HSS := Lib.hid (bstr_any WA.heap.size _ wr hbd)
      clear hbd hfin
      go_wp2_with fail
      refine HSS.out.mono ?_
      rintro e w2 ⟨rfl, hb2⟩
      go_wp2
      go_ret
      exact ⟨by rw [HP.out, List.append_assoc]; rfl, bto HBA.out (hb.trans hb2) HBA.out.size⟩
end Go.Proofs.YtblpflobpffjnaaDoor
