/-
  Several texts in one: Ha Hb.
-/
import Derived.Test.YtjlpfhioacphkaaMsbm
import Derived.Test.YtjlpfhioacphkaaMsbl
/-
  Heap, plain: what a scan comes to; the reference's page.
-/
namespace Go.Proofs.Ytjlpfhioacphkaa
section
set_option linter.unusedSimpArgs false
set_option linter.unusedVariables false
open Go.RowKit

/-- A record, and where it stands. -/
structure It where
  p : Nat
  s : Nat
  r : List UInt8
/-- The first items of a page. -/
def itK (p : Nat) (rs : List (List UInt8)) (k : Nat) : List It := (List.range k).map fun i => ⟨p, i, rs.getD i []⟩
theorem itK_succ (p : Nat) (rs : List (List UInt8)) (k : Nat) : itK p rs (k + 1) = itK p rs k ++ [⟨p, k, rs.getD k []⟩] := by simp [itK, List.range_succ]
theorem itK_len (p : Nat) (rs : List (List UInt8)) (k : Nat) : (itK p rs k).length = k := by simp [itK]
/-- What a scan comes to: its records, pages, error. -/
def outH (ps : List (List UInt8)) : Nat → Nat → List It → Nat → List It × Nat × Int
  | 0, _, _, _ => ([], 0, 2)
  | f + 1, p, acc, k => match ps[p]? with
    | none => ([], 0, 8)
    | some q => if isPage q = true then
        (if hdN q = 0 then (acc ++ itK p (recs q) (hdC q), k + 1, 0) else outH ps f (hdN q) (acc ++ itK p (recs q) (hdC q)) (k + 1))
      else ([], 0, 2)
theorem outH_none {ps : List (List UInt8)} {f p k : Nat} {acc : List It} (h : ps[p]? = none) : outH ps (f + 1) p acc k = ([], 0, 8) := by rw [outH, h]
theorem outH_no {ps : List (List UInt8)} {f p k : Nat} {acc : List It} {q : List UInt8} (h : ps[p]? = some q) (hp : isPage q = false) : outH ps (f + 1) p acc k = ([], 0, 2) := by rw [outH, h]; simp [hp]
theorem outH_end {ps : List (List UInt8)} {f p k : Nat} {acc : List It} {q : List UInt8} (h : ps[p]? = some q) (hp : isPage q = true) (hz : hdN q = 0) : outH ps (f + 1) p acc k = (acc ++ itK p (recs q) (hdC q), k + 1, 0) := by rw [outH, h]; simp [hp, hz]
theorem outH_next {ps : List (List UInt8)} {f p k : Nat} {acc : List It} {q : List UInt8} (h : ps[p]? = some q) (hp : isPage q = true) (hz : hdN q ≠ 0) : outH ps (f + 1) p acc k = outH ps f (hdN q) (acc ++ itK p (recs q) (hdC q)) (k + 1) := by rw [outH, h]; simp [hp, hz]
theorem hdN_lt (q : List UInt8) (h : hdOk q = true) : hdN q < 4294967296 := by
  have := beVal_lt_of (l := (q.drop 4).take 4) (n := 4) (by simp; omega)
  unfold hdN
  omega
theorem page_hd {q : List UInt8} (h : isPage q = true) : hdOk q = true ∧ hdK q = 1 := by
  unfold isPage at h
  simp only [Bool.and_eq_true, beq_iff_eq, decide_eq_true_eq] at h
  exact ⟨h.1, h.2.1⟩

/-- What the reference's page answers. -/
def RetPg (w : World) (ps : List (List UInt8)) (p : Nat) (e : Ending) (w' : World) : Prop :=
  (∃ E : Int, ((ps[p]? = none ∧ E = 8) ∨ (∃ q, ps[p]? = some q ∧ isPage q = false ∧ E = 2)) ∧ e = .returned (.tuple #[.agg #[.int .u32 0, .slice none 0 0], .int .i64 E]) ∧ Below w.heap.size w w') ∨
  (∃ q A c, ps[p]? = some q ∧ isPage q = true ∧ e = .returned (.tuple #[.agg #[.int .u32 (hdN q : Nat), .slice A (hdC q) c], .int .i64 0]) ∧ Reads w' w'.heap.size 1 A (hdC q) (sL (recs q)) ∧ hdC q ≤ c ∧ (∀ ad, A = some ad → w.heap.size ≤ ad.block) ∧ Below w.heap.size w w')
end
end Go.Proofs.Ytjlpfhioacphkaa
/-
  Heap: the reference's Fetch and Scan.
-/
namespace Go.Proofs.Ytjlpfhioacphkaa
section
set_option linter.unusedSimpArgs false
set_option linter.unusedVariables false
open Go.RowKit

/-- What a fetch comes to. -/
def fetchH (ps : List (List UInt8)) (p s : Nat) : List UInt8 × Int := match ps[p]? with
  | none => ([], 8)
  | some q => if isPage q = true then (if s < hdC q then (recK q s, 0) else ([], 9)) else ([], 2)
/-- The reference's items. -/
def iV (l : List It) : List Value := l.flatMap fun x => [.int .u32 x.p, .int .u16 x.s, .string (str x.r)]
theorem iV_snoc (l : List It) (x : It) : iV (l ++ [x]) = iV l ++ [.int .u32 x.p, .int .u16 x.s, .string (str x.r)] := by simp [iV]
theorem iV_len (l : List It) : (iV l).length = l.length * 3 := flat_len _ 3 l (by simp)
end
end Go.Proofs.Ytjlpfhioacphkaa
