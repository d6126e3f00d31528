/-
  By.
-/
import Derived.Test.YtebobcbaloddaaaGreatMoab
import Derived.Lib.SlBytesRow
import Derived.Laws.CopyOwn
import Derived.ShutString
import Derived.Laws.Cells
import Derived.Laws.BytesString
namespace Go.Proofs.YtebobcbaloddaaaGreat
section
set_option linter.unusedSimpArgs false
set_option linter.unusedVariables false
open Go.RowKit
def bL (l : List UInt8) : List Value := l.map fun x => Value.int .u8 (x.toNat : Int)
def bV (l : List UInt8) : Array Value := (bL l).toArray
def str (l : List UInt8) : ByteArray := ⟨l.toArray⟩
theorem bL_len (l : List UInt8) : (bL l).length = l.length := by simp [bL]
theorem bV_size (l : List UInt8) : (bV l).size = l.length := by simp [bV, bL_len]
theorem bV_toList (l : List UInt8) : (bV l).toList = bL l := by simp [bV]
theorem bL_one (l : List UInt8) : ∀ u ∈ bL l, u.oneCell' = true := by
 intro u hu
 obtain ⟨x, _, rfl⟩ := List.mem_map.1 hu
 rfl
theorem bV_at {l : List UInt8} {i : Nat} {x : UInt8} (h : l[i]? = some x) : (bV l)[i]? = some (.int .u8 (x.toNat : Int)) := by simp [bV, bL, h]
theorem str_size (l : List UInt8) : (str l).size = l.length := by simp [str, ByteArray.size]
theorem str_data (l : List UInt8) : (str l).data.toList = l := by simp [str]
theorem str_of (s : ByteArray) : str s.data.toList = s := by cases s; simp [str]
theorem str_at (l : List UInt8) (i : Nat) (h : i < (str l).size) : l[i]? = some ((str l)[i]) := by
 have h' : i < l.length := by rwa [str_size] at h
 rw [List.getElem?_eq_getElem h']
 rfl
theorem foldl_push (l : List UInt8) : ∀ s : ByteArray, (l.map fun x => (x.toNat : Int)).foldl (fun r n => r.push (UInt8.ofNat n.toNat)) s = ⟨s.data ++ l.toArray⟩ := by
 induction l with
 | nil => intro s; simp
 | cons x r ih =>
   intro s
   simp only [List.map_cons, List.foldl_cons, ih]
   simp [ByteArray.push]
theorem conv_reads {P : Program} {w : World} {B : Nat} {A : Option Addr} {n : Nat} {l : List UInt8} (h : Reads w B 1 A n (bL l)) (src e dst : TypeId) (hs : P.underlying src = some (.slice e)) (he : P.underlying e = some (.int .u8)) (hd : P.underlying dst = some .string) (cap : Nat) :
 (convert src dst (.slice A n cap)).run P w = .ok (.string (str l)) w := by
 have hl : l.length = n := by have := h.1; rw [bL_len] at this; omega
 rw [run_convert_bytes_string w src dst e A n cap hs he hd]
 have key : ∀ a : Addr, A = some a → (Conv.bytesToString (.slice (some a) n cap)).run P w = .ok (.string (str l)) w := by
  intro a ha
  have hcell : ∀ j v, (bL l)[j]? = some v → w.cell? (a.add j) = some v := by
   intro j v hv
   have hj : j < (bL l).length := lt_of_at hv
   rw [bL_len] at hj
   obtain ⟨ad, e', _, hc⟩ := h.2 (by omega)
   rw [ha] at e'
   injection e' with e'
   subst e'
   exact hc j v hv
  have h1 := run_loadCells_list (P := P) w a (bL l) hcell
  rw [bL_len, hl] at h1
  have h2 := run_bytesToString (P := P) w a n cap (l.map fun x => (x.toNat : Int)) (by rw [h1]; simp [bL, Function.comp_def])
  rw [h2, foldl_push]
  simp [str, ByteArray.empty, ByteArray.emptyWithCapacity]
  rfl
 rcases A with _ | a
 · have hn : n = 0 := by
    rcases Nat.eq_zero_or_pos n with h0 | h0
    · exact h0
    · obtain ⟨ad, e', _⟩ := h.2 h0; cases e'
   subst hn
   have : l = [] := List.eq_nil_of_length_eq_zero hl
   subst this
   simp [Conv.bytesToString, str]
   rfl
 · exact key a rfl
theorem extract_str (l : List UInt8) (i j : Nat) : (str l).extract i j = str ((l.drop i).take (j - i)) := by
 apply ByteArray.ext
 apply Array.toList_inj.1
 rw [Lib.extract_data, str_data, str_data]
section
variable {P : Program} {t : TypeId} (hu : P.underlying t = some .string)
include hu
theorem cut_mid (l r : List UInt8) (k k' : IntKind) (i j : Int) (h0 : 0 ≤ i) (h1 : i ≤ j) (h2 : j ≤ l.length) (hr : (l.drop i.toNat).take (j.toNat - i.toNat) = r) (W : World) :
 (Instr.slice t (.string (str l)) (some (.int k i)) (some (.int k' j)) none).run P W = .ok (.string (str r)) W := by
 rw [run_slice_string W t (str l) k k' i j hu h0 h1 (by rw [str_size]; exact h2), extract_str, hr]
end
theorem splice_bL (l r : List UInt8) (k : Nat) : splice (bL l) k (bL r) = bL (splice l k r) := by simp [splice, bL, List.map_take, List.map_drop]
theorem splice_bV (l r : List UInt8) (k : Nat) : (splice (bV l).toList k (bL r)).toArray = bV (splice l k r) := by rw [bV_toList, splice_bL]; rfl
section
variable {α : Type} (l r : List α) (k : Nat)
end
end
end Go.Proofs.YtebobcbaloddaaaGreat
