/-
  Several texts in one: Im.
-/
import Derived.Test.YtjlpfhioacphkaaMsbb
import Derived.Test.YtjlpfhioacphkaaMsau
import Derived.Test.YtjlpfhioacphkaaMsat
/-
  SchemaSame: the walk.
-/
namespace Go.Proofs.Ytjlpfhioacphkaa
section
set_option linter.unusedSimpArgs false
set_option linter.unusedVariables false
open Go.RowKit

theorem gr_any (A : Option Addr) (n c : Nat) (l : List Tb) (B : Option Addr) (m d : Nat) (r : List Ix) (w : World) (hk : BkIn w A n c l B m d r) (hn : n ≤ 2199023255552) :
    Calls Try.prog 4 #[.agg #[.slice A n c, .slice B m d]] w (RetGr w l) :=
  great12_any A n c l B m d r w hk.hr (fun t ht => (hk.hl t ht).1) hk.hx hn (Nat.le_trans hk.hm.1 hk.hm.2) (fun x hx => (hk.hix x hx).1)
end
end Go.Proofs.Ytjlpfhioacphkaa
