/- Calls that a statement is handed, with their size. -/
import Derived.Test.YtpbokenambjclaaDOps
import Derived.SizedLaws
namespace Go.Proofs.Ytpbokenambjclaa
open Go.RowKit
set_option linter.unusedVariables false
set_option maxRecDepth 100000

theorem dops_sized {H : Type} {enc : TypeId × Value → H} {W : World} {base : Nat} {held : Bool} {fuel : Nat} {a : Option Addr} {len cap : Nat} {x : DataW H × List MemPlace}
    (h : DataW.trod enc Try.prog W base (fun _ => true) held fuel 38 [.slice a len cap] = some x)
    {ts : List TypeId} {ds : List (DataW H)} {j : Nat} (hsz : (DataW.weightsEach Try.prog ts ds).all (· ≤ reachBytes) = true) (ht : ts[j]? = some 38) (hd : ds[j]? = some x.1) : len ≤ 17592186043904 := by
  rcases Deep.open_slice Try.underlying38 h with ⟨hcs, _⟩ | ⟨a', l, c, m, n, D, Pl, hcs, hb, hl, hm, hmm, hy, hx⟩
  · simp at hcs
    obtain ⟨rfl, rfl, rfl⟩ := hcs
    exact Nat.zero_le _
  · simp at hcs
    obtain ⟨rfl, rfl, rfl⟩ := hcs
    rw [hy] at hd
    have hw := sized_slice hsz ht hd Try.underlying38
    rw [show Try.prog.bytesOf 44 = 152 from by kernel_rfl] at hw
    simp only [List.length_map, List.length_range, reachBytes] at hw
    omega

end Go.Proofs.Ytpbokenambjclaa
