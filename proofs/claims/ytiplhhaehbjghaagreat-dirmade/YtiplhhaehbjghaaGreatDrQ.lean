/- What a law's walk asks of a script's pair: the calls that write. -/
import Derived.Test.YtiplhhaehbjghaaGreatQ53
namespace Go.Proofs.YtiplhhaehbjghaaGreat
open Go.RowKit Go.Maps
set_option linter.unusedVariables false
set_option linter.unusedSimpArgs false
set_option maxRecDepth 100000

theorem Pr.mkD {B : Nat} {w0 w : World} {pp : Nat} {a : Sa} {s0 s : Sg} (h : Pr B w0 w pp a s) {n : Nat} (k : DgP.Kp s0 s n) (hn : n ≤ 3800) (p : ByteArray) (hp : p.size ≤ maxLen) (kd m : Int) :
  Calls Tryz.prog 21 #[.pointer (some ⟨a.s, 0, none⟩), .string p, .int .i64 kd, .int .i64 m] w fun e w' => Pr B w0 w' pp a (drMake DgP s p kd m).1 ∧ (e = .returned (.tuple #[.int .u32 (drMake DgP s p kd m).2.1, .int .i64 (drMake DgP s p kd m).2.2]) ∧ DgP.Kp s0 (drMake DgP s p kd m).1 (n + 50)) ∧ KeepN w w' :=
 h.callN (fun X hX => (make_g DgP_ok (s := s) hX p hp kd m k hn).mono (fun e w' r => ⟨r.2.1, r.1, r.2.2⟩))
theorem Pr.unD {B : Nat} {w0 w : World} {pp : Nat} {a : Sa} {s0 s : Sg} (h : Pr B w0 w pp a s) {n : Nat} (k : DgP.Kp s0 s n) (hn : n ≤ 3800) (p : ByteArray) (hp : p.size ≤ maxLen) :
  Calls Tryz.prog 24 #[.pointer (some ⟨a.s, 0, none⟩), .string p] w fun e w' => Pr B w0 w' pp a (drUnlink DgP s p).1 ∧ (e = .returned (.int .i64 (drUnlink DgP s p).2) ∧ DgP.Kp s0 (drUnlink DgP s p).1 (n + 50)) ∧ KeepN w w' :=
 h.callN (fun X hX => (unlink_g DgP_ok (s := s) hX p hp k hn).mono (fun e w' r => ⟨r.2.1, r.1, r.2.2⟩))
theorem Pr.rdD {B : Nat} {w0 w : World} {pp : Nat} {a : Sa} {s0 s : Sg} (h : Pr B w0 w pp a s) {n : Nat} (k : DgP.Kp s0 s n) (hn : n ≤ 3800) (p : ByteArray) (hp : p.size ≤ maxLen) :
  Calls Tryz.prog 23 #[.pointer (some ⟨a.s, 0, none⟩), .string p] w fun e w' => Pr B w0 w' pp a (drRmdir DgP s p).1 ∧ (e = .returned (.int .i64 (drRmdir DgP s p).2) ∧ DgP.Kp s0 (drRmdir DgP s p).1 (n + 50)) ∧ KeepN w w' :=
 h.callN (fun X hX => (rmdir_g DgP_ok (s := s) hX p hp k hn).mono (fun e w' r => ⟨r.2.1, r.1, r.2.2⟩))

end Go.Proofs.YtiplhhaehbjghaaGreat
