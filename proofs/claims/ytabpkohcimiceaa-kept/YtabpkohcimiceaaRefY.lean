import Derived.Test.YtabpkohcimiceaaTakeA
import Derived.Lib.Strings
namespace Go.Proofs.Ytabpkohcimiceaa
set_option maxRecDepth 100000
set_option maxHeartbeats 1000000
open Go.RowKit
set_option linter.unusedVariables false
set_option linter.unusedSimpArgs false
def TQ (r : Int × List UInt8 × StM) (base : Nat) (w' : World) (ky : ByteArray) (x : StM) (a : Option Addr) (n c : Nat) : Prop := r.1 = 0 → ky = str r.2.1 ∧ x = r.2.2 ∧ w'.ownsRow base 168 3 (.slice a n c) x.kept.length (entsCells x.kept)
theorem TQ.put {r : Int × List UInt8 × StM} {base b : Nat} {w : World} {ky : ByteArray} {x : StM} {a : Option Addr} {n c : Nat} (h : TQ r base w ky x a n c) (hb : b < base) (i : Nat) (v : Value) : TQ r base (w.setCell ⟨b, i, none⟩ v) ky x a n c := fun q => ⟨(h q).1, (h q).2.1, ownsRow_setCell_below (h q).2.2 (by exact hb) _⟩
theorem TQ.alloc {r : Int × List UInt8 × StM} {base : Nat} {w : World} {ky : ByteArray} {x : StM} {a : Option Addr} {n c : Nat} (h : TQ r base w ky x a n c) (o : Obj) : TQ r base (w.alloc o) ky x a n c := fun q => ⟨(h q).1, (h q).2.1, (h q).2.2.alloc o⟩
theorem TQ.drew {r : Int × List UInt8 × StM} {base : Nat} {w : World} {ky : ByteArray} {x : StM} {a : Option Addr} {n c : Nat} (h : TQ r base w ky x a n c) : TQ r base w.drew ky x a n c := h
end Go.Proofs.Ytabpkohcimiceaa
