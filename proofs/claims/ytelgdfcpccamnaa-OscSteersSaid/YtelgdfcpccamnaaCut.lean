/- A number cut to a range. -/
import Derived.Test.YtelgdfcpccamnaaBase
namespace Go.Proofs.Ytelgdfcpccamnaa

def cutI (v a b : Int) : Int := min (max v a) b
theorem cutI_in {v a b : Int} (h1 : a ≤ v) (h2 : v ≤ b) : cutI v a b = v := by unfold cutI; omega
theorem cutI_range {v a b : Int} (h : a ≤ b) : a ≤ cutI v a b ∧ cutI v a b ≤ b := by unfold cutI; omega
end Go.Proofs.Ytelgdfcpccamnaa
