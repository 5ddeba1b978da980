/- What a step's reckons and jumps do (package alu): contracts. -/
import Derived.Test.YtpkgckjlhjcdmaaDoorZAlu1
import Derived.Test.YtpkgckjlhjcdmaaDoorZGIsa
import Derived.Deep.RegionWith
import Derived.Deep.RegionHeld3
namespace Go.Proofs.YtpkgckjlhjcdmaaDoor
open Go.RowKit
theorem func_nil (k : FuncId) (xs : Array Value) (w : World) : (binOp .eql 275 (.func (.func k) xs #[]) .nilFunc).run Tryd.prog w = .ok (.bool false) w := by kernel_rfl
theorem nil_nil (w : World) : (binOp .eql 275 .nilFunc .nilFunc).run Tryd.prog w = .ok (.bool true) w := by kernel_rfl
end Go.Proofs.YtpkgckjlhjcdmaaDoor
