/-
 A message is read: the contract.
-/
import Derived.Test.YtckcojkpghiclaaGreatDoorProMsg
import Derived.Test.YtckcojkpghiclaaGreatDoorShelfSort
import Derived.Test.YtckcojkpghiclaaGreatDoorTySrt
import Derived.Lib.AppendStr
import Derived.Test.YtckcojkpghiclaaGreatDoorTokBox
import Derived.Deep.RegionHeld3
import Derived.Laws.MakeOwn
namespace Go.Proofs.YtckcojkpghiclaaGreatDoor
set_option maxRecDepth 100000
open Go.RowKit
end Go.Proofs.YtckcojkpghiclaaGreatDoor
/-
 An enum is read: the contract.
-/
namespace Go.Proofs.YtckcojkpghiclaaGreatDoor
set_option maxRecDepth 100000
open Go.RowKit
end Go.Proofs.YtckcojkpghiclaaGreatDoor
/-
 A file is read: its rows of messages and of enums; the contract.
-/
namespace Go.Proofs.YtckcojkpghiclaaGreatDoor
set_option maxRecDepth 100000
open Go.RowKit
end Go.Proofs.YtckcojkpghiclaaGreatDoor
/-
 Lines are appended to what is printed: the frame, and the contract.
-/
namespace Go.Proofs.YtckcojkpghiclaaGreatDoor
set_option maxRecDepth 100000
open Go.RowKit
end Go.Proofs.YtckcojkpghiclaaGreatDoor
/-
 A field is printed: the contracts.
-/
namespace Go.Proofs.YtckcojkpghiclaaGreatDoor
set_option maxRecDepth 100000
open Go.RowKit
end Go.Proofs.YtckcojkpghiclaaGreatDoor
/-
 A oneof is printed: the contract.
-/
namespace Go.Proofs.YtckcojkpghiclaaGreatDoor
set_option maxRecDepth 100000
open Go.RowKit
end Go.Proofs.YtckcojkpghiclaaGreatDoor
/-
 Reserved numbers and an enum are printed: the contracts.
-/
namespace Go.Proofs.YtckcojkpghiclaaGreatDoor
set_option maxRecDepth 100000
open Go.RowKit
end Go.Proofs.YtckcojkpghiclaaGreatDoor
/-
 An enum is printed: the contract.
-/
namespace Go.Proofs.YtckcojkpghiclaaGreatDoor
set_option maxRecDepth 100000
open Go.RowKit
end Go.Proofs.YtckcojkpghiclaaGreatDoor
/-
 The fields of each oneof, in rows of their own: the contract.
-/
namespace Go.Proofs.YtckcojkpghiclaaGreatDoor
set_option maxRecDepth 100000
open Go.RowKit
end Go.Proofs.YtckcojkpghiclaaGreatDoor
/-
 A message is printed: the contract.
-/
namespace Go.Proofs.YtckcojkpghiclaaGreatDoor
set_option maxRecDepth 100000
open Go.RowKit
end Go.Proofs.YtckcojkpghiclaaGreatDoor
