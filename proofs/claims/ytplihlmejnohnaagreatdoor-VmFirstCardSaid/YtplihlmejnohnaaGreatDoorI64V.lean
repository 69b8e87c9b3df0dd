/- Numbers of 64 bits as values. -/
import Derived.Test.YtplihlmejnohnaaGreatDoorJ00Heap
namespace Go.Proofs.YtplihlmejnohnaaGreatDoor

def i64V (v : Int) : Value := .int .i64 v
end Go.Proofs.YtplihlmejnohnaaGreatDoor
