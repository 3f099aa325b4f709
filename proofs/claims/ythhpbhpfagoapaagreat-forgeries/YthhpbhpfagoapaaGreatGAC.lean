import Derived.Test.YthhpbhpfagoapaaGreatGAB
import Derived.Deep.RegionHeld3
namespace Go.Proofs.YthhpbhpfagoapaaGreat
set_option linter.all false
set_option maxRecDepth 100000
set_option maxHeartbeats 16000000
open Go.RowKit
def k9:=@wp_region_held_drew
def km:=@AllReadyH.cons
def kp:=@wpAnyH_done
def kz:=@AllReadyH.nil
def kB:=@wpAnyH_ready
def kO:=@wpAnyH_take
def kU:=@wp_region_noPanic
def kZ:=@NoPanic.normal
end Go.Proofs.YthhpbhpfagoapaaGreat
