import Derived.Test.YthhpbhpfagoapaaGreatGAA
import Derived.WalkKit
namespace Go.Proofs.YthhpbhpfagoapaaGreat
set_option linter.all false
set_option maxRecDepth 100000
set_option maxHeartbeats 16000000
open Go.RowKit
abbrev B'(w v:W):Prop:=RowKit.Below w.heap.size w v
abbrev C':=Calls Tryz.prog
def k8:=@RowKit.Below.refl
def kg:=@World.ownsRow_nil
def kh:=@frozen_of_row
def ki:=@run_loadVar_row
def kj:=@heap_setCell_same
def kk:=@bodyPost_ret
def kl:=@wpList_store_row
def ko:=@wpList_append_own
def kr:=@setRow_heap
def ks:=@info_parts
def ku:=@World.cell?_of_block
def kx:=@wpList_load_row
def kA:=@heap_setCell_other
def kC:=@cell_of_row
def kD:=@IntWalk.i64_in
def kE:=@IntKind.wrap_i64
def kF:=@World.cell?_alloc_mark
def kH:=@heap_alloc_new
def kJ:=@IntKind.wrap_u64
def kK:=@setRow_other
def kL:=@wp_store_row
def kN:=@wpList_make_full
def kQ:=@wp_append_own
def kR:=@World.grownBy_alloc
def kS:=@run_convert_bytes_back
def kV:=@results_cell_row
def kW:=@ByteArray.toList_eq
def kX:=@World.ownsRow.drew
def kY:=@World.grownBy.refl
def l6:=@callsD_of_wpS
def l7:=@wpList_make_own
def l9:=@leaves_cons
def lb:=@wpS_region
def lf:=@size_madeCells
def lh:=@RowKit.Below.heap_alloc
def ll:=@IntKind.wrap_u8
def lp:=@ByteArray.size_append'
def lq:=@ByteArray.mk_append_mk
def lr:=@toList_madeCells_one
def lu:=@ByteArray.extract_mk
def lx:=@World.ownsRow.alloc
def lz:=@World.ownsRow_lit
end Go.Proofs.YthhpbhpfagoapaaGreat
