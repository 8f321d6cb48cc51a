import Derived.Test.YtgiofefdfcaibaaGreatKz
import Derived.Lib.Bytealg
namespace Go.Proofs.YtgiofefdfcaibaaGreat
set_option linter.unusedSimpArgs false
set_option linter.unusedVariables false
def cmpG (as:List AV) (hps:List Blk):Option (AV × List Blk):=
 match as,hps with
 | [.str a,.str b],[]=>some (.int .i64 (Go.Lib.compareBytes a b),[])
 |_,_=>none
end Go.Proofs.YtgiofefdfcaibaaGreat
