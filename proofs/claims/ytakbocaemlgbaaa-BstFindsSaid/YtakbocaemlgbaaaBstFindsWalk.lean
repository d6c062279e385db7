/-
  The walk of the statement BstFinds: for every text and window it returns true, and writes nothing that was there.
-/
import Derived.Test.YtakbocaemlgbaaaBstSpeaks
namespace Go.Proofs.Ytakbocaemlgbaaa.Bs
open Go.RowKit Go.Maps
open Mt
open Ch (bt bt_at bt_lt Dm ret_num Founds eq_fd ret_bool)
end Go.Proofs.Ytakbocaemlgbaaa.Bs
