/- All of the merged texts. No statement of the seat is proved here. -/
import Derived.Test.YtmonbldmgmmnbaaLM35
namespace Go.Proofs.Ytmonbldmgmmnbaa
end Go.Proofs.Ytmonbldmgmmnbaa
