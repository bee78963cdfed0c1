/- One more local; the greatest stack: plain. -/
import Derived.Test.YtfkejdocklcpoaaDoorVfAwJs
namespace Go.Proofs.YtfkejdocklcpoaaDoor
section
variable {p:Pg} {n:Nat} {f:Fd}
end
section
variable {p:Pg} {f:Fd} {F G:Fl}
end
end Go.Proofs.YtfkejdocklcpoaaDoor

namespace Go.Proofs.YtfkejdocklcpoaaDoor
open Go.RowKit
section
variable {Wb X:World} {B:Nat} {l:List Int} {e0:Option Nat} {v5:Option Value} {i1:Option Nat} {v:Value}
end
end Go.Proofs.YtfkejdocklcpoaaDoor
