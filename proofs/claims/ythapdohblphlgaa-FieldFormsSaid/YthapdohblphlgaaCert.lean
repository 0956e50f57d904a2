/- 2^255 - 19 is a prime: by the kernel. -/
import Derived.Test.YthapdohblphlgaaPrime
namespace Go.Proofs.Ythapdohblphlgaa
set_option maxRecDepth 100000
theorem p127 : IsPrime 127 := prime_small 127 10 (by decide) (by decide) (by decide +kernel)
theorem p75707 : IsPrime 75707 := prime_small 75707 280 (by decide) (by decide) (by decide +kernel)
theorem p1923133 : IsPrime 1923133 := prime_small 1923133 1390 (by decide) (by decide) (by decide +kernel)
theorem p8574133 : IsPrime 8574133 := prime_small 8574133 2930 (by decide) (by decide) (by decide +kernel)
theorem pA : IsPrime 1919519569386763 := prime_by2 (q := 8574133) (m := 223873314) (a := 2) (f := 51) (q' := 127) (m' := 15114327318006) (a' := 2) p8574133 p127 (by decide +kernel) (by decide +kernel) (by decide +kernel) (by decide +kernel) (by decide +kernel) (by decide +kernel) (by decide +kernel) (by decide +kernel) (by decide +kernel) (by decide +kernel)
theorem pB : IsPrime 75445702479781427272750846543864801 := prime_by2 (q := 1919519569386763) (m := 39304471641247389600) (a := 2) (f := 116) (q' := 75707) (m' := 996548568557483816196003626400) (a' := 2) pA p75707 (by decide +kernel) (by decide +kernel) (by decide +kernel) (by decide +kernel) (by decide +kernel) (by decide +kernel) (by decide +kernel) (by decide +kernel) (by decide +kernel) (by decide +kernel)
theorem pC : IsPrime 74058212732561358302231226437062788676166966415465897661863160754340907 := prime_by2 (q := 75445702479781427272750846543864801) (m := 981609426360740691344999861639072106) (a := 2) (f := 236) (q' := 1923133) (m' := 38509147694185143878364744631319200843710219946028640589009268082) (a' := 2) pB p1923133 (by decide +kernel) (by decide +kernel) (by decide +kernel) (by decide +kernel) (by decide +kernel) (by decide +kernel) (by decide +kernel) (by decide +kernel) (by decide +kernel) (by decide +kernel)
theorem prime25519 : IsPrime (2 ^ 255 - 19) := prime_by1 (q := 74058212732561358302231226437062788676166966415465897661863160754340907) (m := 781764) (a := 2) (f := 255) pC (by decide +kernel) (by decide +kernel) (by decide +kernel) (by decide +kernel) (by decide +kernel) (by decide +kernel)
end Go.Proofs.Ythapdohblphlgaa
