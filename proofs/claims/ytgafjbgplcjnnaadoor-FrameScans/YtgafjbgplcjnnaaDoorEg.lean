/- The landed package frame keeps what is asked of it. -/
import Derived.Test.YtgafjbgplcjnnaaDoorEf
import Derived.Test.YtgafjbgplcjnnaaDoorHs
namespace Go.Proofs.YtgafjbgplcjnnaaDoor.fr
open Go.RowKit

theorem ok_all (a : Addr) : FrameOK a (fun w => Sent w a) where
  keep := fun _ _ h hb => h.keep hb
  sent := fun _ h => h
  sum := fun l v w _ h _ => sum_any l v w h
  wrap := fun l v w _ h hl => wrap_any l v w h hl
  long := fun l v w hs h hl hl2 => wrap_long l v w hs h hl hl2
  scan := fun l v w _ h hl => scan_any l v w h hl

end Go.Proofs.YtgafjbgplcjnnaaDoor.fr
