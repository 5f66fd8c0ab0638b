/- The landed package disk keeps what is asked of it. -/
import Derived.Test.YtbcclolhfogpnaaDoorDk7
import Derived.Test.YtbcclolhfogpnaaDoorHd2
namespace Go.Proofs.YtbcclolhfogpnaaDoor.dk
open Go.RowKit mm

theorem ok_all (a b : Addr) : DiskOK a b (fun w => Sent w a b) LD where
  keep := fun _ _ h hb => h.keep hb
  sent := fun _ h => h
  dlt := fun _ _ _ _ h => h.lt
  dkeep := fun _ _ _ _ _ h hk => h.keep hk
  wf := fun _ _ _ _ h => by obtain ⟨_, _, _, _, _, _, _, hw, _⟩ := h; exact hw
  new := fun w h => new_any w (ng_lt h)
  append := fun w p F s v l hs h hl hb => append_any a b w p F s v l hs h hl hb
  sync := fun w p F s hs h => sync_any a b w p F s hs h
  cut := fun w p F s n hs h n0 n1 => cut_any a b w p F s n hs h n0 n1
  arm := fun w p F s n _ h n0 n1 => arm_any w p F s n h n0 n1
  crash := fun w p F s k t u hs h hb k0 k1 t0 t1 hu => crash_any w p F s k t u (ng_lt hs) h hb k0 k1 t0 t1 hu
  bytes := fun w p F s _ h hb => bytes_any w p F s h hb
  synced := fun w p F s _ h => synced_any w p F s h
  up := fun w p F s _ h => up_any w p F s h
end Go.Proofs.YtbcclolhfogpnaaDoor.dk
