/- Texts in one: RecR RecR2 RecR3 RecR4 -/
import Derived.Test.YthnhobplgmojeaaGreatDoorVvP
import Derived.Test.YthnhobplgmojeaaGreatDoorMyP
import Derived.Test.YthnhobplgmojeaaGreatDoorPvP
namespace Go.Proofs.YthnhobplgmojeaaGreatDoor.ev
open Go.RowKit Go.Proofs.YthnhobplgmojeaaGreatDoor.rd
open mm (BY)
theorem add_block (a:Addr) (j:Nat):(a.add j).block=a.block:=by
 unfold Addr.add
 split <;> rfl
theorem add_zero (a:Addr):a.add 0=a:=by
 unfold Addr.add;simp
def BV (w:World) (m:Nat) (v:Value) (l:List UInt8):Prop:=BY w v l∧(l≠[]→∀ a n c,v=.slice (some a) n c→a.block < m)
theorem BV.keep {w w':World}{m:Nat}{v:Value}{l:List UInt8} (h:BV w m v l) (hb:Below m w w'):BV w' m v l:=by
 obtain ⟨⟨hl,oa,c,rfl,h1,h2,h3,h4⟩,h5⟩:=h;refine ⟨⟨hl,oa,c,rfl,h1,h2,h3,fun a ha j u hu=>?_⟩,h5⟩;subst ha;rw [hb.cell (by rw [add_block];exact h5 (by rintro rfl;simp at hu) a _ _ rfl)];exact h4 a rfl j u hu
theorem BV.sl {w:World}{m:Nat}{v:Value}{l:List UInt8} (h:BV w m v l):∃ oa n c,v=.slice oa n c:=by
 obtain ⟨oa,c,e,_⟩:=h.1.form;exact ⟨oa,_,c,e⟩
theorem sliced_block {oa:Option Addr}{m lo hi c s:Nat} (h:∀ a,oa=some a→a.block < m):∀ a n c',sliced oa lo hi c s=.slice (some a) n c'→a.block < m:=by
 intro a n c' e;unfold sliced at e;simp only [Value.slice.injEq] at e;obtain ⟨e,_,_⟩:=e
 split at e
 · exact h a e
 · cases oa with
   | none=>simp at e
   | some b =>
     simp only [Option.map_some,Option.some.injEq] at e;rw [← e,add_block];exact h b rfl
set_option maxRecDepth 100000 in
theorem BV.hm {w:World}{m:Nat}{v:Value}{l:List UInt8} (h:BV w m v l) (hi:Nat) (h2:hi≤l.length) (kh:Int) (eh:kh=(hi:Int)) :
 ∃ v',(∀ u:World,(Instr.slice 38 v none (some (.int .i64 kh)) (some (.int .i64 kh))).run Tryz.prog u=.ok v' u)∧BV w m v' (l.take hi):=by
 obtain ⟨⟨_,oa,c,rfl,q1,q2,q3,q4⟩,h5⟩:=h;have hl:((l.map mm.vb).take hi).length=hi:=by rw [List.length_take,List.length_map];omega
 refine ⟨sliced oa 0 hi hi 1,fun u=>?_,?_,fun hne=>sliced_block fun a ha=>h5 (by rintro rfl;simp at hne) a _ _ (by rw [ha])⟩
 · subst eh
   rw [run_slice_hm (P:=Tryz.prog) (ht:=mm.undU) (h0:=by omega) (h2:=by omega) (h3:=by omega),mm.size_u];rfl
 · have:=mm.sliced_sv (w:=w) (oa:=oa) hl (Nat.le_refl hi) (by omega) (fun q=>by have:=(q3 q).1;omega) (fun a ha j u hu=>q4 a ha j u (by
    rw [List.getElem?_take] at hu
    split at hu
    · exact hu
    · cases hu)) 0 hi (Nat.zero_le _) (Nat.le_refl _)
   unfold BY;rw [List.length_take,Nat.min_eq_left h2,List.map_take];simpa [List.take_take] using this
set_option maxRecDepth 100000 in
theorem BV.l {w:World}{m:Nat}{v:Value}{l:List UInt8} (h:BV w m v l) (lo:Nat) (h2:lo≤l.length) (kl:Int) (el:kl=(lo:Int)) :
 ∃ v',(∀ u:World,(Instr.slice 38 v (some (.int .i64 kl)) none none).run Tryz.prog u=.ok v' u)∧BV w m v' (l.drop lo):=by
 obtain ⟨⟨_,oa,c,rfl,q1,q2,q3,q4⟩,h5⟩:=h;refine ⟨sliced oa lo l.length c 1,fun u=>?_,?_,fun hne=>sliced_block fun a ha=>h5 (by rintro rfl;simp at hne) a _ _ (by rw [ha])⟩
 · subst el
   rw [run_slice_l (P:=Tryz.prog) (ht:=mm.undU) (h0:=by omega) (h1:=by omega),mm.size_u];rfl
 · have:=mm.sliced_sv (by simp) q1 q2 q3 q4 lo l.length h2 (Nat.le_refl _)
   rw [List.take_of_length_le (by simp),← List.map_drop] at this;unfold BY;rw [List.length_drop];exact this
theorem mv_upd {m:Nat}{w w':World} (h:Upd m w w'):Mv m w w':=⟨h.os,h.tape,h.output,Nat.le_of_eq h.size.symm,fun k _ hn=>h.block k hn⟩
def RB (w:World) (m:Nat) (l:List UInt8) (r:Bool):Prop:=∃ lv,w.heap[m]?=some (.cells #[lv,.bool r] 72 (0,0))∧BV w m lv l
theorem RB.keep {w w':World}{m:Nat}{l:List UInt8}{r:Bool} (h:RB w m l r) (hb:Below w.heap.size w w'):RB w' m l r:=by
 obtain ⟨lv,h1,h2⟩:=h;exact ⟨lv,(hb.block m (blk_lt h1)).trans h1,h2.keep (hb.mono (Nat.le_of_lt (blk_lt h1)))⟩
theorem RB.refuse {w:World}{m:Nat}{l:List UInt8}{r:Bool} (h:RB w m l r):RB (w.setCell ⟨m,1,none⟩ (.bool true)) m l true:=by
 obtain ⟨lv,h1,h2⟩:=h;exact ⟨lv,blk_set h1 1 _,h2.keep (Upd.below (Upd.setCell m 1 w _) (Nat.le_refl m))⟩
set_option maxRecDepth 100000 in
set_option maxHeartbeats 1600000 in
theorem cut_any (m:Nat) (l:List UInt8) (r:Bool) (n:Nat) (w:World) (h:RB w m l r) (hn:n≤l.length) :
 Calls Tryz.prog 60 #[.pointer (some ⟨m,0,none⟩),.int .i64 (n:Int)] w fun e w'=>∃ v,e=.returned v∧BV w' m v (l.take n)∧RB w' m (l.drop n) r∧Upd m w w':=by
 obtain ⟨lv,hc,hv⟩:=h;obtain ⟨v1,s1,hv1⟩:=hv.hm n hn (n:Int) rfl;obtain ⟨v2,s2,hv2⟩:=hv.l n hn (n:Int) rfl;obtain ⟨oa,na,ca,rfl⟩:=hv.sl;obtain ⟨ob,nb,cb,rfl⟩:=hv2.sl;obtain ⟨oc,nc,cc,rfl⟩:=hv1.sl;have c0:=blk_cell hc 0;have f0:=blk_free hc 0;have HC:=hide hc;have HV1:=hide hv1;have HV2:=hide hv2;clear hc hv hv1 hv2 hn
 go_enter Tryz.func60,Tryz.ntmps60
 go_wp2;go_ret;have hu:=Upd.setCell m 0 w (.slice ob nb cb);have hb:=Upd.below hu (Nat.le_refl m);exact ⟨_,rfl,(uh HV1).keep hb,⟨_,blk_set (uh HC) 0 _,(uh HV2).keep hb⟩,hu⟩
set_option maxRecDepth 100000 in
set_option maxHeartbeats 1600000 in
theorem next_nil (m:Nat) (r:Bool) (w:World) (h:RB w m [] r) :
 Calls Tryz.prog 48 #[.pointer (some ⟨m,0,none⟩)] w fun e w'=>e=.returned (.int .u8 0)∧RB w' m [] true∧Mv m w w':=by
 have HR:=hide h.refuse;obtain ⟨lv,hc,hv⟩:=h;obtain ⟨oa,ca,rfl,_,_⟩:=hv.1.form;have c0:=blk_cell hc 0;have c1:=blk_cell hc 1;have f1:=blk_free hc 1;clear hc hv
 go_enter Tryz.func48,Tryz.ntmps48
 go_wp2;go_ret;exact ⟨rfl,uh HR,mv_upd (Upd.setCell m 1 w _)⟩
set_option maxRecDepth 100000 in
set_option maxHeartbeats 1600000 in
theorem next_cons (m:Nat) (c:UInt8) (t:List UInt8) (r:Bool) (w:World) (h:RB w m (c::t) r) :
 Calls Tryz.prog 48 #[.pointer (some ⟨m,0,none⟩)] w fun e w'=>e=.returned (.int .u8 (c.toNat:Int))∧RB w' m t r∧Mv m w w':=by
 have CC:=hide (cut_any m (c::t) r 1 w h (by simp));obtain ⟨lv,hc,hv⟩:=h;obtain ⟨oa,ca,rfl,_,_⟩:=hv.1.form;have c0:=blk_cell hc 0;have hz:(((c::t).length:Int) == 0)=false:=by rw [beq_eq_false_iff_ne];simp;omega
 clear hc hv;generalize (c::t).length=nl at *
 go_enter Tryz.func48,Tryz.ntmps48
 go_wp2_with (go_at_call 60;refine (uh CC).mono ?_;rintro e w1 ⟨v1,rfl,h1,h2,hu⟩
              have h1':BV w1 m v1 [c]:=by simpa using h1
              obtain ⟨a1,q1,rfl,_,_,at1⟩:=h1'.1.at (by simp);have k0:=at1 0 c rfl;rw [add_zero a1] at k0;have H2:=hide h2;have HU:=hide hu
              clear CC at1 h1 h1' h2 hu)
 go_ret;exact ⟨rfl,by simpa using uh H2,mv_upd (uh HU)⟩
end Go.Proofs.YthnhobplgmojeaaGreatDoor.ev
namespace Go.Proofs.YthnhobplgmojeaaGreatDoor.ev
open Go.RowKit Go.Proofs.YthnhobplgmojeaaGreatDoor.rd
def RdN (w:World) (m:Nat) (l:List UInt8) (r:Bool) (lo hi:Nat) (e:Ending) (w':World):Prop :=
 ∃ (n:Nat) (l':List UInt8) (r':Bool),e=.returned (.int .i64 (n:Int))∧RB w' m l' r'∧Mv m w w'∧l'.length≤l.length∧n≤hi∧(r'=false→r=false∧rdN lo hi l=some (n,l'))∧(r'=true→r=true∨rdN lo hi l=none)
theorem rdC_lt (k:Nat):∀ (i n:Nat) (c:UInt8) (l:List UInt8),rdC (k+1) i n (c::l)=if 128≤c.toNat then rdC k (i+1) (n+(c.toNat % 128)*128 ^ i) l else if 0 < i∧c.toNat=0 then none else some (n+c.toNat*128 ^ i,l):=fun _ _ _ _=>rfl
set_option maxRecDepth 100000 in
set_option maxHeartbeats 6400000 in
theorem rcnt_any (m:Nat) (l:List UInt8) (r:Bool) (lo hi:Nat) (hhi:hi < 2 ^ 62) (hlo:lo≤hi) (w:World) (h:RB w m l r) :
 Calls Tryz.prog 62 #[.pointer (some ⟨m,0,none⟩),.int .i64 (lo:Int),.int .i64 (hi:Int)] w (RdN w m l r lo hi):=by
 have HR:=hide h;have HHI:=hide hhi;have HLO:=hide hlo;clear h hhi hlo
 go_enter Tryz.func62,Tryz.ntmps62
 go_upto_region 3 with fail
 go_loopw [7,10] (fun nv iv wr=>∃ (n i:Nat) (o:List UInt8) (q:Bool),nv=.int .i64 (n:Int)∧iv=.int .i64 (i:Int)∧i≤9∧n < 128 ^ i∧Hid (RB wr m o q)∧Hid (Mv m w wr)∧Hid (o.length≤l.length)∧Hid (q=false→r=false∧rdC 9 0 0 l=rdC (9 - i) i n o)∧Hid (q=true→r=true∨rdC 9 0 0 l=none)) (fun _ iv _=>9 - (intOf iv).toNat)
 case atStart=>exact ⟨0,0,l,r,rfl,rfl,by omega,by decide,uh HR,Mv.refl _ _,Nat.le_refl _,fun q=>⟨q,rfl⟩,fun q=>.inl q⟩
 case round =>
  obtain ⟨n,i,o,q,rfl,rfl,hi9,hn,hrb,hbl,hol,hq0,hq1⟩:=hrel
  by_cases h9:i=9
  · have hi':¬ (i:Int) < 9:=by omega
    have HF:=hide ((uh hrb).refuse);obtain ⟨lv,hc,hv⟩:=uh hrb;have c1:=blk_cell hc 1;have f1:=blk_free hc 1;subst h9
    have HQ:Hid (r=true∨rdC 9 0 0 l=none):=by
     cases q with
     | true=>exact uh hq1 rfl
     | false=>exact .inr (by rw [(uh hq0 rfl).2];rfl)
    clear hc hv hn hq0 hq1;go_wp2;go_ret;refine ⟨0,o,true,rfl,uh HF,(uh hbl).trans (mv_upd (Upd.setCell m 1 _ _)),uh hol,Nat.zero_le _,fun z=>Bool.noConfusion z,fun _=>?_⟩
    rcases uh HQ with z|z
    · exact .inl z
    · exact .inr (by unfold rdN;rw [z])
  · have hi':(i:Int) < 9:=by omega
    obtain ⟨y,hy⟩:∃ y:Nat,y=7*i:=⟨_,rfl⟩;have hw7:IntKind.i64.wrap (7*(i:Int))=(y:Int):=by rw [IntWalk.i64_in _ ⟨by omega,by omega⟩];omega
    have hy0:(0:Int)≤(y:Int):=by omega
    have hy1:(y:Int)≤64:=by omega
    have hwi:IntKind.i64.wrap ((i:Int)+1)=((i+1:Nat):Int):=by rw [IntWalk.i64_in _ ⟨by omega,by omega⟩];omega
    have hn63:n < 2 ^ 63:=Nat.lt_of_lt_of_le hn (Nat.le_trans (Nat.pow_le_pow_right (by decide) hi9) (by decide));have hn0:(0:Int)≤(n:Int):=by omega
    cases o with
    | nil =>
      have NX:=hide (next_nil m q _ (uh hrb));have hz:IntKind.i64.wrap ((0:Int)*2 ^ y)=0:=by rw [Int.zero_mul];rfl
      have hwn:IntKind.i64.wrap (n:Int)=(n:Int):=IntWalk.i64_in _ ⟨by omega,by omega⟩
      have HQ:Hid (r=true∨rdC 9 0 0 l=none):=by
       cases q with
       | true=>exact uh hq1 rfl
       | false =>
         obtain ⟨k,hk⟩:∃ k,9 - i=k+1:=⟨8 - i,by omega⟩;exact .inr (by rw [(uh hq0 rfl).2,hk];rfl)
      have HQ2:Hid (r=true∨rdN lo hi l=none):=by
       rcases uh HQ with z|z
       · exact .inl z
       · exact .inr (by unfold rdN;rw [z])
      clear HQ hq0 hq1 hy hn63 hn
      by_cases hi0:i=0
      · have hi0':¬ (0:Int) < (i:Int):=by omega
        have hwrong:(n:Int) < (lo:Int)∨(hi:Int) < (n:Int)∨((lo:Int)≤(n:Int)∧(n:Int)≤(hi:Int)):=by omega
        clear h9 hi0
        rcases hwrong with hl1|hl2|⟨hl1,hl2⟩
        · go_wp2_with (go_at_call 48;refine (uh NX).mono ?_;rintro e w1 ⟨rfl,h1,b1⟩
                       have HF:=hide h1.refuse;obtain ⟨lv,hc,hv⟩:=h1;have c1:=blk_cell hc 1;have f1:=blk_free hc 1;have B1:=hide b1
                       clear hc hv NX b1)
          go_ret;exact ⟨0,[],true,rfl,uh HF,(uh hbl).trans ((uh B1).trans (mv_upd (Upd.setCell m 1 _ _))),Nat.zero_le _,Nat.zero_le _,fun z=>Bool.noConfusion z,fun _=>uh HQ2⟩
        · have hl1:¬ (n:Int) < (lo:Int):=by have:=uh HLO;omega
          go_wp2_with (go_at_call 48;refine (uh NX).mono ?_;rintro e w1 ⟨rfl,h1,b1⟩
                       have HF:=hide h1.refuse;obtain ⟨lv,hc,hv⟩:=h1;have c1:=blk_cell hc 1;have f1:=blk_free hc 1;have B1:=hide b1
                       clear hc hv NX b1)
          go_ret;exact ⟨0,[],true,rfl,uh HF,(uh hbl).trans ((uh B1).trans (mv_upd (Upd.setCell m 1 _ _))),Nat.zero_le _,Nat.zero_le _,fun z=>Bool.noConfusion z,fun _=>uh HQ2⟩
        · have hl1':¬ (n:Int) < (lo:Int):=by omega
          have hl2':¬ (hi:Int) < (n:Int):=by omega
          have HN:Hid (n≤hi):=by show _≤_;omega
          clear hl1 hl2
          go_wp2_with (go_at_call 48;refine (uh NX).mono ?_;rintro e w1 ⟨rfl,h1,b1⟩
                       have H1:=hide h1;have B1:=hide b1
                       clear NX b1 h1)
          go_ret;exact ⟨n,[],true,rfl,uh H1,(uh hbl).trans (uh B1),Nat.zero_le _,uh HN,fun z=>Bool.noConfusion z,fun _=>uh HQ2⟩
      · have hi0':(0:Int) < (i:Int):=by omega
        clear h9 hi0
        go_wp2_with (go_at_call 48;refine (uh NX).mono ?_;rintro e w1 ⟨rfl,h1,b1⟩
                     have HF:=hide h1.refuse;obtain ⟨lv,hc,hv⟩:=h1;have c1:=blk_cell hc 1;have f1:=blk_free hc 1;have B1:=hide b1
                     clear hc hv NX b1)
        go_ret;exact ⟨0,[],true,rfl,uh HF,(uh hbl).trans ((uh B1).trans (mv_upd (Upd.setCell m 1 _ _))),Nat.zero_le _,Nat.zero_le _,fun z=>Bool.noConfusion z,fun _=>uh HQ2⟩
    | cons c t =>
      have NX:=hide (next_cons m c t q _ (uh hrb));have hp:(128:Nat) ^ i=2 ^ y:=by rw [hy,Nat.pow_mul]
      have hc8:=c.toNat_lt;obtain ⟨x,hx⟩:∃ x:Nat,x=c.toNat:=⟨_,rfl⟩;have hx8:x < 256:=by omega
      obtain ⟨k,hk⟩:∃ k,9 - i=k+1:=⟨8 - i,by omega⟩;obtain ⟨a,ha⟩:∃ a,a=x % 128:=⟨_,rfl⟩;have ha2:a < 128:=by omega
      have hra:Int.tmod (x:Int) 128=(a:Int):=by rw [Int.tmod_eq_emod_of_nonneg (by omega)];omega
      have hwa:IntKind.u8.wrap (a:Int)=(a:Int):=IntWalk.u8_in _ ⟨by omega,by omega⟩;have hwa2:IntKind.i64.wrap (a:Int)=(a:Int):=IntWalk.i64_in _ ⟨by omega,by omega⟩
      have hnew:n+a*128 ^ i < 128 ^ (i+1):=by
       rw [Nat.pow_succ];have:=Nat.mul_le_mul_right (128 ^ i) (show a+1≤128 by omega);rw [Nat.add_mul,Nat.one_mul] at this;omega
      obtain ⟨z,hz⟩:∃ z,z=a*128 ^ i:=⟨_,rfl⟩
      have hlt63:n+z < 2 ^ 63:=by
       rw [hz];exact Nat.lt_of_lt_of_le hnew (Nat.le_trans (Nat.pow_le_pow_right (by decide) (show i+1≤9 by omega)) (by decide))
      have hsh:(a:Int)*2 ^ y=(z:Int):=by rw [hz,hp];simp
      have hwz:IntKind.i64.wrap (z:Int)=(z:Int):=IntWalk.i64_in _ ⟨by omega,by omega⟩;have hws:IntKind.i64.wrap ((n:Int)+(z:Int))=((n+z:Nat):Int):=by rw [IntWalk.i64_in _ ⟨by omega,by omega⟩];omega
      have hstep:=rdC_lt k i n c t;rw [← hx,← ha,← hz] at hstep;rw [← hz] at hnew;rw [← hx] at NX;obtain ⟨s,hs⟩:∃ s,s=n+z:=⟨_,rfl⟩;rw [← hs] at hws hstep hnew hlt63
      by_cases hc:128≤x
      · have hc':(128:Int)≤(x:Int):=by omega
        rw [if_pos hc] at hstep;have HST:=hide hstep
        have HOL:Hid (t.length≤l.length):=by
         have:=uh hol;rw [List.length_cons] at this;show _≤_;omega
        have hk9:9 - (i+1)=k:=by omega
        have HN:=hide hnew;clear hc hstep ha hz hs hx hp hy hn63 hn hlt63 hc8 hol hnew h9
        go_wp2_with (go_at_call 48;refine (uh NX).mono ?_;rintro e w1 ⟨rfl,h1,b1⟩
                     have H1:=hide h1;have B1:=hide b1
                     clear NX b1 h1)
        refine ⟨⟨s,i+1,t,q,rfl,by go_num,by omega,uh HN,uh H1,(uh hbl).trans (uh B1),uh HOL,fun z=>⟨(uh hq0 z).1,?_⟩,uh hq1⟩,by simp [intOf];omega⟩;rw [(uh hq0 z).2,hk,uh HST,hk9]
      · have hc':¬ (128:Int)≤(x:Int):=by omega
        rw [if_neg hc] at hstep;have HST:=hide hstep
        have HOL:Hid (t.length≤l.length):=by
         have:=uh hol;rw [List.length_cons] at this;show _≤_;omega
        have HALL:Hid (q=false→rdC 9 0 0 l=if 0 < i∧x=0 then none else some (s+(x*128 ^ i - z),t)):=fun hq=>by
         have e:n+x*128 ^ i=s+(x*128 ^ i - z):=by
          have:a=x:=by omega
          rw [hs,hz,this];omega
         rw [(uh hq0 hq).2,hk,uh HST,e]
        have hxz:x*128 ^ i - z=0:=by
         have:a=x:=by omega
         rw [hz,this];omega
        rw [hxz,Nat.add_zero] at HALL;clear hc hstep ha hz hs hx hp hy hn63 hn hlt63 hc8 hol hnew h9 HST hxz
        by_cases hbad:0 < i∧x=0
        · have HQ:Hid (r=true∨rdN lo hi l=none):=by
           cases q with
           | true =>
             rcases uh hq1 rfl with z|z
             · exact .inl z
             · exact .inr (by unfold rdN;rw [z])
           | false =>
             have z:=uh HALL rfl;rw [if_pos hbad] at z;exact .inr (by unfold rdN;rw [z])
          obtain ⟨hb1,hb2⟩:=hbad;have hi0':(0:Int) < (i:Int):=by omega
          have hx0:((x:Int) == 0)=true:=by rw [beq_iff_eq];omega
          clear HALL hb1 hb2
          go_wp2_with (go_at_call 48;refine (uh NX).mono ?_;rintro e w1 ⟨rfl,h1,b1⟩
                       have HF:=hide h1.refuse;obtain ⟨lv,hc,hv⟩:=h1;have c1:=blk_cell hc 1;have f1:=blk_free hc 1;have B1:=hide b1
                       clear hc hv NX b1)
          go_ret;exact ⟨0,t,true,rfl,uh HF,(uh hbl).trans ((uh B1).trans (mv_upd (Upd.setCell m 1 _ _))),uh HOL,Nat.zero_le _,fun z=>Bool.noConfusion z,fun _=>uh HQ⟩
        · have HALL2:Hid (q=false→rdC 9 0 0 l=some (s,t)):=fun hq=>by
           have z:=uh HALL hq;rw [if_neg hbad] at z;exact z
          have hcond:¬ (0:Int) < (i:Int)∨((0:Int) < (i:Int)∧((x:Int) == 0)=false):=by
           rcases Nat.eq_zero_or_pos i with h|h
           · exact .inl (by omega)
           · exact .inr ⟨by omega,by rw [beq_eq_false_iff_ne];intro e;exact hbad ⟨h,by omega⟩⟩
          clear HALL hbad
          by_cases hgood:lo≤s∧s≤hi
          · have HG:Hid (q=false→rdN lo hi l=some (s,t)):=fun hq=>by
             unfold rdN;rw [uh HALL2 hq];simp [hgood]
            have HB:Hid (q=true→r=true∨rdN lo hi l=none):=fun hq=>by
             rcases uh hq1 hq with z|z
             · exact .inl z
             · exact .inr (by unfold rdN;rw [z])
            have HSH:Hid (s≤hi):=hgood.2;have hl1':¬ (s:Int) < (lo:Int):=by omega
            have hl2':¬ (hi:Int) < (s:Int):=by omega
            clear hgood HALL2
            rcases hcond with hi0'|⟨hi0',hx0⟩
            · skip
              go_wp2_with (go_at_call 48;refine (uh NX).mono ?_;rintro e w1 ⟨rfl,h1,b1⟩
                           have H1:=hide h1;have B1:=hide b1
                           clear NX b1 h1)
              go_ret;exact ⟨s,t,q,rfl,uh H1,(uh hbl).trans (uh B1),uh HOL,uh HSH,fun z=>⟨(uh hq0 z).1,uh HG z⟩,fun z=>uh HB z⟩
            · skip
              go_wp2_with (go_at_call 48;refine (uh NX).mono ?_;rintro e w1 ⟨rfl,h1,b1⟩
                           have H1:=hide h1;have B1:=hide b1
                           clear NX b1 h1)
              go_ret;exact ⟨s,t,q,rfl,uh H1,(uh hbl).trans (uh B1),uh HOL,uh HSH,fun z=>⟨(uh hq0 z).1,uh HG z⟩,fun z=>uh HB z⟩
          · have HQ:Hid (r=true∨rdN lo hi l=none):=by
             cases q with
             | true =>
               rcases uh hq1 rfl with z|z
               · exact .inl z
               · exact .inr (by unfold rdN;rw [z])
             | false =>
               refine .inr ?_;unfold rdN;rw [uh HALL2 rfl];simp only;rw [if_neg hgood]
            have hw:(s:Int) < (lo:Int)∨(¬ (s:Int) < (lo:Int)∧(hi:Int) < (s:Int)):=by omega
            clear hgood HALL2
            rcases hcond with hi0'|⟨hi0',hx0⟩
            · rcases hw with hl1|⟨hl1,hl2⟩
              · skip
                go_wp2_with (go_at_call 48;refine (uh NX).mono ?_;rintro e w1 ⟨rfl,h1,b1⟩
                             have HF:=hide h1.refuse;obtain ⟨lv,hc,hv⟩:=h1;have c1:=blk_cell hc 1;have f1:=blk_free hc 1;have B1:=hide b1
                             clear hc hv NX b1)
                go_ret;exact ⟨0,t,true,rfl,uh HF,(uh hbl).trans ((uh B1).trans (mv_upd (Upd.setCell m 1 _ _))),uh HOL,Nat.zero_le _,fun z=>Bool.noConfusion z,fun _=>uh HQ⟩
              · skip
                go_wp2_with (go_at_call 48;refine (uh NX).mono ?_;rintro e w1 ⟨rfl,h1,b1⟩
                             have HF:=hide h1.refuse;obtain ⟨lv,hc,hv⟩:=h1;have c1:=blk_cell hc 1;have f1:=blk_free hc 1;have B1:=hide b1
                             clear hc hv NX b1)
                go_ret;exact ⟨0,t,true,rfl,uh HF,(uh hbl).trans ((uh B1).trans (mv_upd (Upd.setCell m 1 _ _))),uh HOL,Nat.zero_le _,fun z=>Bool.noConfusion z,fun _=>uh HQ⟩
            · rcases hw with hl1|⟨hl1,hl2⟩
              · skip
                go_wp2_with (go_at_call 48;refine (uh NX).mono ?_;rintro e w1 ⟨rfl,h1,b1⟩
                             have HF:=hide h1.refuse;obtain ⟨lv,hc,hv⟩:=h1;have c1:=blk_cell hc 1;have f1:=blk_free hc 1;have B1:=hide b1
                             clear hc hv NX b1)
                go_ret;exact ⟨0,t,true,rfl,uh HF,(uh hbl).trans ((uh B1).trans (mv_upd (Upd.setCell m 1 _ _))),uh HOL,Nat.zero_le _,fun z=>Bool.noConfusion z,fun _=>uh HQ⟩
              · skip
                go_wp2_with (go_at_call 48;refine (uh NX).mono ?_;rintro e w1 ⟨rfl,h1,b1⟩
                             have HF:=hide h1.refuse;obtain ⟨lv,hc,hv⟩:=h1;have c1:=blk_cell hc 1;have f1:=blk_free hc 1;have B1:=hide b1
                             clear hc hv NX b1)
                go_ret;exact ⟨0,t,true,rfl,uh HF,(uh hbl).trans ((uh B1).trans (mv_upd (Upd.setCell m 1 _ _))),uh HOL,Nat.zero_le _,fun z=>Bool.noConfusion z,fun _=>uh HQ⟩
def RdT (w:World) (m:Nat) (l:List UInt8) (r:Bool) (e:Ending) (w':World):Prop :=
 ∃ (s:List UInt8) (l':List UInt8) (r':Bool),e=.returned (.string (mm.str s))∧RB w' m l' r'∧Mv m w w'∧l'.length≤l.length∧s.length≤1048576∧(r'=false→r=false∧rdT l=some (s,l'))∧(r'=true→r=true∨rdT l=none)
set_option maxRecDepth 100000 in
set_option maxHeartbeats 6400000 in
theorem rtext_any (m:Nat) (l:List UInt8) (r:Bool) (w:World) (h:RB w m l r) :
 Calls Tryz.prog 61 #[.pointer (some ⟨m,0,none⟩)] w (RdT w m l r):=by
 have C:=hide (rcnt_any m l r 0 1048576 (by decide) (by decide) w h);clear h
 go_enter Tryz.func61,Tryz.ntmps61
 go_upto_region 2 with (go_at_call 62;refine (uh C).mono ?_;rintro e u1 ⟨n,l1,r1,rfl,h1,b1,z1,nh,g1,k1⟩
                        have H1:=hide h1;have HF:=hide h1.refuse;have B1:=hide b1;have Z1:=hide z1;have NH:=hide nh;have G1:=hide g1;have K1:=hide k1;have h2:=h1
                        clear C b1 z1 nh g1 k1 h1)
 by_cases hn:n≤l1.length
 · have CC:=hide (cut_any m l1 r1 n u1 (uh H1) hn)
   obtain ⟨lv,hc,hv⟩:=h2;obtain ⟨oa,ca,rfl,_,_⟩:=hv.1.form;have c0:=blk_cell hc 0;have hn':¬ (l1.length:Int) < (n:Int):=by omega
   have HN:=hide hn;clear hc hv hn HF;generalize hnl:l1.length=nl at *;have HNL:=hide hnl;clear hnl
   go_wp2_with (go_at_call 60;refine (uh CC).mono ?_;rintro e u2 ⟨v2,rfl,h2,h3,hu⟩
                have H3:=hide h3;have HU:=hide hu;have hcv:=mm.by_str h2.1
                clear CC h2 h3 hu)
   go_ret;refine ⟨l1.take n,l1.drop n,r1,rfl,uh H3,(uh B1).trans (mv_upd (uh HU)),by rw [List.length_drop,uh HNL];have:=uh Z1;omega,by rw [List.length_take];have:=uh NH;omega,fun q=>?_,fun q=>?_⟩
   · obtain ⟨q1,q2⟩:=uh G1 q
     refine ⟨q1,?_⟩;unfold rdT;rw [q2];show (if n≤l1.length then _ else _)=_;rw [if_pos (by rw [uh HNL];exact uh HN)]
   · rcases uh K1 q with z|z
     · exact .inl z
     · exact .inr (by unfold rdT;rw [z])
 · obtain ⟨lv,hc,hv⟩:=h2
   obtain ⟨oa,ca,rfl,_,_⟩:=hv.1.form;have c0:=blk_cell hc 0;have c1:=blk_cell hc 1;have f1:=blk_free hc 1;have hn':(l1.length:Int) < (n:Int):=by omega
   have HN:=hide hn;clear hc hv hn;generalize hnl:l1.length=nl at *;have HNL:=hide hnl;clear hnl;go_wp2;go_ret;refine ⟨[],l1,true,rfl,uh HF,(uh B1).trans (mv_upd (Upd.setCell m 1 _ _)),by rw [uh HNL];exact uh Z1,by simp,fun q=>Bool.noConfusion q,fun _=>?_⟩
   cases r1 with
   | true =>
     rcases uh K1 rfl with z|z
     · exact .inl z
     · exact .inr (by unfold rdT;rw [z])
   | false =>
     obtain ⟨q1,q2⟩:=uh G1 rfl;refine .inr ?_;unfold rdT;rw [q2];show (if n≤l1.length then _ else _)=_;rw [if_neg (by rw [uh HNL];exact uh HN)]
def OI (w:World) (B:Nat) (v:Value) (ns:List Int):Prop:=w.ownsRow B 3 1 v ns.length (ns.map (Value.int .i64 ·))
theorem OI.is {w:World}{B:Nat}{v:Value}{ns:List Int} (h:OI w B v ns):rt.IS w v ns:=mm.own_sv h
theorem OI.sl {w:World}{B:Nat}{v:Value}{ns:List Int} (h:OI w B v ns):∃ oa n c,v=.slice oa n c:=by
 obtain ⟨oa,c,e,_⟩:=h.is.form;exact ⟨oa,_,c,e⟩
theorem OI.mv {w w':World}{B m:Nat}{v:Value}{ns:List Int} (h:OI w B v ns) (hb:Mv m w w') (hm:m < B):OI w' B v ns :=
 mm.row_keep h fun k hk=>hb.block k (mm.row_lt h k hk).2 (by have:=(mm.row_lt h k hk).1;omega)
def RdP (w:World) (m:Nat) (l:List UInt8) (r:Bool) (e:Ending) (w':World):Prop :=
 ∃ (v:Value) (ns:List Nat) (l':List UInt8) (r':Bool),e=.returned v∧OI w' w.heap.size v (ns.map Int.ofNat)∧RB w' m l' r'∧Mv m w w'∧l'.length≤l.length∧ns.length≤192∧(∀ n∈ns,n≤2147483647)∧(r'=false→r=false∧rdP l=some (ns,l'))∧(r'=true→r=true∨rdP l=none)
theorem RB.below {w w':World}{m B:Nat}{l:List UInt8}{r:Bool} (h:RB w m l r) (hb:Below B w w') (hm:m < B):RB w' m l r:=by
 obtain ⟨lv,h1,h2⟩:=h;exact ⟨lv,(hb.block m hm).trans h1,h2.keep (hb.mono (Nat.le_of_lt hm))⟩
theorem RB.lt {w:World}{m:Nat}{l:List UInt8}{r:Bool} (h:RB w m l r):m < w.heap.size:=by
 obtain ⟨lv,h1,_⟩:=h;exact blk_lt h1
theorem mv_below {w0 w w':World}{m:Nat} (h:Mv m w0 w) (hb:Below w0.heap.size w w'):Mv m w0 w' :=
 ⟨hb.os.trans h.os,hb.tape.trans h.tape,hb.output.trans h.output,Nat.le_trans h.size hb.size,fun k hk hn=>(hb.block k hk).trans (h.block k hk hn)⟩
theorem infoI:(Tryz.prog.info? 3).map (fun i=>(i.zero,i.size,i.bytes))=some (some (.int .i64 0),1,8):=by kernel_rfl
theorem OI.nil (w:World) (B:Nat):OI w B (.slice none 0 0) []:=World.ownsRow_nil _ _ _ _
theorem wpl_apI {ops:Array Oper}{rest:List Oper}{o:Oper}{a:Act}{Q:Exit→Act→World→Prop} (n:Int) (w W:World) (B:Nat) (v:Value) (l:List Int) (hgd:o.guard=none) (sl x:Operand) (ho:o.op=.call { callee:=.builtin .append,args:=#[sl,x],argTypes:=#[22,22] })
 (hv:a.eval sl=v) (hx:a.eval x=.slice (some ⟨w.heap.size,0,none⟩) 1 1) (hW:W=w.alloc (.cells #[.int .i64 n] 3)) (hown:Hid (OI w B v l)) (hB:Hid (B≤w.heap.size)) (hz:Hid (l.length≤1000))
 (h:∀ v' w',Hid (OI w' B v' (l++[n]))→Hid (Below B w w')→wpList Tryz.prog ops Q rest (a.put o.dst v') w'):wpList Tryz.prog ops Q (o::rest) a W:=by
 subst hW;have hz':=uh hz;have hBB:=uh hB;have hb:Below w.heap.size w (w.alloc (.cells #[.int .i64 n] 3)):=(Below.refl w.heap.size w).alloc (Nat.le_refl _) _;have hown':OI (w.alloc (.cells #[.int .i64 n] 3)) B v l:=mm.row_below (uh hown) hb (Nat.le_refl _);have hsv:mm.SV (w.alloc (.cells #[.int .i64 n] 3)) (.slice (some ⟨w.heap.size,0,none⟩) 1 1) 1 1 [.int .i64 n]:=mm.sv_cells (heap_alloc_new w (.cells #[.int .i64 n] 3)) 1 1 (by simp) (by unfold maxLen;omega);refine mm.wpList_append_sv2 hgd sl x 22 ho B 3 (.int .i64 0) 1 8 Tryz.underlying22 infoI rfl (by decide) v _ l.length 1 (l.map (Value.int .i64 ·)) [.int .i64 n] hv hx hown' hsv ?_ (by unfold maxLen;omega) (by omega) (by rw [World.size_alloc];omega) ?_
 · intro u hu
   rw [List.mem_singleton.1 hu];rfl
 · intro v' w' hA
   have h2:OI w' B v' (l++[n]):=by
    show w'.ownsRow B 3 1 v' (l++[n]).length ((l++[n]).map (Value.int .i64 ·));rw [List.map_append,List.length_append];exact hA.row
   exact h v' w' h2 (mm.row_bl hown' hA.grow (hb.mono hBB) (Nat.le_refl B) (Nat.le_trans hBB hb.size))
set_option maxRecDepth 100000 in
set_option maxHeartbeats 6400000 in
theorem rplace_any (m:Nat) (l:List UInt8) (r:Bool) (w:World) (h:RB w m l r) :
 Calls Tryz.prog 63 #[.pointer (some ⟨m,0,none⟩)] w (RdP w m l r):=by
 have C:=hide (rcnt_any m l r 0 192 (by decide) (by decide) w h);have HML:=hide h.lt;clear h
 go_enter Tryz.func63,Tryz.ntmps63
 go_upto_region 3 with (go_at_call 62;refine (uh C).mono ?_;rintro e u1 ⟨n,l1,r1,rfl,h1,b1,z1,nh,g1,k1⟩
                        have H1:=hide h1;have B1:=hide b1;have Z1:=hide z1;have NH:=hide nh;have G1:=hide g1;have K1:=hide k1
                        clear C b1 z1 nh g1 k1 h1)
 go_loopw [3,6] (fun nv iv wr=>∃ (i:Nat) (ns:List Nat) (o:List UInt8) (q:Bool),iv=.int .i64 (i:Int)∧i≤n∧Hid (OI wr w.heap.size nv (ns.map Int.ofNat))∧Hid (ns.length=i)∧Hid (∀ x∈ns,x≤2147483647)∧Hid (RB wr m o q)∧Hid (Mv m w wr)∧Hid (o.length≤l.length)∧Hid (q=false→r=false∧rdP l=match rdNums (n - i) o with|some (ms,t)=>some (ns++ms,t)|none=>none)∧Hid (q=true→r=true∨rdP l=none)) (fun _ iv _=>n - (intOf iv).toNat)
 case atStart =>
  refine ⟨0,[],l1,r1,rfl,Nat.zero_le _,OI.nil _ _,rfl,fun x hx=>by simp at hx,uh H1,uh B1,uh Z1,fun q=>?_,fun q=>?_⟩
  · obtain ⟨q1,q2⟩:=uh G1 q
    refine ⟨q1,?_⟩;unfold rdP;rw [q2];show rdNums n l1=_;rw [Nat.sub_zero]
    cases rdNums n l1 with
    | none=>rfl
    | some p=>rfl
  · rcases uh K1 q with z|z
    · exact .inl z
    · exact .inr (by unfold rdP;rw [z])
 case round =>
  obtain ⟨i,ns,o,q,rfl,hi,hoi,hnl,hnb,hrb,hmv,hol,hq0,hq1⟩:=hrel
  by_cases hlt:i < n
  · have hlt':(i:Int) < (n:Int):=by omega
    have A:=hide (rcnt_any m o q 0 2147483647 (by decide) (by decide) _ (uh hrb));obtain ⟨oa,na,ca,rfl⟩:=(uh hoi).sl;have HI9:Hid (i≤192):=by have:=uh NH;show _≤_;omega
    have hwi:IntKind.i64.wrap ((i:Int)+1)=((i+1:Nat):Int):=by rw [IntWalk.i64_in _ ⟨by omega,by have:=uh HI9;omega⟩];omega
    go_wp2_with (first
     | (go_at_call 62;refine (uh A).mono ?_;rintro e u2 ⟨x,l2,r2,rfl,h2,b2,z2,nh2,g2,k2⟩
        have H2:=hide h2;have B2:=hide b2;have Z2:=hide z2;have NH2:=hide nh2;have G2:=hide g2;have K2:=hide k2;have HO2:=hide ((uh hoi).mv b2 (uh HML));have HB2:Hid (w.heap.size≤u2.heap.size):=Nat.le_trans (uh hmv).size b2.size;have HZ2:Hid ((ns.map Int.ofNat).length≤1000):=by show _≤_;rw [List.length_map,uh hnl];have:=uh HI9;omega
        clear A h2 b2 z2 nh2 g2 k2)
     | (at_builtin;refine wpl_apI (x:Int) u2 _ w.heap.size _ (ns.map Int.ofNat) rfl _ _ rfl rfl rfl rfl HO2 HB2 HZ2 ?_;intro v3 u3 HO3 HB3
        obtain ⟨o3,n3,c3,rfl⟩:=(uh HO3).sl))
    refine ⟨⟨i+1,ns++[x],l2,r2,by go_num,by omega,?_,?_,?_,(uh H2).below (uh HB3) (uh HML),mv_below ((uh hmv).trans (uh B2)) (uh HB3),Nat.le_trans (uh Z2) (uh hol),fun q=>?_,fun hr2=>?_⟩,by simp [intOf];omega⟩
    · show OI _ _ _ _
      rw [List.map_append];exact uh HO3
    · show _=_
      rw [List.length_append,uh hnl];rfl
    · intro y hy
      rcases List.mem_append.1 hy with hy|hy
      · exact uh hnb y hy
      · rw [List.mem_singleton.1 hy];exact uh NH2
    · obtain ⟨q1,q2⟩:=uh G2 q
      obtain ⟨q3,q4⟩:=uh hq0 q1;refine ⟨q3,?_⟩;rw [q4,show n - i=(n - (i+1))+1 by omega,rdNums,q2];simp only
      cases rdNums (n - (i+1)) l2 with
      | none=>rfl
      | some p=>simp
    · rcases uh K2 hr2 with z|z
      · exact uh hq1 z
      · cases q with
        | true=>exact uh hq1 rfl
        | false =>
          obtain ⟨q3,q4⟩:=uh hq0 rfl;refine .inr ?_;rw [q4,show n - i=(n - (i+1))+1 by omega,rdNums,z]
  · have hlt':¬ (i:Int) < (n:Int):=by omega
    have he:n - i=0:=by omega
    obtain ⟨oa,na,ca,rfl⟩:=(uh hoi).sl;clear hlt;go_wp2;go_ret;refine ⟨_,ns,o,q,rfl,uh hoi,uh hrb,uh hmv,uh hol,by rw [uh hnl];have:=uh NH;omega,uh hnb,fun z=>?_,uh hq1⟩;obtain ⟨q1,q2⟩:=uh hq0 z;refine ⟨q1,?_⟩;rw [q2,he];simp [rdNums]
end Go.Proofs.YthnhobplgmojeaaGreatDoor.ev
