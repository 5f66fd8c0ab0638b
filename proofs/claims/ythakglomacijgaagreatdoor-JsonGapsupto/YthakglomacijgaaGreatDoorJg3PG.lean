/- Texts in one: Jg3 -/
import Derived.Test.YthakglomacijgaaGreatDoorHvPG
import Derived.Test.YthakglomacijgaaGreatDoorMrPG
import Derived.Test.YthakglomacijgaaGreatDoorSfPG
import Derived.Test.YthakglomacijgaaGreatDoorIfPG
import Derived.Test.YthakglomacijgaaGreatDoorWlPG
import Derived.Test.YthakglomacijgaaGreatDoorIePG
import Derived.Deep.RegionLaw
namespace Go.Proofs.YthakglomacijgaaGreatDoor.rd
open Go.RowKit
theorem st_not {c:UInt8} (h:¬ stB c=true):c.toNat≠91∧c.toNat≠93∧c.toNat≠123∧c.toNat≠125∧c.toNat≠44∧c.toNat≠58:=by
 refine ⟨fun q=>h ?_,fun q=>h ?_,fun q=>h ?_,fun q=>h ?_,fun q=>h ?_,fun q=>h ?_⟩
 · rw [show c=91 from UInt8.toNat_inj.1 q];decide
 · rw [show c=93 from UInt8.toNat_inj.1 q];decide
 · rw [show c=123 from UInt8.toNat_inj.1 q];decide
 · rw [show c=125 from UInt8.toNat_inj.1 q];decide
 · rw [show c=44 from UInt8.toNat_inj.1 q];decide
 · rw [show c=58 from UInt8.toNat_inj.1 q];decide
theorem st_one {c:UInt8} (h:stB c=true):c.toNat=91∨c.toNat=93∨c.toNat=123∨c.toNat=125∨c.toNat=44∨c.toNat=58:=by
 unfold stB at h
 simp at h
 rcases h with ((((h|h)|h)|h)|h)|h <;> (rw [h];decide)
theorem tdiv4 {n:Int} (h0:-9223372036854775808≤n) (h1:n≤9223372036854775807):-9223372036854775808≤n.tdiv 4∧n.tdiv 4≤9223372036854775807:=by
 rcases Int.le_total 0 n with h|h
 · have e:n.tdiv 4=n / 4:=Int.tdiv_eq_ediv_of_nonneg h
   rw [e];omega
 · obtain ⟨m,rfl⟩:∃ m,n=-m:=⟨-n,by omega⟩
   rw [Int.neg_tdiv,Int.tdiv_eq_ediv_of_nonneg (by omega)]
   omega
theorem gapT_size (k:Int):(gapT k).size≤2:=by
 unfold gapT
 split
 · decide
 · split
   · decide
   · split <;> decide
theorem GG_some {l:List Int}{i:Nat}{n:Int} (h:l[i]?=some n):GG l i=some ((gapT (pk n 4)).data.toList,(gapT (pk (n.tdiv 4) 4)).data.toList):=by
 unfold GG
 rw [h]
 rfl
theorem ext_list {s:ByteArray}{S:List UInt8} (hs:s=⟨S.toArray⟩) (f i:Nat):(s.extract f i).data.toList=(S.drop f).take (i - f):=by
 subst hs
 rw [ByteArray.data_extract,Array.toList_extract,List.extract_eq_take_drop]
theorem lay_text {s:ByteArray}{S:List UInt8} (hs:s=⟨S.toArray⟩) {f i:Nat} (hi:i < s.size) (a b:ByteArray):(s.extract f i++a++s.extract i (i+1)++b).data.toList=(S.drop f).take (i - f)++a.data.toList++[s[i]]++b.data.toList:=by
 rw [ByteArray.data_append,ByteArray.data_append,ByteArray.data_append,Array.toList_append,Array.toList_append,Array.toList_append,ext_list hs,ext_list hs]
 have e:(S.drop i).take (i+1 - i)=[s[i]]:=by
  subst hs
  have hl:i < S.length:=hi
  rw [List.drop_eq_getElem_cons hl,show i+1 - i=1 by omega]
  rfl
 rw [e]
theorem VR.kindEq {w:World}{v:JT}{a:Int}{t:List Value} (h:VR w v (.int .i64 a::t)):a=kindOf v:=by
 cases h
 rfl
theorem null_vrG (w:World):VR w null [.int .i64 0,.bool false,.bool false,.string ByteArray.empty,.int .i64 0,.string ⟨#[]⟩,.slice none 0 0,.slice none 0 0]:=(vrep_flat w w.heap.size 0 false zed ⟨#[]⟩).vr
theorem like_sameG {N:JT} (cs cs':List Value) (w:World) (h:VR w N cs) (h':VR w N cs'):Calls Tryz.prog 22 #[.agg cs.toArray,.agg cs'.toArray] w fun e w'=>e=.returned (.bool true)∧Below w.heap.size w w':=by
 refine (rlike_any _ N N cs cs' w (Nat.lt_succ_self _) h h').mono ?_
 rintro e w' ⟨b,rfl,hb,hl⟩
 rw [hb.2 rfl]
 exact ⟨rfl,hl⟩
theorem GG_none {l:List Int}{i:Nat} (h:¬ i < l.length):GG l i=none:=by
 unfold GG
 rw [List.getElem?_eq_none (by omega)]
 rfl
set_option maxHeartbeats 12800000 in
set_option maxRecDepth 1000000 in
theorem gaps_law (E:Nat→Value) (A:Nat→Addr) (hEA:E 0=.pointer (some (A 0))) (v:JT) (bv:Bd v) (c:List Value) (xv:Value) (l:List Int) (cut:Int) (w:World) (h:AE E A w) (hv:VR w v c)
 (hi:rt.IS w xv l) (hl:l.length≤1048576) (ho:∀ n∈l,rt.Oki n) (hc0:-9223372036854775808≤cut) (hc1:cut≤9223372036854775807) :
 Calls Tryz.prog 8 #[.agg c.toArray,xv,.int .i64 cut] w fun e w'=>e=.returned (.bool true)∧Below w.heap.size w w':=by
 obtain ⟨a0,a1,a2,a3,a4,a5,a6,a7,a8,a9,aa,ab,rfl⟩:=hv.form
 obtain ⟨oa,cap,rfl,hcap,hcm⟩:=hi.form
 have HKD:=hide hv.kindEq
 have B1:=hide (ss.one_box w [.int .i64 a0,.bool a1,.bool a2,.string a3,.int .i64 a4,.string a5,.slice a6 a7 a8,.slice a9 aa ab])
 have HV:=hide (fun u (hu:Below w.heap.size w u)=>hv.keep hu)
 have HI:=hide (fun u (hu:Below w.heap.size w u)=>hi.keep hu)
 have CH:=hide (fun u (hu:Below w.heap.size w u)=>heavy_any v bv _ u (hv.keep hu))
 have BV:=hide bv
 have CA:=hide (fun u (hu:Below w.heap.size w u)=>jawake E A hEA u (h.keep hu))
 have HAE:=hide (fun u (hu:Below w.heap.size w u)=>h.keep hu)
 have HL:=hide hl
 have HO:=hide ho
 have HC:=hide (And.intro hc0 hc1)
 clear hv h hi hEA bv hl ho hc0 hc1 hcap hcm
 go_enter Tryz.func8,Tryz.ntmps8
 go_upto_region 1 with fail
 obtain ⟨q0,q1,q2⟩:=uh B1 _ rfl
 generalize w.alloc (.cells [.int .i64 a0,.bool a1,.bool a2,.string a3,.int .i64 a4,.string a5,.slice a6 a7 a8,.slice a9 aa ab].toArray 27)=W at *
 obtain ⟨y0,y1,y2,y3,y4,y5,y6,y7⟩:=q0.cells
 have HX:=hide q0
 have L0:Hid (Below w.heap.size w W):=q1.mono (Nat.le_refl _)
 have Y0:=hide (Below.refl W.heap.size W)
 have CW:=hide (uh CH W (uh L0))
 clear q0 q1 q2 B1 CH
 go_upto_region 2 with (go_at_call 9;refine (uh CW).mono ?_;rintro e1 u1 ⟨h1,rfl,hh1,l1⟩)
 have HH:=hide hh1
 have Y1:=hide ((uh Y0).trans (l1.mono (Nat.le_refl _)))
 have L1:=hide ((uh L0).trans (l1.mono (uh L0).size))
 clear l1 hh1 CW L0 Y0 y0 y1 y2 y3 y4 y5 y6 y7
 cases h1 with
 | true =>
   go_wp2
   go_ret
   exact ⟨rfl,uh L1⟩
 | false =>
   have hcn:=uh HH rfl
   have G:=hide (lit_of (uh BV) hcn)
   have CAw:=hide (uh CA u1 (uh L1))
   clear hcn HH CA
   go_upto_region 5 with (go_at_call 10;refine (uh CAw).mono ?_;rintro e2 u2 ⟨rfl,l2⟩)
   have Y2:=hide ((uh Y1).trans (l2.mono (uh Y1).size))
   have L2:=hide ((uh L1).trans (l2.mono (uh L1).size))
   clear l2 CAw Y1 L1
   obtain ⟨y0,y1,y2,y3,y4,y5,y6,y7⟩:=((uh HX).keep (uh Y2) (blk_lt (uh HX))).cells
   have CPw:=hide (lprint (uh BV) (uh G) _ u2 (uh HV u2 (uh L2)) (uh HAE u2 (uh L2)).pw)
   go_upto_region 6 with (go_at_call 12;refine (uh CPw).mono ?_;rintro e3 u3 ⟨rfl,l3⟩)
   have Y3:=hide ((uh Y2).trans (l3.mono (uh Y2).size))
   have L3:=hide ((uh L2).trans (l3.mono (uh L2).size))
   clear l3 CPw Y2 L2 y0 y1 y2 y3 y4 y5 y6 y7
   have HP:=hide (uh G).pf
   obtain ⟨c1,t1,hct,_⟩:=prt_head (uh G).pf
   have hS0:0 < (prt (nrm v)).length:=by rw [hct];simp
   clear hct
   obtain ⟨s,hs,hsl⟩:∃ s:ByteArray,s=⟨(prt (nrm v)).toArray⟩∧s.size=(prt (nrm v)).length:=⟨_,rfl,rfl⟩
   rw [← hs]
   have HS:=hide hs
   clear hs
   have HSL:=hide hsl
   rw [← hsl] at hS0
   clear hsl
   have he0:((s.size:Int) == 0)=false:=by rw [beq_eq_false_iff_ne];omega
   have he1:(0:Int) < (s.size:Int):=by omega
   by_cases hbig:524288 < s.size
   · have hb:(524288:Int) < (s.size:Int):=by omega
     clear hS0 hbig
     go_wp2
     go_ret
     have q:decide (0 < s.size)=true:=by rw [decide_eq_true_eq];omega
     refine ⟨?_,uh L3⟩
     show Ending.returned (.bool (decide (0 < s.size)))=_
     rw [q]
   · have hb:¬ (524288:Int) < (s.size:Int):=by omega
     have HB:=hide hbig
     have HS0:=hide hS0
     clear hS0 hbig
     go_upto_region 8 with fail
     clear he0 he1 hb
     go_upto_region 9 with fail
     have HG4:Hid (G4 (u3.alloc (.cells #[.string ⟨#[]⟩,.string ⟨#[32]⟩,.string ⟨#[10,9]⟩,.string ⟨#[13,32]⟩] 9)) u3.heap.size):=heap_alloc_new _ _
     have hb4:Below u3.heap.size u3 (u3.alloc (.cells #[.string ⟨#[]⟩,.string ⟨#[32]⟩,.string ⟨#[10,9]⟩,.string ⟨#[13,32]⟩] 9)):=(Below.refl _ u3).alloc (Nat.le_refl _) _
     generalize u3.alloc (.cells #[.string ⟨#[]⟩,.string ⟨#[32]⟩,.string ⟨#[10,9]⟩,.string ⟨#[13,32]⟩] 9)=W4 at *
     have Y4:=hide ((uh Y3).trans (hb4.mono (uh Y3).size))
     have L4:=hide ((uh L3).trans (hb4.mono (uh L3).size))
     generalize u3.heap.size=g4 at *
     clear hb4 Y3 L3
     generalize hS:prt (nrm v)=S at *
     have HS2:=hide hS
     clear hS
     go_upto_region 12 with fail
     go_upto_region 13 with fail
     go_loopw [11,12,13,14] (fun ov wv fv iv wr=>∃ (o:List UInt8) (b:Bool) (f i:Nat),wv=.bool b∧fv=.int .i64 (f:Int)∧iv=.int .i64 (i:Int)∧i≤s.size+1∧f≤s.size∧Hid (o.length≤6*f)∧Hid (OB wr W4.heap.size ov o)∧Hid (Below W4.heap.size W4 wr)∧Hid (GI (GG l) S (scan (GG l) 0 false S) o b f i)) (fun _ _ _ iv _=>s.size+2 - (intOf iv).toNat)
     case atStart=>exact ⟨[],false,0,0,rfl,rfl,rfl,by omega,by omega,Nat.le_refl _,OB.nil _ _,Below.refl _ _,GI.start _ _⟩
     case round =>
      obtain ⟨o,b,f,i,rfl,rfl,rfl,hi,hf,HOL,HOB,HW,HGI⟩:=hrel
      by_cases hlt:i < s.size
      · have hlt':(i:Int) < (s.size:Int):=by omega
        have hsi:S[i]?=some s[i]:=by
         have e1:s.data.toList=S:=by rw [uh HS]
         have h2:i < s.data.toList.length:=by rw [Array.length_toList];exact hlt
         rw [← e1,List.getElem?_eq_getElem h2]
         rfl
        have HSI:=hide hsi
        have hsw:s.size≤524288:=by have:=uh HB;omega
        have hu8:∀ k:Nat,s[i]=UInt8.ofNat k→k < 256→s[i].toNat=k:=fun k h hk=>by rw [h];exact Nat.mod_eq_of_lt hk
        by_cases h92:s[i].toNat=92
        · have hc92:s[i]=92:=UInt8.toNat_inj.1 h92
          have e92:((s[i].toNat:Int) == 92)=true:=by rw [h92];rfl
          have e34:((s[i].toNat:Int) == 34)=false:=by rw [h92];rfl
          have e91:((s[i].toNat:Int) == 91)=false:=by rw [h92];rfl
          have e93:((s[i].toNat:Int) == 93)=false:=by rw [h92];rfl
          have e123:((s[i].toNat:Int) == 123)=false:=by rw [h92];rfl
          have e125:((s[i].toNat:Int) == 125)=false:=by rw [h92];rfl
          have e44:((s[i].toNat:Int) == 44)=false:=by rw [h92];rfl
          have e58:((s[i].toNat:Int) == 58)=false:=by rw [h92];rfl
          cases b with
          | true =>
            have hg:=(uh HGI).esc (by rw [hsi,hc92])
            have HG:=hide hg
            clear hsi hu8 h92 hc92 hg
            go_wp2
            refine ⟨⟨o,true,f,i+2,rfl,rfl,by go_num,by omega,hf,HOL,HOB,HW,uh HG⟩,by simp [intOf];omega⟩
          | false =>
            have hg:=(uh HGI).next hsi (fun q=>by simp at q) (fun q=>by rw [hc92] at q;exact absurd q.2 (by decide))
            rw [hc92,if_neg (by decide)] at hg
            have HG:=hide hg
            clear hsi hu8 h92 hc92 hg
            go_wp2
            refine ⟨⟨o,false,f,i+1,rfl,rfl,by go_num,by omega,hf,HOL,HOB,HW,uh HG⟩,by simp [intOf];omega⟩
        · by_cases h34:s[i].toNat=34
          · have hv:=h34
            have hc:s[i]=34:=UInt8.toNat_inj.1 hv
            have e92:((s[i].toNat:Int) == 92)=false:=by rw [hv];rfl
            have e34:((s[i].toNat:Int) == 34)=true:=by rw [hv];rfl
            have e91:((s[i].toNat:Int) == 91)=false:=by rw [hv];rfl
            have e93:((s[i].toNat:Int) == 93)=false:=by rw [hv];rfl
            have e123:((s[i].toNat:Int) == 123)=false:=by rw [hv];rfl
            have e125:((s[i].toNat:Int) == 125)=false:=by rw [hv];rfl
            have e44:((s[i].toNat:Int) == 44)=false:=by rw [hv];rfl
            have e58:((s[i].toNat:Int) == 58)=false:=by rw [hv];rfl
            have hg:=(uh HGI).next hsi (fun q=>by rw [hc] at q;exact absurd q.2 (by decide)) (fun q=>by rw [hc] at q;exact absurd q.2 (by decide))
            rw [hc,if_pos rfl] at hg
            have HG:=hide hg
            clear hsi hu8 h92 h34 hc hv hg
            cases b with
            | true =>
              go_wp2
              refine ⟨⟨o,false,f,i+1,rfl,rfl,by go_num,by omega,hf,HOL,HOB,HW,uh HG⟩,by simp [intOf];omega⟩
            | false =>
              go_wp2
              refine ⟨⟨o,true,f,i+1,rfl,rfl,by go_num,by omega,hf,HOL,HOB,HW,uh HG⟩,by simp [intOf];omega⟩
          · by_cases hst:stB s[i]=true
            · rcases st_one hst with hv|hv|hv|hv|hv|hv
              · have hc:s[i]=91:=UInt8.toNat_inj.1 hv
                have e92:((s[i].toNat:Int) == 92)=false:=by rw [hv];rfl
                have e34:((s[i].toNat:Int) == 34)=false:=by rw [hv];rfl
                have e91:((s[i].toNat:Int) == 91)=true:=by rw [hv];rfl
                have e93:((s[i].toNat:Int) == 93)=false:=by rw [hv];rfl
                have e123:((s[i].toNat:Int) == 123)=false:=by rw [hv];rfl
                have e125:((s[i].toNat:Int) == 125)=false:=by rw [hv];rfl
                have e44:((s[i].toNat:Int) == 44)=false:=by rw [hv];rfl
                have e58:((s[i].toNat:Int) == 58)=false:=by rw [hv];rfl
                cases b with
                | true =>
                  have hg:=(uh HGI).next hsi (fun q=>by rw [hc] at q;exact absurd q.2 (by decide)) (fun q=>by rw [hc] at q;exact absurd q.1 (by decide))
                  rw [hc,if_neg (by decide)] at hg
                  have HG:=hide hg
                  clear hsi hu8 h92 h34 hc hv hg
                  go_wp2
                  refine ⟨⟨o,true,f,i+1,rfl,rfl,by go_num,by omega,hf,HOL,HOB,HW,uh HG⟩,by simp [intOf];omega⟩
                | false =>
                  by_cases hil:i < l.length
                  · have hil':(i:Int) < (l.length:Int):=by omega
                    have hwl:=((uh L4).trans ((uh HW).mono (uh L4).size))
                    obtain ⟨la,lc,le,_,_,hat⟩:=(uh HI wr hwl).at (by omega)
                    simp only [Value.slice.injEq] at le
                    obtain ⟨rfl,_,rfl⟩:=le
                    obtain ⟨n,hn⟩:∃ n,l[i]?=some n:=⟨l[i],List.getElem?_eq_getElem hil⟩
                    have hna:=hat i n hn
                    obtain ⟨o1,o2⟩:=(uh HO) n (List.mem_of_getElem? hn)
                    have P1:=hide (pick_any n 4 wr o1 o2 (by decide) (by decide))
                    obtain ⟨p1,p2⟩:=pk_in n 4 (by decide)
                    have hg1:=((uh HG4).keep (uh HW)).at p1 p2
                    have HGG:=hide (GG_some hn)
                    generalize hk1:pk n 4=k1 at *
                    have p2':k1 < 4:=p2
                    clear hat hn hk1 hwl
                    go_upto_region 22 with (go_at_call 30;refine (uh P1).mono ?_;rintro e5 u5 ⟨rfl,rfl⟩)
                    have hfi:(f:Int)≤(i:Int):=by have:=(uh HGI).1;omega
                    have hi1:(i:Int)+1≤(s.size:Int):=by omega
                    have hf0:(0:Int)≤(f:Int):=by omega
                    have hi0:(0:Int)≤(i:Int):=by omega
                    have his:(i:Int)≤(s.size:Int):=by omega
                    have hi2:(i:Int)≤(i:Int)+1:=by omega
                    have hw1:IntKind.i64.wrap ((i:Int)+1)=(i:Int)+1:=IntWalk.i64_in _ ⟨by omega,by omega⟩
                    have hq1:IntKind.i64.wrap (n.tdiv 4)=n.tdiv 4:=IntWalk.i64_in _ (tdiv4 o1 o2)
                    have P2:=hide (fun u=>pick_any (n.tdiv 4) 4 u (tdiv4 o1 o2).1 (tdiv4 o1 o2).2 (by decide) (by decide))
                    obtain ⟨p3,p4⟩:=pk_in (n.tdiv 4) 4 (by decide)
                    have hg2:=((uh HG4).keep (uh HW)).at p3 p4
                    generalize hk2:pk (n.tdiv 4) 4=k2 at *
                    have p4':k2 < 4:=p4
                    clear hk2
                    have hgz1:=gapT_size k1
                    have hgz2:=gapT_size k2
                    have z1:∀ u:World,(Op.stringOp .add (s.extract f i) (gapT k1)).run Tryz.prog u=.ok (.string (s.extract f i++gapT k1)) u:=fun u=>run_string_add_sum u _ _ (by rw [ByteArray.size_extract];omega)
                    have z2:∀ u:World,(Op.stringOp .add (s.extract f i++gapT k1) (s.extract i (i+1))).run Tryz.prog u=.ok (.string (s.extract f i++gapT k1++s.extract i (i+1))) u:=fun u=>run_string_add_sum u _ _ (by rw [ByteArray.size_append,ByteArray.size_extract,ByteArray.size_extract];omega)
                    have z3:∀ u:World,(Op.stringOp .add (s.extract f i++gapT k1++s.extract i (i+1)) (gapT k2)).run Tryz.prog u=.ok (.string (s.extract f i++gapT k1++s.extract i (i+1)++gapT k2)) u:=fun u=>run_string_add_sum u _ _ (by rw [ByteArray.size_append,ByteArray.size_append,ByteArray.size_extract,ByteArray.size_extract];omega)
                    have hti:((i:Int)+1).toNat=i+1:=by omega
                    have HT:=lay_text (uh HS) (f:=f) (show i < s.size by omega) (gapT k1) (gapT k2)
                    have hts:(s.extract f i++gapT k1++s.extract i (i+1)++gapT k2).size≤i - f+5:=by
                     rw [ByteArray.size_append,ByteArray.size_append,ByteArray.size_append,ByteArray.size_extract,ByteArray.size_extract];omega
                    have hg:=(uh HGI).lay hsi (fun q=>by rw [hc] at q;exact absurd q.2 (by decide)) ⟨by rw [hc];rfl,by rw [hc];rfl⟩ (uh HGG)
                    have HG:=hide hg
                    have HL3:Hid ((o++(s.extract f i++gapT k1++s.extract i (i+1)++gapT k2).data.toList).length≤6*(i+1)):=by
                     have h1:=uh HOL
                     have h2:(s.extract f i++gapT k1++s.extract i (i+1)++gapT k2).data.toList.length=(s.extract f i++gapT k1++s.extract i (i+1)++gapT k2).size:=Array.length_toList
                     show _≤_
                     rw [List.length_append,h2]
                     omega
                    have HZ:Hid (o.length+(s.extract f i++gapT k1++s.extract i (i+1)++gapT k2).size≤140000000000000):=by
                     have h1:=uh HOL
                     show _≤_
                     omega
                    rw [← HT] at HG
                    have HTT:=hide HT
                    clear hgz1 hgz2 HT hg hts hc hv h92 h34 hu8 hsi
                    have HOD:Hid (OB u5.drew W4.heap.size u11 o):=uh HOB
                    have HBD:Hid (W4.heap.size≤u5.drew.heap.size):=(uh HW).size
                    go_region_law (first
                     | (go_simp;go_at_call 30;refine (uh P2 _).mono ?_;rintro e6 u6 ⟨rfl,rfl⟩)
                     | (refine step_apS (s.extract f i++gapT k1++s.extract i (i+1)++gapT k2) u5.drew W4.heap.size _ o rfl _ _ rfl rfl rfl HOD HBD HZ ?_
                        intro v6 u6 HO6 HB6 HE6))
                    all_goals go_wp2
                    all_goals exact ⟨⟨_,false,i+1,i+1,rfl,by go_num,by go_num,by omega,by omega,HL3,HO6,(uh HW).trans (Below.trans (show Below W4.heap.size u5 u5.drew from ⟨rfl,rfl,rfl,Nat.le_refl _,fun _ _=>rfl⟩) (uh HB6)),uh HG⟩,by simp [intOf];omega⟩
                  · have hil':¬ (i:Int) < (l.length:Int):=by omega
                    have hg:=(uh HGI).bare hsi (fun q=>by rw [hc] at q;exact absurd q.2 (by decide)) (GG_none hil)
                    rw [hc,if_neg (by decide)] at hg
                    have HG:=hide hg
                    clear hsi hu8 h92 h34 hc hv hg
                    go_wp2
                    refine ⟨⟨o,false,f,i+1,rfl,rfl,by go_num,by omega,hf,HOL,HOB,HW,uh HG⟩,by simp [intOf];omega⟩
              · have hc:s[i]=93:=UInt8.toNat_inj.1 hv
                have e92:((s[i].toNat:Int) == 92)=false:=by rw [hv];rfl
                have e34:((s[i].toNat:Int) == 34)=false:=by rw [hv];rfl
                have e91:((s[i].toNat:Int) == 91)=false:=by rw [hv];rfl
                have e93:((s[i].toNat:Int) == 93)=true:=by rw [hv];rfl
                have e123:((s[i].toNat:Int) == 123)=false:=by rw [hv];rfl
                have e125:((s[i].toNat:Int) == 125)=false:=by rw [hv];rfl
                have e44:((s[i].toNat:Int) == 44)=false:=by rw [hv];rfl
                have e58:((s[i].toNat:Int) == 58)=false:=by rw [hv];rfl
                cases b with
                | true =>
                  have hg:=(uh HGI).next hsi (fun q=>by rw [hc] at q;exact absurd q.2 (by decide)) (fun q=>by rw [hc] at q;exact absurd q.1 (by decide))
                  rw [hc,if_neg (by decide)] at hg
                  have HG:=hide hg
                  clear hsi hu8 h92 h34 hc hv hg
                  go_wp2
                  refine ⟨⟨o,true,f,i+1,rfl,rfl,by go_num,by omega,hf,HOL,HOB,HW,uh HG⟩,by simp [intOf];omega⟩
                | false =>
                  by_cases hil:i < l.length
                  · have hil':(i:Int) < (l.length:Int):=by omega
                    have hwl:=((uh L4).trans ((uh HW).mono (uh L4).size))
                    obtain ⟨la,lc,le,_,_,hat⟩:=(uh HI wr hwl).at (by omega)
                    simp only [Value.slice.injEq] at le
                    obtain ⟨rfl,_,rfl⟩:=le
                    obtain ⟨n,hn⟩:∃ n,l[i]?=some n:=⟨l[i],List.getElem?_eq_getElem hil⟩
                    have hna:=hat i n hn
                    obtain ⟨o1,o2⟩:=(uh HO) n (List.mem_of_getElem? hn)
                    have P1:=hide (pick_any n 4 wr o1 o2 (by decide) (by decide))
                    obtain ⟨p1,p2⟩:=pk_in n 4 (by decide)
                    have hg1:=((uh HG4).keep (uh HW)).at p1 p2
                    have HGG:=hide (GG_some hn)
                    generalize hk1:pk n 4=k1 at *
                    have p2':k1 < 4:=p2
                    clear hat hn hk1 hwl
                    go_upto_region 22 with (go_at_call 30;refine (uh P1).mono ?_;rintro e5 u5 ⟨rfl,rfl⟩)
                    have hfi:(f:Int)≤(i:Int):=by have:=(uh HGI).1;omega
                    have hi1:(i:Int)+1≤(s.size:Int):=by omega
                    have hf0:(0:Int)≤(f:Int):=by omega
                    have hi0:(0:Int)≤(i:Int):=by omega
                    have his:(i:Int)≤(s.size:Int):=by omega
                    have hi2:(i:Int)≤(i:Int)+1:=by omega
                    have hw1:IntKind.i64.wrap ((i:Int)+1)=(i:Int)+1:=IntWalk.i64_in _ ⟨by omega,by omega⟩
                    have hq1:IntKind.i64.wrap (n.tdiv 4)=n.tdiv 4:=IntWalk.i64_in _ (tdiv4 o1 o2)
                    have P2:=hide (fun u=>pick_any (n.tdiv 4) 4 u (tdiv4 o1 o2).1 (tdiv4 o1 o2).2 (by decide) (by decide))
                    obtain ⟨p3,p4⟩:=pk_in (n.tdiv 4) 4 (by decide)
                    have hg2:=((uh HG4).keep (uh HW)).at p3 p4
                    generalize hk2:pk (n.tdiv 4) 4=k2 at *
                    have p4':k2 < 4:=p4
                    clear hk2
                    have hgz1:=gapT_size k1
                    have hgz2:=gapT_size k2
                    have z1:∀ u:World,(Op.stringOp .add (s.extract f i) (gapT k1)).run Tryz.prog u=.ok (.string (s.extract f i++gapT k1)) u:=fun u=>run_string_add_sum u _ _ (by rw [ByteArray.size_extract];omega)
                    have z2:∀ u:World,(Op.stringOp .add (s.extract f i++gapT k1) (s.extract i (i+1))).run Tryz.prog u=.ok (.string (s.extract f i++gapT k1++s.extract i (i+1))) u:=fun u=>run_string_add_sum u _ _ (by rw [ByteArray.size_append,ByteArray.size_extract,ByteArray.size_extract];omega)
                    have z3:∀ u:World,(Op.stringOp .add (s.extract f i++gapT k1++s.extract i (i+1)) (gapT k2)).run Tryz.prog u=.ok (.string (s.extract f i++gapT k1++s.extract i (i+1)++gapT k2)) u:=fun u=>run_string_add_sum u _ _ (by rw [ByteArray.size_append,ByteArray.size_append,ByteArray.size_extract,ByteArray.size_extract];omega)
                    have hti:((i:Int)+1).toNat=i+1:=by omega
                    have HT:=lay_text (uh HS) (f:=f) (show i < s.size by omega) (gapT k1) (gapT k2)
                    have hts:(s.extract f i++gapT k1++s.extract i (i+1)++gapT k2).size≤i - f+5:=by
                     rw [ByteArray.size_append,ByteArray.size_append,ByteArray.size_append,ByteArray.size_extract,ByteArray.size_extract];omega
                    have hg:=(uh HGI).lay hsi (fun q=>by rw [hc] at q;exact absurd q.2 (by decide)) ⟨by rw [hc];rfl,by rw [hc];rfl⟩ (uh HGG)
                    have HG:=hide hg
                    have HL3:Hid ((o++(s.extract f i++gapT k1++s.extract i (i+1)++gapT k2).data.toList).length≤6*(i+1)):=by
                     have h1:=uh HOL
                     have h2:(s.extract f i++gapT k1++s.extract i (i+1)++gapT k2).data.toList.length=(s.extract f i++gapT k1++s.extract i (i+1)++gapT k2).size:=Array.length_toList
                     show _≤_
                     rw [List.length_append,h2]
                     omega
                    have HZ:Hid (o.length+(s.extract f i++gapT k1++s.extract i (i+1)++gapT k2).size≤140000000000000):=by
                     have h1:=uh HOL
                     show _≤_
                     omega
                    rw [← HT] at HG
                    have HTT:=hide HT
                    clear hgz1 hgz2 HT hg hts hc hv h92 h34 hu8 hsi
                    have HOD:Hid (OB u5.drew W4.heap.size u11 o):=uh HOB
                    have HBD:Hid (W4.heap.size≤u5.drew.heap.size):=(uh HW).size
                    go_region_law (first
                     | (go_simp;go_at_call 30;refine (uh P2 _).mono ?_;rintro e6 u6 ⟨rfl,rfl⟩)
                     | (refine step_apS (s.extract f i++gapT k1++s.extract i (i+1)++gapT k2) u5.drew W4.heap.size _ o rfl _ _ rfl rfl rfl HOD HBD HZ ?_
                        intro v6 u6 HO6 HB6 HE6))
                    all_goals go_wp2
                    all_goals exact ⟨⟨_,false,i+1,i+1,rfl,by go_num,by go_num,by omega,by omega,HL3,HO6,(uh HW).trans (Below.trans (show Below W4.heap.size u5 u5.drew from ⟨rfl,rfl,rfl,Nat.le_refl _,fun _ _=>rfl⟩) (uh HB6)),uh HG⟩,by simp [intOf];omega⟩
                  · have hil':¬ (i:Int) < (l.length:Int):=by omega
                    have hg:=(uh HGI).bare hsi (fun q=>by rw [hc] at q;exact absurd q.2 (by decide)) (GG_none hil)
                    rw [hc,if_neg (by decide)] at hg
                    have HG:=hide hg
                    clear hsi hu8 h92 h34 hc hv hg
                    go_wp2
                    refine ⟨⟨o,false,f,i+1,rfl,rfl,by go_num,by omega,hf,HOL,HOB,HW,uh HG⟩,by simp [intOf];omega⟩
              · have hc:s[i]=123:=UInt8.toNat_inj.1 hv
                have e92:((s[i].toNat:Int) == 92)=false:=by rw [hv];rfl
                have e34:((s[i].toNat:Int) == 34)=false:=by rw [hv];rfl
                have e91:((s[i].toNat:Int) == 91)=false:=by rw [hv];rfl
                have e93:((s[i].toNat:Int) == 93)=false:=by rw [hv];rfl
                have e123:((s[i].toNat:Int) == 123)=true:=by rw [hv];rfl
                have e125:((s[i].toNat:Int) == 125)=false:=by rw [hv];rfl
                have e44:((s[i].toNat:Int) == 44)=false:=by rw [hv];rfl
                have e58:((s[i].toNat:Int) == 58)=false:=by rw [hv];rfl
                cases b with
                | true =>
                  have hg:=(uh HGI).next hsi (fun q=>by rw [hc] at q;exact absurd q.2 (by decide)) (fun q=>by rw [hc] at q;exact absurd q.1 (by decide))
                  rw [hc,if_neg (by decide)] at hg
                  have HG:=hide hg
                  clear hsi hu8 h92 h34 hc hv hg
                  go_wp2
                  refine ⟨⟨o,true,f,i+1,rfl,rfl,by go_num,by omega,hf,HOL,HOB,HW,uh HG⟩,by simp [intOf];omega⟩
                | false =>
                  by_cases hil:i < l.length
                  · have hil':(i:Int) < (l.length:Int):=by omega
                    have hwl:=((uh L4).trans ((uh HW).mono (uh L4).size))
                    obtain ⟨la,lc,le,_,_,hat⟩:=(uh HI wr hwl).at (by omega)
                    simp only [Value.slice.injEq] at le
                    obtain ⟨rfl,_,rfl⟩:=le
                    obtain ⟨n,hn⟩:∃ n,l[i]?=some n:=⟨l[i],List.getElem?_eq_getElem hil⟩
                    have hna:=hat i n hn
                    obtain ⟨o1,o2⟩:=(uh HO) n (List.mem_of_getElem? hn)
                    have P1:=hide (pick_any n 4 wr o1 o2 (by decide) (by decide))
                    obtain ⟨p1,p2⟩:=pk_in n 4 (by decide)
                    have hg1:=((uh HG4).keep (uh HW)).at p1 p2
                    have HGG:=hide (GG_some hn)
                    generalize hk1:pk n 4=k1 at *
                    have p2':k1 < 4:=p2
                    clear hat hn hk1 hwl
                    go_upto_region 22 with (go_at_call 30;refine (uh P1).mono ?_;rintro e5 u5 ⟨rfl,rfl⟩)
                    have hfi:(f:Int)≤(i:Int):=by have:=(uh HGI).1;omega
                    have hi1:(i:Int)+1≤(s.size:Int):=by omega
                    have hf0:(0:Int)≤(f:Int):=by omega
                    have hi0:(0:Int)≤(i:Int):=by omega
                    have his:(i:Int)≤(s.size:Int):=by omega
                    have hi2:(i:Int)≤(i:Int)+1:=by omega
                    have hw1:IntKind.i64.wrap ((i:Int)+1)=(i:Int)+1:=IntWalk.i64_in _ ⟨by omega,by omega⟩
                    have hq1:IntKind.i64.wrap (n.tdiv 4)=n.tdiv 4:=IntWalk.i64_in _ (tdiv4 o1 o2)
                    have P2:=hide (fun u=>pick_any (n.tdiv 4) 4 u (tdiv4 o1 o2).1 (tdiv4 o1 o2).2 (by decide) (by decide))
                    obtain ⟨p3,p4⟩:=pk_in (n.tdiv 4) 4 (by decide)
                    have hg2:=((uh HG4).keep (uh HW)).at p3 p4
                    generalize hk2:pk (n.tdiv 4) 4=k2 at *
                    have p4':k2 < 4:=p4
                    clear hk2
                    have hgz1:=gapT_size k1
                    have hgz2:=gapT_size k2
                    have z1:∀ u:World,(Op.stringOp .add (s.extract f i) (gapT k1)).run Tryz.prog u=.ok (.string (s.extract f i++gapT k1)) u:=fun u=>run_string_add_sum u _ _ (by rw [ByteArray.size_extract];omega)
                    have z2:∀ u:World,(Op.stringOp .add (s.extract f i++gapT k1) (s.extract i (i+1))).run Tryz.prog u=.ok (.string (s.extract f i++gapT k1++s.extract i (i+1))) u:=fun u=>run_string_add_sum u _ _ (by rw [ByteArray.size_append,ByteArray.size_extract,ByteArray.size_extract];omega)
                    have z3:∀ u:World,(Op.stringOp .add (s.extract f i++gapT k1++s.extract i (i+1)) (gapT k2)).run Tryz.prog u=.ok (.string (s.extract f i++gapT k1++s.extract i (i+1)++gapT k2)) u:=fun u=>run_string_add_sum u _ _ (by rw [ByteArray.size_append,ByteArray.size_append,ByteArray.size_extract,ByteArray.size_extract];omega)
                    have hti:((i:Int)+1).toNat=i+1:=by omega
                    have HT:=lay_text (uh HS) (f:=f) (show i < s.size by omega) (gapT k1) (gapT k2)
                    have hts:(s.extract f i++gapT k1++s.extract i (i+1)++gapT k2).size≤i - f+5:=by
                     rw [ByteArray.size_append,ByteArray.size_append,ByteArray.size_append,ByteArray.size_extract,ByteArray.size_extract];omega
                    have hg:=(uh HGI).lay hsi (fun q=>by rw [hc] at q;exact absurd q.2 (by decide)) ⟨by rw [hc];rfl,by rw [hc];rfl⟩ (uh HGG)
                    have HG:=hide hg
                    have HL3:Hid ((o++(s.extract f i++gapT k1++s.extract i (i+1)++gapT k2).data.toList).length≤6*(i+1)):=by
                     have h1:=uh HOL
                     have h2:(s.extract f i++gapT k1++s.extract i (i+1)++gapT k2).data.toList.length=(s.extract f i++gapT k1++s.extract i (i+1)++gapT k2).size:=Array.length_toList
                     show _≤_
                     rw [List.length_append,h2]
                     omega
                    have HZ:Hid (o.length+(s.extract f i++gapT k1++s.extract i (i+1)++gapT k2).size≤140000000000000):=by
                     have h1:=uh HOL
                     show _≤_
                     omega
                    rw [← HT] at HG
                    have HTT:=hide HT
                    clear hgz1 hgz2 HT hg hts hc hv h92 h34 hu8 hsi
                    have HOD:Hid (OB u5.drew W4.heap.size u11 o):=uh HOB
                    have HBD:Hid (W4.heap.size≤u5.drew.heap.size):=(uh HW).size
                    go_region_law (first
                     | (go_simp;go_at_call 30;refine (uh P2 _).mono ?_;rintro e6 u6 ⟨rfl,rfl⟩)
                     | (refine step_apS (s.extract f i++gapT k1++s.extract i (i+1)++gapT k2) u5.drew W4.heap.size _ o rfl _ _ rfl rfl rfl HOD HBD HZ ?_
                        intro v6 u6 HO6 HB6 HE6))
                    all_goals go_wp2
                    all_goals exact ⟨⟨_,false,i+1,i+1,rfl,by go_num,by go_num,by omega,by omega,HL3,HO6,(uh HW).trans (Below.trans (show Below W4.heap.size u5 u5.drew from ⟨rfl,rfl,rfl,Nat.le_refl _,fun _ _=>rfl⟩) (uh HB6)),uh HG⟩,by simp [intOf];omega⟩
                  · have hil':¬ (i:Int) < (l.length:Int):=by omega
                    have hg:=(uh HGI).bare hsi (fun q=>by rw [hc] at q;exact absurd q.2 (by decide)) (GG_none hil)
                    rw [hc,if_neg (by decide)] at hg
                    have HG:=hide hg
                    clear hsi hu8 h92 h34 hc hv hg
                    go_wp2
                    refine ⟨⟨o,false,f,i+1,rfl,rfl,by go_num,by omega,hf,HOL,HOB,HW,uh HG⟩,by simp [intOf];omega⟩
              · have hc:s[i]=125:=UInt8.toNat_inj.1 hv
                have e92:((s[i].toNat:Int) == 92)=false:=by rw [hv];rfl
                have e34:((s[i].toNat:Int) == 34)=false:=by rw [hv];rfl
                have e91:((s[i].toNat:Int) == 91)=false:=by rw [hv];rfl
                have e93:((s[i].toNat:Int) == 93)=false:=by rw [hv];rfl
                have e123:((s[i].toNat:Int) == 123)=false:=by rw [hv];rfl
                have e125:((s[i].toNat:Int) == 125)=true:=by rw [hv];rfl
                have e44:((s[i].toNat:Int) == 44)=false:=by rw [hv];rfl
                have e58:((s[i].toNat:Int) == 58)=false:=by rw [hv];rfl
                cases b with
                | true =>
                  have hg:=(uh HGI).next hsi (fun q=>by rw [hc] at q;exact absurd q.2 (by decide)) (fun q=>by rw [hc] at q;exact absurd q.1 (by decide))
                  rw [hc,if_neg (by decide)] at hg
                  have HG:=hide hg
                  clear hsi hu8 h92 h34 hc hv hg
                  go_wp2
                  refine ⟨⟨o,true,f,i+1,rfl,rfl,by go_num,by omega,hf,HOL,HOB,HW,uh HG⟩,by simp [intOf];omega⟩
                | false =>
                  by_cases hil:i < l.length
                  · have hil':(i:Int) < (l.length:Int):=by omega
                    have hwl:=((uh L4).trans ((uh HW).mono (uh L4).size))
                    obtain ⟨la,lc,le,_,_,hat⟩:=(uh HI wr hwl).at (by omega)
                    simp only [Value.slice.injEq] at le
                    obtain ⟨rfl,_,rfl⟩:=le
                    obtain ⟨n,hn⟩:∃ n,l[i]?=some n:=⟨l[i],List.getElem?_eq_getElem hil⟩
                    have hna:=hat i n hn
                    obtain ⟨o1,o2⟩:=(uh HO) n (List.mem_of_getElem? hn)
                    have P1:=hide (pick_any n 4 wr o1 o2 (by decide) (by decide))
                    obtain ⟨p1,p2⟩:=pk_in n 4 (by decide)
                    have hg1:=((uh HG4).keep (uh HW)).at p1 p2
                    have HGG:=hide (GG_some hn)
                    generalize hk1:pk n 4=k1 at *
                    have p2':k1 < 4:=p2
                    clear hat hn hk1 hwl
                    go_upto_region 22 with (go_at_call 30;refine (uh P1).mono ?_;rintro e5 u5 ⟨rfl,rfl⟩)
                    have hfi:(f:Int)≤(i:Int):=by have:=(uh HGI).1;omega
                    have hi1:(i:Int)+1≤(s.size:Int):=by omega
                    have hf0:(0:Int)≤(f:Int):=by omega
                    have hi0:(0:Int)≤(i:Int):=by omega
                    have his:(i:Int)≤(s.size:Int):=by omega
                    have hi2:(i:Int)≤(i:Int)+1:=by omega
                    have hw1:IntKind.i64.wrap ((i:Int)+1)=(i:Int)+1:=IntWalk.i64_in _ ⟨by omega,by omega⟩
                    have hq1:IntKind.i64.wrap (n.tdiv 4)=n.tdiv 4:=IntWalk.i64_in _ (tdiv4 o1 o2)
                    have P2:=hide (fun u=>pick_any (n.tdiv 4) 4 u (tdiv4 o1 o2).1 (tdiv4 o1 o2).2 (by decide) (by decide))
                    obtain ⟨p3,p4⟩:=pk_in (n.tdiv 4) 4 (by decide)
                    have hg2:=((uh HG4).keep (uh HW)).at p3 p4
                    generalize hk2:pk (n.tdiv 4) 4=k2 at *
                    have p4':k2 < 4:=p4
                    clear hk2
                    have hgz1:=gapT_size k1
                    have hgz2:=gapT_size k2
                    have z1:∀ u:World,(Op.stringOp .add (s.extract f i) (gapT k1)).run Tryz.prog u=.ok (.string (s.extract f i++gapT k1)) u:=fun u=>run_string_add_sum u _ _ (by rw [ByteArray.size_extract];omega)
                    have z2:∀ u:World,(Op.stringOp .add (s.extract f i++gapT k1) (s.extract i (i+1))).run Tryz.prog u=.ok (.string (s.extract f i++gapT k1++s.extract i (i+1))) u:=fun u=>run_string_add_sum u _ _ (by rw [ByteArray.size_append,ByteArray.size_extract,ByteArray.size_extract];omega)
                    have z3:∀ u:World,(Op.stringOp .add (s.extract f i++gapT k1++s.extract i (i+1)) (gapT k2)).run Tryz.prog u=.ok (.string (s.extract f i++gapT k1++s.extract i (i+1)++gapT k2)) u:=fun u=>run_string_add_sum u _ _ (by rw [ByteArray.size_append,ByteArray.size_append,ByteArray.size_extract,ByteArray.size_extract];omega)
                    have hti:((i:Int)+1).toNat=i+1:=by omega
                    have HT:=lay_text (uh HS) (f:=f) (show i < s.size by omega) (gapT k1) (gapT k2)
                    have hts:(s.extract f i++gapT k1++s.extract i (i+1)++gapT k2).size≤i - f+5:=by
                     rw [ByteArray.size_append,ByteArray.size_append,ByteArray.size_append,ByteArray.size_extract,ByteArray.size_extract];omega
                    have hg:=(uh HGI).lay hsi (fun q=>by rw [hc] at q;exact absurd q.2 (by decide)) ⟨by rw [hc];rfl,by rw [hc];rfl⟩ (uh HGG)
                    have HG:=hide hg
                    have HL3:Hid ((o++(s.extract f i++gapT k1++s.extract i (i+1)++gapT k2).data.toList).length≤6*(i+1)):=by
                     have h1:=uh HOL
                     have h2:(s.extract f i++gapT k1++s.extract i (i+1)++gapT k2).data.toList.length=(s.extract f i++gapT k1++s.extract i (i+1)++gapT k2).size:=Array.length_toList
                     show _≤_
                     rw [List.length_append,h2]
                     omega
                    have HZ:Hid (o.length+(s.extract f i++gapT k1++s.extract i (i+1)++gapT k2).size≤140000000000000):=by
                     have h1:=uh HOL
                     show _≤_
                     omega
                    rw [← HT] at HG
                    have HTT:=hide HT
                    clear hgz1 hgz2 HT hg hts hc hv h92 h34 hu8 hsi
                    have HOD:Hid (OB u5.drew W4.heap.size u11 o):=uh HOB
                    have HBD:Hid (W4.heap.size≤u5.drew.heap.size):=(uh HW).size
                    go_region_law (first
                     | (go_simp;go_at_call 30;refine (uh P2 _).mono ?_;rintro e6 u6 ⟨rfl,rfl⟩)
                     | (refine step_apS (s.extract f i++gapT k1++s.extract i (i+1)++gapT k2) u5.drew W4.heap.size _ o rfl _ _ rfl rfl rfl HOD HBD HZ ?_
                        intro v6 u6 HO6 HB6 HE6))
                    all_goals go_wp2
                    all_goals exact ⟨⟨_,false,i+1,i+1,rfl,by go_num,by go_num,by omega,by omega,HL3,HO6,(uh HW).trans (Below.trans (show Below W4.heap.size u5 u5.drew from ⟨rfl,rfl,rfl,Nat.le_refl _,fun _ _=>rfl⟩) (uh HB6)),uh HG⟩,by simp [intOf];omega⟩
                  · have hil':¬ (i:Int) < (l.length:Int):=by omega
                    have hg:=(uh HGI).bare hsi (fun q=>by rw [hc] at q;exact absurd q.2 (by decide)) (GG_none hil)
                    rw [hc,if_neg (by decide)] at hg
                    have HG:=hide hg
                    clear hsi hu8 h92 h34 hc hv hg
                    go_wp2
                    refine ⟨⟨o,false,f,i+1,rfl,rfl,by go_num,by omega,hf,HOL,HOB,HW,uh HG⟩,by simp [intOf];omega⟩
              · have hc:s[i]=44:=UInt8.toNat_inj.1 hv
                have e92:((s[i].toNat:Int) == 92)=false:=by rw [hv];rfl
                have e34:((s[i].toNat:Int) == 34)=false:=by rw [hv];rfl
                have e91:((s[i].toNat:Int) == 91)=false:=by rw [hv];rfl
                have e93:((s[i].toNat:Int) == 93)=false:=by rw [hv];rfl
                have e123:((s[i].toNat:Int) == 123)=false:=by rw [hv];rfl
                have e125:((s[i].toNat:Int) == 125)=false:=by rw [hv];rfl
                have e44:((s[i].toNat:Int) == 44)=true:=by rw [hv];rfl
                have e58:((s[i].toNat:Int) == 58)=false:=by rw [hv];rfl
                cases b with
                | true =>
                  have hg:=(uh HGI).next hsi (fun q=>by rw [hc] at q;exact absurd q.2 (by decide)) (fun q=>by rw [hc] at q;exact absurd q.1 (by decide))
                  rw [hc,if_neg (by decide)] at hg
                  have HG:=hide hg
                  clear hsi hu8 h92 h34 hc hv hg
                  go_wp2
                  refine ⟨⟨o,true,f,i+1,rfl,rfl,by go_num,by omega,hf,HOL,HOB,HW,uh HG⟩,by simp [intOf];omega⟩
                | false =>
                  by_cases hil:i < l.length
                  · have hil':(i:Int) < (l.length:Int):=by omega
                    have hwl:=((uh L4).trans ((uh HW).mono (uh L4).size))
                    obtain ⟨la,lc,le,_,_,hat⟩:=(uh HI wr hwl).at (by omega)
                    simp only [Value.slice.injEq] at le
                    obtain ⟨rfl,_,rfl⟩:=le
                    obtain ⟨n,hn⟩:∃ n,l[i]?=some n:=⟨l[i],List.getElem?_eq_getElem hil⟩
                    have hna:=hat i n hn
                    obtain ⟨o1,o2⟩:=(uh HO) n (List.mem_of_getElem? hn)
                    have P1:=hide (pick_any n 4 wr o1 o2 (by decide) (by decide))
                    obtain ⟨p1,p2⟩:=pk_in n 4 (by decide)
                    have hg1:=((uh HG4).keep (uh HW)).at p1 p2
                    have HGG:=hide (GG_some hn)
                    generalize hk1:pk n 4=k1 at *
                    have p2':k1 < 4:=p2
                    clear hat hn hk1 hwl
                    go_upto_region 22 with (go_at_call 30;refine (uh P1).mono ?_;rintro e5 u5 ⟨rfl,rfl⟩)
                    have hfi:(f:Int)≤(i:Int):=by have:=(uh HGI).1;omega
                    have hi1:(i:Int)+1≤(s.size:Int):=by omega
                    have hf0:(0:Int)≤(f:Int):=by omega
                    have hi0:(0:Int)≤(i:Int):=by omega
                    have his:(i:Int)≤(s.size:Int):=by omega
                    have hi2:(i:Int)≤(i:Int)+1:=by omega
                    have hw1:IntKind.i64.wrap ((i:Int)+1)=(i:Int)+1:=IntWalk.i64_in _ ⟨by omega,by omega⟩
                    have hq1:IntKind.i64.wrap (n.tdiv 4)=n.tdiv 4:=IntWalk.i64_in _ (tdiv4 o1 o2)
                    have P2:=hide (fun u=>pick_any (n.tdiv 4) 4 u (tdiv4 o1 o2).1 (tdiv4 o1 o2).2 (by decide) (by decide))
                    obtain ⟨p3,p4⟩:=pk_in (n.tdiv 4) 4 (by decide)
                    have hg2:=((uh HG4).keep (uh HW)).at p3 p4
                    generalize hk2:pk (n.tdiv 4) 4=k2 at *
                    have p4':k2 < 4:=p4
                    clear hk2
                    have hgz1:=gapT_size k1
                    have hgz2:=gapT_size k2
                    have z1:∀ u:World,(Op.stringOp .add (s.extract f i) (gapT k1)).run Tryz.prog u=.ok (.string (s.extract f i++gapT k1)) u:=fun u=>run_string_add_sum u _ _ (by rw [ByteArray.size_extract];omega)
                    have z2:∀ u:World,(Op.stringOp .add (s.extract f i++gapT k1) (s.extract i (i+1))).run Tryz.prog u=.ok (.string (s.extract f i++gapT k1++s.extract i (i+1))) u:=fun u=>run_string_add_sum u _ _ (by rw [ByteArray.size_append,ByteArray.size_extract,ByteArray.size_extract];omega)
                    have z3:∀ u:World,(Op.stringOp .add (s.extract f i++gapT k1++s.extract i (i+1)) (gapT k2)).run Tryz.prog u=.ok (.string (s.extract f i++gapT k1++s.extract i (i+1)++gapT k2)) u:=fun u=>run_string_add_sum u _ _ (by rw [ByteArray.size_append,ByteArray.size_append,ByteArray.size_extract,ByteArray.size_extract];omega)
                    have hti:((i:Int)+1).toNat=i+1:=by omega
                    have HT:=lay_text (uh HS) (f:=f) (show i < s.size by omega) (gapT k1) (gapT k2)
                    have hts:(s.extract f i++gapT k1++s.extract i (i+1)++gapT k2).size≤i - f+5:=by
                     rw [ByteArray.size_append,ByteArray.size_append,ByteArray.size_append,ByteArray.size_extract,ByteArray.size_extract];omega
                    have hg:=(uh HGI).lay hsi (fun q=>by rw [hc] at q;exact absurd q.2 (by decide)) ⟨by rw [hc];rfl,by rw [hc];rfl⟩ (uh HGG)
                    have HG:=hide hg
                    have HL3:Hid ((o++(s.extract f i++gapT k1++s.extract i (i+1)++gapT k2).data.toList).length≤6*(i+1)):=by
                     have h1:=uh HOL
                     have h2:(s.extract f i++gapT k1++s.extract i (i+1)++gapT k2).data.toList.length=(s.extract f i++gapT k1++s.extract i (i+1)++gapT k2).size:=Array.length_toList
                     show _≤_
                     rw [List.length_append,h2]
                     omega
                    have HZ:Hid (o.length+(s.extract f i++gapT k1++s.extract i (i+1)++gapT k2).size≤140000000000000):=by
                     have h1:=uh HOL
                     show _≤_
                     omega
                    rw [← HT] at HG
                    have HTT:=hide HT
                    clear hgz1 hgz2 HT hg hts hc hv h92 h34 hu8 hsi
                    have HOD:Hid (OB u5.drew W4.heap.size u11 o):=uh HOB
                    have HBD:Hid (W4.heap.size≤u5.drew.heap.size):=(uh HW).size
                    go_region_law (first
                     | (go_simp;go_at_call 30;refine (uh P2 _).mono ?_;rintro e6 u6 ⟨rfl,rfl⟩)
                     | (refine step_apS (s.extract f i++gapT k1++s.extract i (i+1)++gapT k2) u5.drew W4.heap.size _ o rfl _ _ rfl rfl rfl HOD HBD HZ ?_
                        intro v6 u6 HO6 HB6 HE6))
                    all_goals go_wp2
                    all_goals exact ⟨⟨_,false,i+1,i+1,rfl,by go_num,by go_num,by omega,by omega,HL3,HO6,(uh HW).trans (Below.trans (show Below W4.heap.size u5 u5.drew from ⟨rfl,rfl,rfl,Nat.le_refl _,fun _ _=>rfl⟩) (uh HB6)),uh HG⟩,by simp [intOf];omega⟩
                  · have hil':¬ (i:Int) < (l.length:Int):=by omega
                    have hg:=(uh HGI).bare hsi (fun q=>by rw [hc] at q;exact absurd q.2 (by decide)) (GG_none hil)
                    rw [hc,if_neg (by decide)] at hg
                    have HG:=hide hg
                    clear hsi hu8 h92 h34 hc hv hg
                    go_wp2
                    refine ⟨⟨o,false,f,i+1,rfl,rfl,by go_num,by omega,hf,HOL,HOB,HW,uh HG⟩,by simp [intOf];omega⟩
              · have hc:s[i]=58:=UInt8.toNat_inj.1 hv
                have e92:((s[i].toNat:Int) == 92)=false:=by rw [hv];rfl
                have e34:((s[i].toNat:Int) == 34)=false:=by rw [hv];rfl
                have e91:((s[i].toNat:Int) == 91)=false:=by rw [hv];rfl
                have e93:((s[i].toNat:Int) == 93)=false:=by rw [hv];rfl
                have e123:((s[i].toNat:Int) == 123)=false:=by rw [hv];rfl
                have e125:((s[i].toNat:Int) == 125)=false:=by rw [hv];rfl
                have e44:((s[i].toNat:Int) == 44)=false:=by rw [hv];rfl
                have e58:((s[i].toNat:Int) == 58)=true:=by rw [hv];rfl
                cases b with
                | true =>
                  have hg:=(uh HGI).next hsi (fun q=>by rw [hc] at q;exact absurd q.2 (by decide)) (fun q=>by rw [hc] at q;exact absurd q.1 (by decide))
                  rw [hc,if_neg (by decide)] at hg
                  have HG:=hide hg
                  clear hsi hu8 h92 h34 hc hv hg
                  go_wp2
                  refine ⟨⟨o,true,f,i+1,rfl,rfl,by go_num,by omega,hf,HOL,HOB,HW,uh HG⟩,by simp [intOf];omega⟩
                | false =>
                  by_cases hil:i < l.length
                  · have hil':(i:Int) < (l.length:Int):=by omega
                    have hwl:=((uh L4).trans ((uh HW).mono (uh L4).size))
                    obtain ⟨la,lc,le,_,_,hat⟩:=(uh HI wr hwl).at (by omega)
                    simp only [Value.slice.injEq] at le
                    obtain ⟨rfl,_,rfl⟩:=le
                    obtain ⟨n,hn⟩:∃ n,l[i]?=some n:=⟨l[i],List.getElem?_eq_getElem hil⟩
                    have hna:=hat i n hn
                    obtain ⟨o1,o2⟩:=(uh HO) n (List.mem_of_getElem? hn)
                    have P1:=hide (pick_any n 4 wr o1 o2 (by decide) (by decide))
                    obtain ⟨p1,p2⟩:=pk_in n 4 (by decide)
                    have hg1:=((uh HG4).keep (uh HW)).at p1 p2
                    have HGG:=hide (GG_some hn)
                    generalize hk1:pk n 4=k1 at *
                    have p2':k1 < 4:=p2
                    clear hat hn hk1 hwl
                    go_upto_region 22 with (go_at_call 30;refine (uh P1).mono ?_;rintro e5 u5 ⟨rfl,rfl⟩)
                    have hfi:(f:Int)≤(i:Int):=by have:=(uh HGI).1;omega
                    have hi1:(i:Int)+1≤(s.size:Int):=by omega
                    have hf0:(0:Int)≤(f:Int):=by omega
                    have hi0:(0:Int)≤(i:Int):=by omega
                    have his:(i:Int)≤(s.size:Int):=by omega
                    have hi2:(i:Int)≤(i:Int)+1:=by omega
                    have hw1:IntKind.i64.wrap ((i:Int)+1)=(i:Int)+1:=IntWalk.i64_in _ ⟨by omega,by omega⟩
                    have hq1:IntKind.i64.wrap (n.tdiv 4)=n.tdiv 4:=IntWalk.i64_in _ (tdiv4 o1 o2)
                    have P2:=hide (fun u=>pick_any (n.tdiv 4) 4 u (tdiv4 o1 o2).1 (tdiv4 o1 o2).2 (by decide) (by decide))
                    obtain ⟨p3,p4⟩:=pk_in (n.tdiv 4) 4 (by decide)
                    have hg2:=((uh HG4).keep (uh HW)).at p3 p4
                    generalize hk2:pk (n.tdiv 4) 4=k2 at *
                    have p4':k2 < 4:=p4
                    clear hk2
                    have hgz1:=gapT_size k1
                    have hgz2:=gapT_size k2
                    have z1:∀ u:World,(Op.stringOp .add (s.extract f i) (gapT k1)).run Tryz.prog u=.ok (.string (s.extract f i++gapT k1)) u:=fun u=>run_string_add_sum u _ _ (by rw [ByteArray.size_extract];omega)
                    have z2:∀ u:World,(Op.stringOp .add (s.extract f i++gapT k1) (s.extract i (i+1))).run Tryz.prog u=.ok (.string (s.extract f i++gapT k1++s.extract i (i+1))) u:=fun u=>run_string_add_sum u _ _ (by rw [ByteArray.size_append,ByteArray.size_extract,ByteArray.size_extract];omega)
                    have z3:∀ u:World,(Op.stringOp .add (s.extract f i++gapT k1++s.extract i (i+1)) (gapT k2)).run Tryz.prog u=.ok (.string (s.extract f i++gapT k1++s.extract i (i+1)++gapT k2)) u:=fun u=>run_string_add_sum u _ _ (by rw [ByteArray.size_append,ByteArray.size_append,ByteArray.size_extract,ByteArray.size_extract];omega)
                    have hti:((i:Int)+1).toNat=i+1:=by omega
                    have HT:=lay_text (uh HS) (f:=f) (show i < s.size by omega) (gapT k1) (gapT k2)
                    have hts:(s.extract f i++gapT k1++s.extract i (i+1)++gapT k2).size≤i - f+5:=by
                     rw [ByteArray.size_append,ByteArray.size_append,ByteArray.size_append,ByteArray.size_extract,ByteArray.size_extract];omega
                    have hg:=(uh HGI).lay hsi (fun q=>by rw [hc] at q;exact absurd q.2 (by decide)) ⟨by rw [hc];rfl,by rw [hc];rfl⟩ (uh HGG)
                    have HG:=hide hg
                    have HL3:Hid ((o++(s.extract f i++gapT k1++s.extract i (i+1)++gapT k2).data.toList).length≤6*(i+1)):=by
                     have h1:=uh HOL
                     have h2:(s.extract f i++gapT k1++s.extract i (i+1)++gapT k2).data.toList.length=(s.extract f i++gapT k1++s.extract i (i+1)++gapT k2).size:=Array.length_toList
                     show _≤_
                     rw [List.length_append,h2]
                     omega
                    have HZ:Hid (o.length+(s.extract f i++gapT k1++s.extract i (i+1)++gapT k2).size≤140000000000000):=by
                     have h1:=uh HOL
                     show _≤_
                     omega
                    rw [← HT] at HG
                    have HTT:=hide HT
                    clear hgz1 hgz2 HT hg hts hc hv h92 h34 hu8 hsi
                    have HOD:Hid (OB u5.drew W4.heap.size u11 o):=uh HOB
                    have HBD:Hid (W4.heap.size≤u5.drew.heap.size):=(uh HW).size
                    go_region_law (first
                     | (go_simp;go_at_call 30;refine (uh P2 _).mono ?_;rintro e6 u6 ⟨rfl,rfl⟩)
                     | (refine step_apS (s.extract f i++gapT k1++s.extract i (i+1)++gapT k2) u5.drew W4.heap.size _ o rfl _ _ rfl rfl rfl HOD HBD HZ ?_
                        intro v6 u6 HO6 HB6 HE6))
                    all_goals go_wp2
                    all_goals exact ⟨⟨_,false,i+1,i+1,rfl,by go_num,by go_num,by omega,by omega,HL3,HO6,(uh HW).trans (Below.trans (show Below W4.heap.size u5 u5.drew from ⟨rfl,rfl,rfl,Nat.le_refl _,fun _ _=>rfl⟩) (uh HB6)),uh HG⟩,by simp [intOf];omega⟩
                  · have hil':¬ (i:Int) < (l.length:Int):=by omega
                    have hg:=(uh HGI).bare hsi (fun q=>by rw [hc] at q;exact absurd q.2 (by decide)) (GG_none hil)
                    rw [hc,if_neg (by decide)] at hg
                    have HG:=hide hg
                    clear hsi hu8 h92 h34 hc hv hg
                    go_wp2
                    refine ⟨⟨o,false,f,i+1,rfl,rfl,by go_num,by omega,hf,HOL,HOB,HW,uh HG⟩,by simp [intOf];omega⟩
            · have hne:=st_not hst
              have hc34:s[i]≠34:=fun q=>h34 (by rw [q];rfl)
              have hc92:s[i]≠92:=fun q=>h92 (by rw [q];rfl)
              have hg:=(uh HGI).next hsi (fun q=>hc92 q.2) (fun q=>hst q.2)
              rw [if_neg hc34] at hg
              have HG:=hide hg
              obtain ⟨m1,m2,m3,m4,m5,m6⟩:=hne
              have e92:((s[i].toNat:Int) == 92)=false:=by rw [beq_eq_false_iff_ne];omega
              have e34:((s[i].toNat:Int) == 34)=false:=by rw [beq_eq_false_iff_ne];omega
              have e91:((s[i].toNat:Int) == 91)=false:=by rw [beq_eq_false_iff_ne];omega
              have e93:((s[i].toNat:Int) == 93)=false:=by rw [beq_eq_false_iff_ne];omega
              have e123:((s[i].toNat:Int) == 123)=false:=by rw [beq_eq_false_iff_ne];omega
              have e125:((s[i].toNat:Int) == 125)=false:=by rw [beq_eq_false_iff_ne];omega
              have e44:((s[i].toNat:Int) == 44)=false:=by rw [beq_eq_false_iff_ne];omega
              have e58:((s[i].toNat:Int) == 58)=false:=by rw [beq_eq_false_iff_ne];omega
              clear hsi hu8 h92 h34 hst hg hc34 hc92 m1 m2 m3 m4 m5 m6
              cases b with
              | true =>
                go_wp2
                refine ⟨⟨o,true,f,i+1,rfl,rfl,by go_num,by omega,hf,HOL,HOB,HW,uh HG⟩,by simp [intOf];omega⟩
              | false =>
                go_wp2
                refine ⟨⟨o,false,f,i+1,rfl,rfl,by go_num,by omega,hf,HOL,HOB,HW,uh HG⟩,by simp [intOf];omega⟩
      · have hlt':¬ (i:Int) < (s.size:Int):=by omega
        have hdn:=(uh HGI).done (by have:=uh HSL;omega)
        have hsw:s.size≤524288:=by have:=uh HB;omega
        have hf0:(0:Int)≤(f:Int):=by omega
        have hf1:(f:Int)≤(s.size:Int):=by omega
        have hex:=ext_list (uh HS) f s.size
        rw [List.take_of_length_le (by rw [List.length_drop];have:=uh HSL;omega)] at hex
        have hes:(s.extract f s.size).size≤524288:=by rw [ByteArray.size_extract];omega
        have HOD:Hid (OB wr W4.heap.size u11 o):=HOB
        have HBD:Hid (W4.heap.size≤wr.heap.size):=(uh HW).size
        have HZ:Hid (o.length+(s.extract f s.size).size≤140000000000000):=by
         have h1:=uh HOL
         show _≤_
         omega
        obtain ⟨R,hR⟩:∃ R,R=scan (GG l) 0 false S:=⟨_,rfl⟩
        rw [← hR] at hdn
        obtain ⟨wd,hwd,hws⟩:∃ wd:ByteArray,wd=⟨R.toArray⟩∧wd.size=R.length:=⟨_,rfl,rfl⟩
        have hcat:(⟨(o++(s.extract f s.size).data.toList).toArray⟩:ByteArray)=wd:=by rw [hex,hdn,hwd]
        have HWS:=hide hws
        have HWD:=hide hwd
        have HR:=hide hR
        have Ywr:=hide ((uh Y4).trans ((uh HW).mono (uh Y4).size))
        have Lwr:=hide ((uh L4).trans ((uh HW).mono (uh L4).size))
        have HLR:Hid (R.length≤6*524288+524288):=by
         have h1:=uh HOL
         show R.length≤_
         rw [← hdn,List.length_append,← hex]
         have h2:(s.extract f s.size).data.toList.length=(s.extract f s.size).size:=Array.length_toList
         rw [h2]
         omega
        clear hes hex hdn hws hwd hR HGI
        go_upto_region 25 with (at_builtin;refine wpl_apS (s.extract f s.size) wr W4.heap.size u11 o rfl _ _ rfl rfl rfl HOD HBD HZ ?_;intro v6 w6 HO6 HB6 HE6
                                have hcv:=(uh HO6).str
                                rw [hcat] at hcv)
        have Yw6:=hide ((uh Ywr).trans ((uh HB6).mono (uh Y4).size))
        have Lw6:=hide ((uh Lwr).trans ((uh HB6).mono (uh L4).size))
        clear hcv hcat HO6 HB6 HE6 HOD HBD HZ hf0 hf1 Ywr Lwr HOB HW HOL
        by_cases hlong:1048576 < wd.size
        · have hlong':(1048576:Int) < (wd.size:Int):=by omega
          clear hlong
          go_wp2
          go_ret
          exact ⟨rfl,uh Lw6⟩
        · have hlong':¬ (1048576:Int) < (wd.size:Int):=by omega
          have hGR:=gaps_read (uh HP) l (by rw [uh HS2,← uh HSL];omega) (by rw [uh HS2,← uh HR,← uh HWS];omega)
          rw [uh HS2,← uh HR,← uh HS,← uh HWD] at hGR
          obtain ⟨k0,k1⟩:=pk_in cut s.size (uh HS0)
          obtain ⟨hc0,hc1⟩:=uh HC
          have PK:=hide (fun u=>pick_any cut s.size u hc0 hc1 (by have:=uh HS0;omega) (by omega))
          obtain ⟨kn,hkn⟩:∃ kn:Nat,pk cut s.size=(kn:Int):=⟨(pk cut s.size).toNat,by omega⟩
          rw [hkn] at k0 k1 PK
          have k1':(kn:Int)≤(s.size:Int):=by omega
          have hCS:¬ isNum (nrm v)→∃ r,parseJ (s.extract 0 kn)=.inr r:=fun hn=>by
           have q:=gaps_cut (uh HP) hn (by rw [uh HS2,← uh HSL];omega) (k:=kn) (by rw [uh HS2,← uh HSL];omega)
           rw [uh HS2] at q
           have e:s.extract 0 kn=⟨(S.take kn).toArray⟩:=by
            have h1:=ext_list (uh HS) 0 kn
            rw [List.drop_zero,Nat.sub_zero] at h1
            rw [← h1]
           rw [e];exact q
          have HSH:Hid (∀ v3,parseJ (s.extract 0 kn)=.inl v3→a0=2):=fun v3 h3=>by
           by_cases hn:isNum (nrm v)
           · rw [uh HKD];exact num_kind v hn
           · obtain ⟨r,hr⟩:=hCS hn
             rw [hr] at h3
             cases h3
          have CPs:=hide (fun u (hu:Below w.heap.size w u)=>jparse_any E s u (uh HAE u hu).env (uh HAE u hu).ng (by omega))
          have CPd:=hide (fun u (hu:Below w.heap.size w u)=>jparse_any E wd u (uh HAE u hu).env (uh HAE u hu).ng (by omega))
          have CPk:=hide (fun u (hu:Below w.heap.size w u)=>jparse_any E (s.extract 0 kn) u (uh HAE u hu).env (uh HAE u hu).ng (by rw [ByteArray.size_extract];omega))
          clear hCS hkn hc0 hc1 k1 hlong HAE HKD HP G BV
          rcases hGR with ⟨g1,g2⟩|⟨g1,g2⟩
          ·
           have CPw:=hide (uh CPs w6 (uh Lw6))
           rw [g1] at CPw
           go_upto_region 28 with (go_at_call 29;refine (uh CPw).mono ?_;rintro e u1 hp
                                   obtain ⟨cs1,pp1,rfl,vv1,nn1,bw1⟩:=parse_ok hp
                                   obtain ⟨n0,n1,n2,n3,n4,n5,n6,n7,n8,n9,na,nb,rfl⟩:=vv1.vr.form
                                   clear hp CPw)
           have vr1:=vv1.vr
           clear vv1 nn1
           obtain ⟨x1,l1,_,z1⟩:=boxE u1 [.int .i64 n0,.bool n1,.bool n2,.string n3,.int .i64 n4,.string n5,.slice n6 n7 n8,.slice n9 na nb] _ u1 (Below.refl _ u1) (Nat.le_refl _) _ rfl
           generalize u1.alloc (.cells [.int .i64 n0,.bool n1,.bool n2,.string n3,.int .i64 n4,.string n5,.slice n6 n7 n8,.slice n9 na nb].toArray 27)=W2 at *
           have bb:=bw1.trans (l1.mono bw1.size)
           have X1W2:=hide x1
           have Z1W2:=hide z1
           have R1W2:=hide (vr1.keep l1)
           generalize u1.heap.size=m1 at *
           clear vr1 bw1 l1 x1 z1
           have YW2:=hide ((uh Yw6).trans (bb.mono (uh Yw6).size))
           have LW2:=hide ((uh Lw6).trans (bb.mono (uh Lw6).size))
           clear Yw6 Lw6 bb
           have CPw:=hide (uh CPd W2 (uh LW2))
           rw [g2] at CPw
           clear g1 g2
           go_upto_region 29 with (go_at_call 29;refine (uh CPw).mono ?_;rintro e u2 hp
                                   obtain ⟨cs2,pp2,rfl,vv2,nn2,bw2⟩:=parse_ok hp
                                   obtain ⟨q0,q1,q2,q3,q4,q5,q6,q7,q8,q9,qa,qb,rfl⟩:=vv2.vr.form
                                   clear hp CPw)
           have vr2:=vv2.vr
           clear vv2 nn2
           obtain ⟨x2,l2,_,z2⟩:=boxE u2 [.int .i64 q0,.bool q1,.bool q2,.string q3,.int .i64 q4,.string q5,.slice q6 q7 q8,.slice q9 qa qb] _ u2 (Below.refl _ u2) (Nat.le_refl _) _ rfl
           generalize u2.alloc (.cells [.int .i64 q0,.bool q1,.bool q2,.string q3,.int .i64 q4,.string q5,.slice q6 q7 q8,.slice q9 qa qb].toArray 27)=W3 at *
           have bb:=bw2.trans (l2.mono bw2.size)
           have X2W3:=hide x2
           have Z2W3:=hide z2
           have R2W3:=hide (vr2.keep l2)
           generalize u2.heap.size=m2 at *
           clear vr2 bw2 l2 x2 z2
           have YW3:=hide ((uh YW2).trans (bb.mono (uh YW2).size))
           have LW3:=hide ((uh LW2).trans (bb.mono (uh LW2).size))
           have X1W3:=hide ((uh X1W2).keep bb (uh Z1W2))
           have Z1W3:Hid (m1 < W3.heap.size):=Nat.lt_of_lt_of_le (uh Z1W2) bb.size
           have R1W3:=hide ((uh R1W2).keep bb)
           clear YW2 LW2 X1W2 Z1W2 R1W2 bb
           go_region
           obtain ⟨e0,e1,e2,e3,e4,e5,e6,e7⟩:=(uh X1W3).cells
           obtain ⟨f0,f1,f2,f3,f4,f5,f6,f7⟩:=(uh X2W3).cells
           have hw0:Below W3.heap.size W3 W3.drew:=⟨rfl,rfl,rfl,Nat.le_refl _,fun _ _=>rfl⟩
           have LK:=hide (like_sameG _ _ W3.drew ((uh R1W3).keep hw0) ((uh R2W3).keep hw0))
           go_upto_region 32 with (go_at_call 22;refine (uh LK).mono ?_;rintro e u4 ⟨rfl,b4⟩
                                   clear LK)
           have b4':Below W3.heap.size W3 u4:=hw0.trans (b4.mono (Nat.le_refl _))
           clear b4 hw0
           clear e0 e1 e2 e3 e4 e5 e6 e7 f0 f1 f2 f3 f4 f5 f6 f7
           have Yu4:=hide ((uh YW3).trans (b4'.mono (uh YW3).size))
           have Lu4:=hide ((uh LW3).trans (b4'.mono (uh LW3).size))
           clear YW3 LW3 b4'
           clear X1W3 Z1W3 R1W3 X2W3 Z2W3 R2W3
           go_upto_region 33 with (go_at_call 30;refine (uh PK u4).mono ?_;rintro e u5 ⟨rfl,rfl⟩)
           have CKw:=hide (uh CPk u5 (uh Lu4))
           have Lu5:=Lu4
           have Yu5:=Yu4
           clear Lu4 Yu4
           generalize hpk:parseJ (s.extract 0 kn)=rk at *
           rcases rk with v3|⟨g3,k3⟩
           · have HA2:=hide (uh HSH v3 rfl)
             clear hpk HSH PK
             go_upto_region 34 with (go_at_call 29;refine (uh CKw).mono ?_;rintro e u6 hp
                                     obtain ⟨cs3,pp3,rfl,vv3,nn3,bw3⟩:=parse_ok hp
                                     obtain ⟨t0,t1,t2,t3,t4,t5,t6,t7,t8,t9,ta,tb,rfl⟩:=vv3.vr.form
                                     clear hp CKw)
             have vr3:=vv3.vr
             clear vv3 nn3
             obtain ⟨x3,l3,_,z3⟩:=boxE u6 [.int .i64 t0,.bool t1,.bool t2,.string t3,.int .i64 t4,.string t5,.slice t6 t7 t8,.slice t9 ta tb] _ u6 (Below.refl _ u6) (Nat.le_refl _) _ rfl
             generalize u6.alloc (.cells [.int .i64 t0,.bool t1,.bool t2,.string t3,.int .i64 t4,.string t5,.slice t6 t7 t8,.slice t9 ta tb].toArray 27)=W7 at *
             have bb:=bw3.trans (l3.mono bw3.size)
             have X3W7:=hide x3
             have Z3W7:=hide z3
             have R3W7:=hide (vr3.keep l3)
             generalize u6.heap.size=m3 at *
             clear vr3 bw3 l3 x3 z3
             have YW7:=hide ((uh Yu5).trans (bb.mono (uh Yu5).size))
             have LW7:=hide ((uh Lu5).trans (bb.mono (uh Lu5).size))
             clear Yu5 Lu5 bb
             obtain ⟨y0,y1,y2,y3,y4,y5,y6,y7⟩:=((uh HX).keep (uh YW7) (blk_lt (uh HX))).cells
             rw [uh HA2] at y0
             go_wp2
             go_ret
             exact ⟨rfl,uh LW7⟩
           · clear hpk HSH PK
             go_upto_region 34 with (go_at_call 29;refine (uh CKw).mono ?_;rintro e u6 hp
                                     obtain ⟨fb3,rfl,ff3,bw3⟩:=parse_bad hp
                                     simp only [vNull,vc,zed,nilS]
                                     clear hp ff3 CKw)
             have vr3:=null_vrG u6
             obtain ⟨x3,l3,_,z3⟩:=boxE u6 [.int .i64 0,.bool false,.bool false,.string ByteArray.empty,.int .i64 0,.string ⟨#[]⟩,.slice none 0 0,.slice none 0 0] _ u6 (Below.refl _ u6) (Nat.le_refl _) _ rfl
             generalize u6.alloc (.cells [.int .i64 0,.bool false,.bool false,.string ByteArray.empty,.int .i64 0,.string ⟨#[]⟩,.slice none 0 0,.slice none 0 0].toArray 27)=W7 at *
             have bb:=bw3.trans (l3.mono bw3.size)
             have X3W7:=hide x3
             have Z3W7:=hide z3
             have R3W7:=hide (vr3.keep l3)
             generalize u6.heap.size=m3 at *
             clear vr3 bw3 l3 x3 z3
             have YW7:=hide ((uh Yu5).trans (bb.mono (uh Yu5).size))
             have LW7:=hide ((uh Lu5).trans (bb.mono (uh Lu5).size))
             clear Yu5 Lu5 bb
             obtain ⟨y0,y1,y2,y3,y4,y5,y6,y7⟩:=((uh HX).keep (uh YW7) (blk_lt (uh HX))).cells
             go_wp2
             go_ret
             exact ⟨rfl,uh LW7⟩
          ·
           have CPw:=hide (uh CPs w6 (uh Lw6))
           obtain ⟨⟨gx,kx⟩,g1⟩:=g1
           obtain ⟨⟨gy,ky⟩,g2⟩:=g2
           rw [g1] at CPw
           go_upto_region 28 with (go_at_call 29;refine (uh CPw).mono ?_;rintro e u1 hp
                                   obtain ⟨fb1,rfl,ff1,bw1⟩:=parse_bad hp
                                   simp only [vNull,vc,zed,nilS]
                                   clear hp ff1 CPw)
           have vr1:=null_vrG u1
           obtain ⟨x1,l1,_,z1⟩:=boxE u1 [.int .i64 0,.bool false,.bool false,.string ByteArray.empty,.int .i64 0,.string ⟨#[]⟩,.slice none 0 0,.slice none 0 0] _ u1 (Below.refl _ u1) (Nat.le_refl _) _ rfl
           generalize u1.alloc (.cells [.int .i64 0,.bool false,.bool false,.string ByteArray.empty,.int .i64 0,.string ⟨#[]⟩,.slice none 0 0,.slice none 0 0].toArray 27)=W2 at *
           have bb:=bw1.trans (l1.mono bw1.size)
           have X1W2:=hide x1
           have Z1W2:=hide z1
           have R1W2:=hide (vr1.keep l1)
           generalize u1.heap.size=m1 at *
           clear vr1 bw1 l1 x1 z1
           have YW2:=hide ((uh Yw6).trans (bb.mono (uh Yw6).size))
           have LW2:=hide ((uh Lw6).trans (bb.mono (uh Lw6).size))
           clear Yw6 Lw6 bb
           have CPw:=hide (uh CPd W2 (uh LW2))
           rw [g2] at CPw
           clear g1 g2
           go_upto_region 29 with (go_at_call 29;refine (uh CPw).mono ?_;rintro e u2 hp
                                   obtain ⟨fb2,rfl,ff2,bw2⟩:=parse_bad hp
                                   simp only [vNull,vc,zed,nilS]
                                   clear hp ff2 CPw)
           have vr2:=null_vrG u2
           obtain ⟨x2,l2,_,z2⟩:=boxE u2 [.int .i64 0,.bool false,.bool false,.string ByteArray.empty,.int .i64 0,.string ⟨#[]⟩,.slice none 0 0,.slice none 0 0] _ u2 (Below.refl _ u2) (Nat.le_refl _) _ rfl
           generalize u2.alloc (.cells [.int .i64 0,.bool false,.bool false,.string ByteArray.empty,.int .i64 0,.string ⟨#[]⟩,.slice none 0 0,.slice none 0 0].toArray 27)=W3 at *
           have bb:=bw2.trans (l2.mono bw2.size)
           have X2W3:=hide x2
           have Z2W3:=hide z2
           have R2W3:=hide (vr2.keep l2)
           generalize u2.heap.size=m2 at *
           clear vr2 bw2 l2 x2 z2
           have YW3:=hide ((uh YW2).trans (bb.mono (uh YW2).size))
           have LW3:=hide ((uh LW2).trans (bb.mono (uh LW2).size))
           have X1W3:=hide ((uh X1W2).keep bb (uh Z1W2))
           have Z1W3:Hid (m1 < W3.heap.size):=Nat.lt_of_lt_of_le (uh Z1W2) bb.size
           have R1W3:=hide ((uh R1W2).keep bb)
           clear YW2 LW2 X1W2 Z1W2 R1W2 bb
           go_region
           obtain ⟨e0,e1,e2,e3,e4,e5,e6,e7⟩:=(uh X1W3).cells
           obtain ⟨f0,f1,f2,f3,f4,f5,f6,f7⟩:=(uh X2W3).cells
           have hw0:Below W3.heap.size W3 W3.drew:=⟨rfl,rfl,rfl,Nat.le_refl _,fun _ _=>rfl⟩
           have LK:=hide (like_sameG _ _ W3.drew ((uh R1W3).keep hw0) ((uh R2W3).keep hw0))
           go_upto_region 32 with (go_at_call 22;refine (uh LK).mono ?_;rintro e u4 ⟨rfl,b4⟩
                                   clear LK)
           have b4':Below W3.heap.size W3 u4:=hw0.trans (b4.mono (Nat.le_refl _))
           clear b4 hw0
           clear e0 e1 e2 e3 e4 e5 e6 e7 f0 f1 f2 f3 f4 f5 f6 f7
           have Yu4:=hide ((uh YW3).trans (b4'.mono (uh YW3).size))
           have Lu4:=hide ((uh LW3).trans (b4'.mono (uh LW3).size))
           clear YW3 LW3 b4'
           clear X1W3 Z1W3 R1W3 X2W3 Z2W3 R2W3
           go_upto_region 33 with (go_at_call 30;refine (uh PK u4).mono ?_;rintro e u5 ⟨rfl,rfl⟩)
           have CKw:=hide (uh CPk u5 (uh Lu4))
           have Lu5:=Lu4
           have Yu5:=Yu4
           clear Lu4 Yu4
           generalize hpk:parseJ (s.extract 0 kn)=rk at *
           rcases rk with v3|⟨g3,k3⟩
           · have HA2:=hide (uh HSH v3 rfl)
             clear hpk HSH PK
             go_upto_region 34 with (go_at_call 29;refine (uh CKw).mono ?_;rintro e u6 hp
                                     obtain ⟨cs3,pp3,rfl,vv3,nn3,bw3⟩:=parse_ok hp
                                     obtain ⟨t0,t1,t2,t3,t4,t5,t6,t7,t8,t9,ta,tb,rfl⟩:=vv3.vr.form
                                     clear hp CKw)
             have vr3:=vv3.vr
             clear vv3 nn3
             obtain ⟨x3,l3,_,z3⟩:=boxE u6 [.int .i64 t0,.bool t1,.bool t2,.string t3,.int .i64 t4,.string t5,.slice t6 t7 t8,.slice t9 ta tb] _ u6 (Below.refl _ u6) (Nat.le_refl _) _ rfl
             generalize u6.alloc (.cells [.int .i64 t0,.bool t1,.bool t2,.string t3,.int .i64 t4,.string t5,.slice t6 t7 t8,.slice t9 ta tb].toArray 27)=W7 at *
             have bb:=bw3.trans (l3.mono bw3.size)
             have X3W7:=hide x3
             have Z3W7:=hide z3
             have R3W7:=hide (vr3.keep l3)
             generalize u6.heap.size=m3 at *
             clear vr3 bw3 l3 x3 z3
             have YW7:=hide ((uh Yu5).trans (bb.mono (uh Yu5).size))
             have LW7:=hide ((uh Lu5).trans (bb.mono (uh Lu5).size))
             clear Yu5 Lu5 bb
             obtain ⟨y0,y1,y2,y3,y4,y5,y6,y7⟩:=((uh HX).keep (uh YW7) (blk_lt (uh HX))).cells
             rw [uh HA2] at y0
             go_wp2
             go_ret
             exact ⟨rfl,uh LW7⟩
           · clear hpk HSH PK
             go_upto_region 34 with (go_at_call 29;refine (uh CKw).mono ?_;rintro e u6 hp
                                     obtain ⟨fb3,rfl,ff3,bw3⟩:=parse_bad hp
                                     simp only [vNull,vc,zed,nilS]
                                     clear hp ff3 CKw)
             have vr3:=null_vrG u6
             obtain ⟨x3,l3,_,z3⟩:=boxE u6 [.int .i64 0,.bool false,.bool false,.string ByteArray.empty,.int .i64 0,.string ⟨#[]⟩,.slice none 0 0,.slice none 0 0] _ u6 (Below.refl _ u6) (Nat.le_refl _) _ rfl
             generalize u6.alloc (.cells [.int .i64 0,.bool false,.bool false,.string ByteArray.empty,.int .i64 0,.string ⟨#[]⟩,.slice none 0 0,.slice none 0 0].toArray 27)=W7 at *
             have bb:=bw3.trans (l3.mono bw3.size)
             have X3W7:=hide x3
             have Z3W7:=hide z3
             have R3W7:=hide (vr3.keep l3)
             generalize u6.heap.size=m3 at *
             clear vr3 bw3 l3 x3 z3
             have YW7:=hide ((uh Yu5).trans (bb.mono (uh Yu5).size))
             have LW7:=hide ((uh Lu5).trans (bb.mono (uh Lu5).size))
             clear Yu5 Lu5 bb
             obtain ⟨y0,y1,y2,y3,y4,y5,y6,y7⟩:=((uh HX).keep (uh YW7) (blk_lt (uh HX))).cells
             go_wp2
             go_ret
             exact ⟨rfl,uh LW7⟩
end Go.Proofs.YthakglomacijgaaGreatDoor.rd
