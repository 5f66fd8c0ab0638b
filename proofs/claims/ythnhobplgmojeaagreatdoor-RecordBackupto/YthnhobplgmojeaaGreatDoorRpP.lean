/- Texts in one: Rp Rn Ex -/
import Derived.Test.YthnhobplgmojeaaGreatDoorRdP
import Derived.Test.YthnhobplgmojeaaGreatDoorNuP
import Derived.WalkMore
import Derived.Deep.RegionWith
namespace Go.Proofs.YthnhobplgmojeaaGreatDoor.rd
open Go.RowKit
def Stands (w:World) (b:Nat) (s:ByteArray) (k:Nat):Prop:=w.heap[b]?=some (.cells #[.string s,.int .i64 k] 228 (0,0))
theorem Stands.c0 {w:World}{b:Nat}{s:ByteArray}{k:Nat} (h:Stands w b s k):w.cell? ⟨b,0,none⟩=some (.string s):=blk_cell h 0
theorem Stands.c1 {w:World}{b:Nat}{s:ByteArray}{k:Nat} (h:Stands w b s k):w.cell? ⟨b,1,none⟩=some (.int .i64 k):=blk_cell h 1
theorem Stands.f1 {w:World}{b:Nat}{s:ByteArray}{k:Nat} (h:Stands w b s k):w.frozen? ⟨b,1,none⟩=false:=blk_free h 1
theorem takes_ok (s set:ByteArray) (b k:Nat) (w:World) (h:Stands w b s k) (hk:k < s.size) (hs:s.size≤4611686018427387904) (hi:0≤Lib.indexByte set.data.toList s[k]) :
 Calls Tryz.prog 200 #[.pointer (some ⟨b,0,none⟩),.string set] w fun e w'=>e=.returned (.bool true)∧Stands w' b s (k+1)∧Upd b w w':=by
 refine (takes_yes s set b k w h.c0 h.c1 hk hs h.f1 hi).mono fun e w' ⟨he,n,hn⟩=>⟨he,?_,?_⟩
 · subst hn;exact blk_set h 1 _
 · subst hn;exact (Upd.setCell b 1 w _).trans (Upd.drewN _ _ _)
theorem takes_not (s set:ByteArray) (b k:Nat) (w:World) (h:Stands w b s k) (hk:k≤s.size) (hi:(hk':k < s.size)→Lib.indexByte set.data.toList s[k] < 0) :
 Calls Tryz.prog 200 #[.pointer (some ⟨b,0,none⟩),.string set] w fun e w'=>e=.returned (.bool false)∧Stands w' b s k∧Upd b w w':=by
 have key:Calls Tryz.prog 200 #[.pointer (some ⟨b,0,none⟩),.string set] w fun e w'=>e=.returned (.bool false)∧∃ n,w'=w.drewN n:=by
  by_cases hlt:k < s.size
  · exact takes_no s set b k w h.c0 h.c1 hlt (hi hlt)
  · exact takes_end s set b k w h.c0 h.c1 (by omega)
 refine key.mono fun e w' ⟨he,n,hn⟩=>⟨he,?_,?_⟩
 · subst hn;exact h
 · subst hn;exact Upd.drewN _ _ _
def AtP (w0:World) (b:Nat) (s:ByteArray) (res:Option (Bool × ByteArray)) (n l:Nat) (a:Act) (w:World):Prop :=
 ∃ (k i:Nat) (ng:Bool) (u1 u3 u4 u6 u7 u8 u9 u10 u11 u12 u13 u14 u15 u16 u17 u18 u19 u20 u21 u22 u23 u24 u25 u26 u27 u28 u29 u30 u31 u32 u33 u34:Value),a={ tmps:=#[.pointer (some ⟨b,0,none⟩),u1,.bool ng,u3,u4,.int .i64 i,u6,u7,u8,u9,u10,u11,u12,u13,u14,u15,u16,u17,u18,u19,u20,u21,u22,u23,u24,u25,u26,u27,u28,u29,u30,u31,u32,u33,u34],defers:=[] }∧Stands w b s k∧Upd b w0 w∧k≤s.size ∧
   ((l=0∧ng=false∧res=nu.pwFirst s true k∧n=4*(s.size - k)+3)∨(l=1∧ng=false∧res=nu.pwFirst s false k∧n=4*(s.size - k)+2) ∨
    (l=2∧ng=false∧k=i∧res=nu.pwFirst s false k∧n=4*(s.size - k)+1)∨(l=3∧i≤k∧res=nu.pwRest s ng i k∧n=4*(s.size - k)))
set_option maxRecDepth 100000 in
theorem power_first (w0:World) (b i0:Nat) (s:ByteArray) (h:Stands w0 b s i0) (hi:i0≤s.size) (hs:s.size≤4611686018427387904) :
 Calls Tryz.prog 201 #[.pointer (some ⟨b,0,none⟩)] w0 fun e w'=>∃ ng dg ok,e=.returned (.tuple #[.bool ng,.string dg,.bool ok])∧Upd b w0 w' ∧
  (ok=true→nu.power s i0=some (ng,dg))∧(ok=false→nu.power s i0=none):=by
 have c1:=h.c1
 go_enter Tryz.func201,Tryz.ntmps201
 go_wp2;refine wp_scope_labels (AtP w0 b s (nu.power s i0)) ?_ ?_
 · by_cases hA:nu.at_ s i0=some 45
   · have hlt:i0 < s.size:=by
      rcases Nat.lt_or_ge i0 s.size with h'|h'
      · exact h'
      · rw [nu.at_none s i0 (by omega)] at hA;cases hA
     have hc:s[i0]=45:=by rw [nu.at_some s i0 hlt] at hA;simpa using hA
     have HR:Hid (nu.power s i0=nu.pwFirst s true (i0+1)):=by
      show nu.power s i0=_;unfold nu.power;rw [hA];simp
     clear hA;have hi:0≤Lib.indexByte [45] s[i0]:=(nu.idx_one 45 s[i0]).2 hc;clear hc
     go_wp2_with fail
     refine (takes_ok s ⟨#[45]⟩ b i0 _ h hlt hs hi).mono ?_;rintro e w1 ⟨rfl,hst,hup⟩
     go_wp2_with fail
     go_step3
     show ∃ n,AtP w0 b s (nu.power s i0) n 0 _ w1;exact ⟨_,i0+1,i0,false,_,_,_,_,_,_,_,_,_,_,_,_,_,_,_,_,_,_,_,_,_,_,_,_,_,_,_,_,_,_,_,_,rfl,hst,hup,by omega,.inl ⟨rfl,rfl,HR.out,rfl⟩⟩
   · have hm:(hk':i0 < s.size)→Lib.indexByte [45] s[i0] < 0:=fun hk'=>by
      have:=mt (nu.idx_one 45 s[i0]).1 (fun e=>hA (by rw [nu.at_some s i0 hk',e]));omega
     by_cases hB:nu.at_ s i0=some 43
     · have hlt:i0 < s.size:=by
        rcases Nat.lt_or_ge i0 s.size with h'|h'
        · exact h'
        · rw [nu.at_none s i0 (by omega)] at hB;cases hB
       have hc:s[i0]=43:=by rw [nu.at_some s i0 hlt] at hB;simpa using hB
       have HR:Hid (nu.power s i0=nu.pwFirst s false (i0+1)):=by
        show nu.power s i0=_;unfold nu.power;rw [hB];simp
       clear hA hB;have hp:0≤Lib.indexByte [43] s[i0]:=(nu.idx_one 43 s[i0]).2 hc;clear hc;have HM:=hide hm;clear hm
       go_wp2_with fail
       refine (takes_not s ⟨#[45]⟩ b i0 _ h hi (uh HM)).mono ?_;rintro e w1 ⟨rfl,hst,hup⟩
       go_wp2_with fail
       refine (takes_ok s ⟨#[43]⟩ b i0 _ hst hlt hs hp).mono ?_;rintro e w2 ⟨rfl,hst2,hup2⟩
       go_wp2_with fail
       go_step3
       show ∃ n,AtP w0 b s (nu.power s i0) n 1 _ w2;exact ⟨_,i0+1,i0,false,_,_,_,_,_,_,_,_,_,_,_,_,_,_,_,_,_,_,_,_,_,_,_,_,_,_,_,_,_,_,_,_,rfl,hst2,hup.trans hup2,by omega,.inr (.inl ⟨rfl,rfl,HR.out,rfl⟩)⟩
     · have hp:(hk':i0 < s.size)→Lib.indexByte [43] s[i0] < 0:=fun hk'=>by
        have:=mt (nu.idx_one 43 s[i0]).1 (fun e=>hB (by rw [nu.at_some s i0 hk',e]));omega
       have HR:Hid (nu.power s i0=nu.pwFirst s false i0):=by
        show nu.power s i0=_;unfold nu.power
        cases hx:nu.at_ s i0 with
        | none=>unfold nu.pwFirst;rw [hx]
        | some c=>rw [hx] at hA hB;simp only [Option.some.injEq] at hA hB;simp only [hA,hB,if_false]
       clear hA hB;have HM:=hide hm;have HP:=hide hp;clear hm hp
       go_wp2_with fail
       refine (takes_not s ⟨#[45]⟩ b i0 _ h hi (uh HM)).mono ?_;rintro e w1 ⟨rfl,hst,hup⟩
       go_wp2_with fail
       refine (takes_not s ⟨#[43]⟩ b i0 _ hst hi (uh HP)).mono ?_;rintro e w2 ⟨rfl,hst2,hup2⟩
       go_wp2_with fail
       go_step3
       show ∃ n,AtP w0 b s (nu.power s i0) n 2 _ w2;exact ⟨_,i0,i0,false,_,_,_,_,_,_,_,_,_,_,_,_,_,_,_,_,_,_,_,_,_,_,_,_,_,_,_,_,_,_,_,_,rfl,hst2,hup.trans hup2,hi,.inr (.inr (.inl ⟨rfl,rfl,rfl,HR.out,rfl⟩))⟩
 · intro n l a w hJ
   obtain ⟨k,i,ng,u1,u3,u4,u6,u7,u8,u9,u10,u11,u12,u13,u14,u15,u16,u17,u18,u19,u20,u21,u22,u23,u24,u25,u26,u27,u28,u29,u30,u31,u32,u33,u34,rfl,hst,hup,hk,hJ⟩:=hJ;have c1':=hst.c1;have c0':=hst.c0;clear c1 h
   rcases hJ with ⟨rfl,rfl,hres,rfl⟩|⟨rfl,rfl,hres,rfl⟩|⟨rfl,rfl,rfl,hres,rfl⟩|⟨rfl,hik,hres,rfl⟩
   · refine ⟨_,rfl,?_⟩
     by_cases hd:∃ hlt:k < s.size,nu.dig s[k]=true
     · obtain ⟨hlt,hd⟩:=hd
       have HR:Hid (nu.power s i0=nu.pwRest s true k (k+1)):=by
        show nu.power s i0=_;rw [hres];unfold nu.pwFirst;rw [nu.at_some s k hlt];simp [hd]
       have hp:0≤Lib.indexByte [48,49,50,51,52,53,54,55,56,57] s[k]:=(nu.idx_digits s[k]).2 hd;clear hd hres
       go_wp2_with fail
       go_step3
       go_wp2_with fail
       go_step3
       go_wp2_with fail
       refine (takes_ok s ⟨#[48,49,50,51,52,53,54,55,56,57]⟩ b k _ hst hlt hs hp).mono ?_;rintro e w2 ⟨rfl,hst2,hup2⟩
       go_wp2_with fail
       go_step3
       show ∃ n',n' < _∧AtP w0 b s (nu.power s i0) n' 3 _ w2;exact ⟨4*(s.size - (k+1)),by omega,k+1,k,true,_,_,_,_,_,_,_,_,_,_,_,_,_,_,_,_,_,_,_,_,_,_,_,_,_,_,_,_,_,_,_,_,rfl,hst2,hup.trans hup2,by omega,.inr (.inr (.inr ⟨rfl,by omega,HR.out,rfl⟩))⟩
     · have HR:Hid (nu.power s i0=none):=by
        show nu.power s i0=_;rw [hres];unfold nu.pwFirst
        rcases Nat.lt_or_ge k s.size with h'|h'
        · rw [nu.at_some s k h']
          have hf:nu.dig s[k]=false:=by cases hx:nu.dig s[k] with|false=>rfl|true=>exact absurd ⟨h',hx⟩ hd
          simp [hf]
        · rw [nu.at_none s k (by omega)]
       have HP:Hid ((hk':k < s.size)→Lib.indexByte [48,49,50,51,52,53,54,55,56,57] s[k] < 0):=fun hk'=>by
        have:=mt (nu.idx_digits s[k]).1 (fun e=>hd ⟨hk',e⟩);omega
       clear hd hres
       go_wp2_with fail
       go_step3
       go_wp2_with fail
       go_step3
       go_wp2_with fail
       refine (takes_not s ⟨#[48,49,50,51,52,53,54,55,56,57]⟩ b k _ hst hk (uh HP)).mono ?_;rintro e w2 ⟨rfl,hst2,hup2⟩;go_wp2
       try rw [Jumps.ret]
       go_ret3
       exact ⟨false,_,false,rfl,hup.trans hup2,(fun h=>by cases h),(fun _=>HR.out)⟩
   · refine ⟨_,rfl,?_⟩
     by_cases hd:∃ hlt:k < s.size,nu.dig s[k]=true
     · obtain ⟨hlt,hd⟩:=hd
       have HR:Hid (nu.power s i0=nu.pwRest s false k (k+1)):=by
        show nu.power s i0=_;rw [hres];unfold nu.pwFirst;rw [nu.at_some s k hlt];simp [hd]
       have hp:0≤Lib.indexByte [48,49,50,51,52,53,54,55,56,57] s[k]:=(nu.idx_digits s[k]).2 hd;clear hd hres
       go_wp2_with fail
       go_step3
       go_wp2_with fail
       refine (takes_ok s ⟨#[48,49,50,51,52,53,54,55,56,57]⟩ b k _ hst hlt hs hp).mono ?_;rintro e w2 ⟨rfl,hst2,hup2⟩
       go_wp2_with fail
       go_step3
       show ∃ n',n' < _∧AtP w0 b s (nu.power s i0) n' 3 _ w2;exact ⟨4*(s.size - (k+1)),by omega,k+1,k,false,_,_,_,_,_,_,_,_,_,_,_,_,_,_,_,_,_,_,_,_,_,_,_,_,_,_,_,_,_,_,_,_,rfl,hst2,hup.trans hup2,by omega,.inr (.inr (.inr ⟨rfl,by omega,HR.out,rfl⟩))⟩
     · have HR:Hid (nu.power s i0=none):=by
        show nu.power s i0=_;rw [hres];unfold nu.pwFirst
        rcases Nat.lt_or_ge k s.size with h'|h'
        · rw [nu.at_some s k h']
          have hf:nu.dig s[k]=false:=by cases hx:nu.dig s[k] with|false=>rfl|true=>exact absurd ⟨h',hx⟩ hd
          simp [hf]
        · rw [nu.at_none s k (by omega)]
       have HP:Hid ((hk':k < s.size)→Lib.indexByte [48,49,50,51,52,53,54,55,56,57] s[k] < 0):=fun hk'=>by
        have:=mt (nu.idx_digits s[k]).1 (fun e=>hd ⟨hk',e⟩);omega
       clear hd hres
       go_wp2_with fail
       go_step3
       go_wp2_with fail
       refine (takes_not s ⟨#[48,49,50,51,52,53,54,55,56,57]⟩ b k _ hst hk (uh HP)).mono ?_;rintro e w2 ⟨rfl,hst2,hup2⟩;go_wp2
       try rw [Jumps.ret]
       go_ret3
       exact ⟨false,_,false,rfl,hup.trans hup2,(fun h=>by cases h),(fun _=>HR.out)⟩
   · refine ⟨_,rfl,?_⟩
     by_cases hd:∃ hlt:k < s.size,nu.dig s[k]=true
     · obtain ⟨hlt,hd⟩:=hd
       have HR:Hid (nu.power s i0=nu.pwRest s false k (k+1)):=by
        show nu.power s i0=_;rw [hres];unfold nu.pwFirst;rw [nu.at_some s k hlt];simp [hd]
       have hp:0≤Lib.indexByte [48,49,50,51,52,53,54,55,56,57] s[k]:=(nu.idx_digits s[k]).2 hd;clear hd hres
       go_wp2_with fail
       refine (takes_ok s ⟨#[48,49,50,51,52,53,54,55,56,57]⟩ b k _ hst hlt hs hp).mono ?_;rintro e w2 ⟨rfl,hst2,hup2⟩
       go_wp2_with fail
       go_step3
       show ∃ n',n' < _∧AtP w0 b s (nu.power s i0) n' 3 _ w2;exact ⟨4*(s.size - (k+1)),by omega,k+1,k,false,_,_,_,_,_,_,_,_,_,_,_,_,_,_,_,_,_,_,_,_,_,_,_,_,_,_,_,_,_,_,_,_,rfl,hst2,hup.trans hup2,by omega,.inr (.inr (.inr ⟨rfl,by omega,HR.out,rfl⟩))⟩
     · have HR:Hid (nu.power s i0=none):=by
        show nu.power s i0=_;rw [hres];unfold nu.pwFirst
        rcases Nat.lt_or_ge k s.size with h'|h'
        · rw [nu.at_some s k h']
          have hf:nu.dig s[k]=false:=by cases hx:nu.dig s[k] with|false=>rfl|true=>exact absurd ⟨h',hx⟩ hd
          simp [hf]
        · rw [nu.at_none s k (by omega)]
       have HP:Hid ((hk':k < s.size)→Lib.indexByte [48,49,50,51,52,53,54,55,56,57] s[k] < 0):=fun hk'=>by
        have:=mt (nu.idx_digits s[k]).1 (fun e=>hd ⟨hk',e⟩);omega
       clear hd hres
       go_wp2_with fail
       refine (takes_not s ⟨#[48,49,50,51,52,53,54,55,56,57]⟩ b k _ hst hk (uh HP)).mono ?_;rintro e w2 ⟨rfl,hst2,hup2⟩;go_wp2
       try rw [Jumps.ret]
       go_ret3
       exact ⟨false,_,false,rfl,hup.trans hup2,(fun h=>by cases h),(fun _=>HR.out)⟩
   · refine ⟨_,rfl,?_⟩
     by_cases hd:∃ hlt:k < s.size,nu.dig s[k]=true
     · obtain ⟨hlt,hd⟩:=hd
       have HR:Hid (nu.power s i0=nu.pwRest s ng i (k+1)):=by
        show nu.power s i0=_;rw [hres];unfold nu.pwRest;rw [nu.nd_yes s k hlt hd,show k+(nu.nd s (k+1)+1)=k+1+nu.nd s (k+1) by omega]
       have hp:0≤Lib.indexByte [48,49,50,51,52,53,54,55,56,57] s[k]:=(nu.idx_digits s[k]).2 hd;clear hd hres
       go_wp2_with fail
       refine (takes_ok s ⟨#[48,49,50,51,52,53,54,55,56,57]⟩ b k _ hst hlt hs hp).mono ?_;rintro e w2 ⟨rfl,hst2,hup2⟩
       go_wp2_with fail
       go_step3
       show ∃ n',n' < _∧AtP w0 b s (nu.power s i0) n' 3 _ w2;exact ⟨4*(s.size - (k+1)),by omega,k+1,i,ng,_,_,_,_,_,_,_,_,_,_,_,_,_,_,_,_,_,_,_,_,_,_,_,_,_,_,_,_,_,_,_,_,rfl,hst2,hup.trans hup2,by omega,.inr (.inr (.inr ⟨rfl,by omega,HR.out,rfl⟩))⟩
     · have hn:nu.nd s k=0:=by
        rcases Nat.lt_or_ge k s.size with h'|h'
        · have hf:nu.dig s[k]=false:=by cases hx:nu.dig s[k] with|false=>rfl|true=>exact absurd ⟨h',hx⟩ hd
          exact nu.nd_no s k h' hf
        · exact nu.nd_end s k (by omega)
       have HR:Hid (nu.power s i0=if k=s.size then some (ng,s.extract i k) else none):=by
        show nu.power s i0=_;rw [hres];unfold nu.pwRest;rw [hn,Nat.add_zero]
       have HP:Hid ((hk':k < s.size)→Lib.indexByte [48,49,50,51,52,53,54,55,56,57] s[k] < 0):=fun hk'=>by
        have:=mt (nu.idx_digits s[k]).1 (fun e=>hd ⟨hk',e⟩);omega
       clear hd hres hn
       go_wp2_with fail
       refine (takes_not s ⟨#[48,49,50,51,52,53,54,55,56,57]⟩ b k _ hst hk (uh HP)).mono ?_;rintro e w2 ⟨rfl,hst2,hup2⟩;have d1:=hst2.c1;have d0:=hst2.c0;clear c1' c0' HP
       go_wp2_with fail
       go_quiet ((go_at_call 202;exact Calls.quiet_of (ended_any s b k _ (by exact d0) (by exact d1))))
       go_wp2
       try rw [Jumps.ret]
       go_ret3
       refine ⟨ng,_,_,rfl,(hup.trans hup2).trans (Upd.drewN _ _ _),?_,?_⟩
       · intro h
         have h':(k:Int)=s.size:=by simpa using h
         rw [HR.out,if_pos (by omega)]
       · intro h
         have h':¬ (k:Int)=s.size:=by simpa using h
         rw [HR.out,if_neg (by omega)]
def Lies (w:World) (m:Nat) (x:nu.Num):Prop:=w.heap[m]?=some (.cells #[.bool x.neg,.string x.wh,.string x.fr,.bool x.pn,.string x.pw] 220 (0,0))
theorem Lies.cells {w:World}{m:Nat}{x:nu.Num} (h:Lies w m x):w.cell? ⟨m,0,none⟩=some (.bool x.neg)∧w.cell? ⟨m,1,none⟩=some (.string x.wh)∧w.cell? ⟨m,2,none⟩=some (.string x.fr)∧w.cell? ⟨m,3,none⟩=some (.bool x.pn)∧w.cell? ⟨m,4,none⟩=some (.string x.pw) :=
 ⟨blk_cell h 0,blk_cell h 1,blk_cell h 2,blk_cell h 3,blk_cell h 4⟩
theorem Lies.frees {w:World}{m:Nat}{x:nu.Num} (h:Lies w m x):w.frozen? ⟨m,0,none⟩=false∧w.frozen? ⟨m,1,none⟩=false∧w.frozen? ⟨m,2,none⟩=false∧w.frozen? ⟨m,3,none⟩=false∧w.frozen? ⟨m,4,none⟩=false :=
 ⟨blk_free h 0,blk_free h 1,blk_free h 2,blk_free h 3,blk_free h 4⟩
theorem Lies.upd {w w':World}{m b:Nat}{x:nu.Num} (h:Lies w m x) (hu:Upd b w w') (hne:m≠b):Lies w' m x:=(hu.block m hne).trans h
theorem Stands.upd {w w':World}{m b:Nat}{s:ByteArray}{k:Nat} (h:Stands w b s k) (hu:Upd m w w') (hne:b≠m):Stands w' b s k:=(hu.block b hne).trans h
structure Two (w0 w:World) (s:ByteArray) (k:Nat) (x:nu.Num):Prop where
 below:Below w0.heap.size w0 w
 size:w.heap.size=w0.heap.size+2
 stands:Stands w (w0.heap.size+1) s k
 lies:Lies w w0.heap.size x
theorem Two.step {w0 w w':World}{s:ByteArray}{k k':Nat}{x:nu.Num} (h:Two w0 w s k x) (hs:Stands w' (w0.heap.size+1) s k') (hu:Upd (w0.heap.size+1) w w'):Two w0 w' s k' x :=
 ⟨h.below.trans (hu.below (by omega)),hu.size.trans h.size,hs,h.lies.upd hu (by omega)⟩
theorem Two.write {w0 w:World}{s:ByteArray}{k:Nat}{x y:nu.Num} (h:Two w0 w s k x) (o:Nat) (v:Value)
 (hy:(#[.bool x.neg,.string x.wh,.string x.fr,.bool x.pn,.string x.pw]:Array Value).setIfInBounds o v=#[.bool y.neg,.string y.wh,.string y.fr,.bool y.pn,.string y.pw]):Two w0 (w.setCell ⟨w0.heap.size,o,none⟩ v) s k y :=
 ⟨h.below.trans ((Upd.setCell _ o w v).below (Nat.le_refl _)),(Upd.setCell _ o w v).size.trans h.size,h.stands.upd (Upd.setCell _ o w v) (by omega),by
  have:=blk_set h.lies o v;rw [hy] at this
  exact this⟩
structure Two2 (w0 w:World) (x:nu.Num):Prop where
 below:Below w0.heap.size w0 w
 lies:Lies w w0.heap.size x
theorem Two2.write {w0 w:World}{x y:nu.Num} (h:Two2 w0 w x) (o:Nat) (v:Value)
 (hy:(#[.bool x.neg,.string x.wh,.string x.fr,.bool x.pn,.string x.pw]:Array Value).setIfInBounds o v=#[.bool y.neg,.string y.wh,.string y.fr,.bool y.pn,.string y.pw]):Two2 w0 (w.setCell ⟨w0.heap.size,o,none⟩ v) y :=
 ⟨h.below.trans ((Upd.setCell _ o w v).below (Nat.le_refl _)),by
  have:=blk_set h.lies o v;rw [hy] at this
  exact this⟩
theorem ret_num {m:Nat} (w:World) (x:nu.Num) (ok:Bool) (h:Lies w m x) (tmps:Array Value) (h2:tmps.getD 2 undef=.pointer (some ⟨m,0,none⟩)) (h3:tmps.getD 3 undef=.bool ok) :
 (results Tryz.f186 tmps).run Tryz.prog w=.ok (.tuple #[.agg #[.bool x.neg,.string x.wh,.string x.fr,.bool x.pn,.string x.pw],.bool ok]) w:=by
 obtain ⟨q0,q1,q2,q3,q4⟩:=h.cells;rw [results_cell_tmp Tryz.results186,h2,h3];simp [go_sem,q0,q1,q2,q3,q4]
def x0:nu.Num:=⟨false,.empty,.empty,false,.empty⟩
def AtN (w0:World) (s:ByteArray) (res:Option nu.Num) (n l:Nat) (a:Act) (w:World):Prop :=
 ∃ (k i:Nat) (neg:Bool) (wh:ByteArray) (u1 u6 u7 u8 u9 u10 u11 u12 u13 u14 u15 u16 u17 u18 u19 u20 u21 u22 u23 u24 u25 u26 u27 u28 u29 u30 u31 u32 u33 u34 u35 u36 u37 u38 u39 u40 u41 u42 u43 u44 u45:Value),a={ tmps:=#[.string s,u1,.pointer (some ⟨w0.heap.size,0,none⟩),.bool false,.pointer (some ⟨w0.heap.size+1,0,none⟩),.int .i64 i,u6,u7,u8,u9,u10,u11,u12,u13,u14,u15,u16,u17,u18,u19,u20,u21,u22,u23,u24,u25,u26,u27,u28,u29,u30,u31,u32,u33,u34,u35,u36,u37,u38,u39,u40,u41,u42,u43,u44,u45],defers:=[] }∧k≤s.size ∧
   ((l=0∧Two w0 w s k x0∧res=nu.first s k true∧n=8*(s.size - k)+6) ∨
    (l=1∧Two w0 w s k x0∧res=nu.first s k false∧n=8*(s.size - k)+5) ∨
    (l=2∧Two w0 w s k ⟨neg,.empty,.empty,false,.empty⟩∧i≤k∧res=nu.counted s i k neg∧n=8*(s.size - k)+3) ∨
    (l=3∧Two w0 w s k ⟨neg,.empty,.empty,false,.empty⟩∧i≤k∧res=nu.whole s i k neg∧n=8*(s.size - k)+4) ∨
    (l=4∧Two w0 w s k ⟨neg,wh,.empty,false,.empty⟩∧res=nu.point s k neg wh∧n=8*(s.size - k)+2) ∨
    (l=5∧Two w0 w s k ⟨neg,wh,.empty,false,.empty⟩∧res=nu.measured s k neg wh .empty∧n=8*(s.size - k)) ∨
    (l=6∧Two w0 w s k ⟨neg,wh,.empty,false,.empty⟩∧i≤k∧res=nu.fraction s i k neg wh∧n=8*(s.size - k)+1))
theorem two_start (w0:World) (s:ByteArray):Two w0 ((w0.alloc (.cells #[.bool false,.string ⟨#[]⟩,.string ⟨#[]⟩,.bool false,.string ⟨#[]⟩] 220)).alloc (.cells #[.string s,.int .i64 0] 228)) s 0 x0 where
 below:=((Below.refl _ _).alloc (Nat.le_refl _) _).alloc (by simp) _
 size:=by simp
 stands:=by
  show ((w0.heap.push _).push _)[w0.heap.size+1]?=_;rw [show w0.heap.size+1=(w0.heap.push (.cells #[.bool false,.string ⟨#[]⟩,.string ⟨#[]⟩,.bool false,.string ⟨#[]⟩] 220)).size by simp,Array.getElem?_push_size];rfl
 lies:=by
  show ((w0.heap.push _).push _)[w0.heap.size]?=_;rw [Array.getElem?_push,if_neg (by simp),Array.getElem?_push_size];rfl
set_option maxRecDepth 100000 in
set_option maxHeartbeats 2000000 in
theorem numeral_any (w0:World) (s:ByteArray) (hs:s.size≤4611686018427387904) :
 Calls Tryz.prog 186 #[.string s] w0 fun e w'=>∃ (x:nu.Num) (ok:Bool),e=.returned (.tuple #[.agg #[.bool x.neg,.string x.wh,.string x.fr,.bool x.pn,.string x.pw],.bool ok])∧Below w0.heap.size w0 w'∧(ok=true→nu.numeral s=some x)∧(ok=false→nu.numeral s=none):=by
 go_enter Tryz.func186,Tryz.ntmps186
 go_wp2;refine wp_scope_labels (AtN w0 s (nu.numeral s)) ?_ ?_
 · by_cases hA:nu.at_ s 0=some 45
   · have hlt:0 < s.size:=by
      rcases Nat.lt_or_ge 0 s.size with h'|h'
      · exact h'
      · rw [nu.at_none s 0 (by omega)] at hA;cases hA
     have hc:s[0]=45:=by rw [nu.at_some s 0 hlt] at hA;simpa using hA
     have HR:Hid (nu.numeral s=nu.first s 1 true):=by
      show nu.numeral s=_;unfold nu.numeral;rw [if_pos hA]
     have hp:0≤Lib.indexByte [45] s[0]:=(nu.idx_one 45 s[0]).2 hc;clear hA hc;have ht:=two_start w0 s
     go_wp2_with fail
     refine (takes_ok s ⟨#[45]⟩ (w0.heap.size+1) 0 _ ht.stands hlt hs hp).mono ?_;rintro e w2 ⟨rfl,hst2,hup2⟩;have ht2:=ht.step hst2 hup2
     go_wp2_with fail
     go_step3
     show ∃ n,AtN w0 s (nu.numeral s) n 0 _ w2;exact ⟨8*(s.size - (1))+6,1,0,false,.empty,_,_,_,_,_,_,_,_,_,_,_,_,_,_,_,_,_,_,_,_,_,_,_,_,_,_,_,_,_,_,_,_,_,_,_,_,_,_,_,_,_,rfl,by omega,.inl ⟨rfl,ht2,HR.out,rfl⟩⟩
   · have HR:Hid (nu.numeral s=nu.first s 0 false):=by
      show nu.numeral s=_;unfold nu.numeral;rw [if_neg hA]
     have HZ:Hid ((hk':0 < s.size)→Lib.indexByte [45] s[0] < 0):=fun hk'=>by
      have:=mt (nu.idx_one 45 s[0]).1 (fun e=>hA (by rw [nu.at_some s 0 hk',e]));omega
     clear hA;have ht:=two_start w0 s
     go_wp2_with fail
     refine (takes_not s ⟨#[45]⟩ (w0.heap.size+1) 0 _ ht.stands (Nat.zero_le _) (uh HZ)).mono ?_;rintro e w2 ⟨rfl,hst2,hup2⟩;have ht2:=ht.step hst2 hup2
     go_wp2_with fail
     go_step3
     show ∃ n,AtN w0 s (nu.numeral s) n 1 _ w2;exact ⟨8*(s.size - (0))+5,0,0,false,.empty,_,_,_,_,_,_,_,_,_,_,_,_,_,_,_,_,_,_,_,_,_,_,_,_,_,_,_,_,_,_,_,_,_,_,_,_,_,_,_,_,_,rfl,by omega,.inr (.inl ⟨rfl,ht2,HR.out,rfl⟩)⟩
 · intro n l a w hJ
   obtain ⟨k,i,neg,wh,u1,u6,u7,u8,u9,u10,u11,u12,u13,u14,u15,u16,u17,u18,u19,u20,u21,u22,u23,u24,u25,u26,u27,u28,u29,u30,u31,u32,u33,u34,u35,u36,u37,u38,u39,u40,u41,u42,u43,u44,u45,rfl,hk,hJ⟩:=hJ
   rcases hJ with ⟨rfl,ht,hres,rfl⟩|⟨rfl,ht,hres,rfl⟩|⟨rfl,ht,hik,hres,rfl⟩|⟨rfl,ht,hik,hres,rfl⟩|⟨rfl,ht,hres,rfl⟩|⟨rfl,ht,hres,rfl⟩|⟨rfl,ht,hik,hres,rfl⟩
   · refine ⟨_,rfl,?_⟩
     by_cases hz:∃ hlt:k < s.size,s[k]=48
     · obtain ⟨hlt,hz⟩:=hz
       have HR:Hid (nu.numeral s=nu.counted s k (k+1) true):=by
        show nu.numeral s=_;rw [hres];unfold nu.first;rw [nu.at_some s k hlt];simp [hz]
       have hp:0≤Lib.indexByte [48] s[k]:=(nu.idx_one 48 s[k]).2 hz;clear hz hres;have c1:=ht.stands.c1;have c0:=ht.stands.c0;obtain ⟨q0,q1,q2,q3,q4⟩:=ht.lies.cells;obtain ⟨f0,f1,f2,f3,f4⟩:=ht.lies.frees;have htn:Two w0 (w.setCell ⟨w0.heap.size,0,none⟩ (.bool true)) s k ⟨true,.empty,.empty,false,.empty⟩:=ht.write 0 _ rfl
       go_wp2_with fail
       go_step3
       go_wp2_with fail
       refine (takes_ok s ⟨#[48]⟩ (w0.heap.size+1) k _ htn.stands hlt hs hp).mono ?_;rintro e w2 ⟨rfl,hst2,hup2⟩;have ht2:=htn.step hst2 hup2;clear c1 c0 q0 q1 q2 q3 q4 f0 f1 f2 f3 f4
       go_wp2_with fail
       go_step3
       show ∃ n',n' < _∧AtN w0 s (nu.numeral s) n' 2 _ w2;exact ⟨8*(s.size - (k+1))+3,by omega,k+1,k,true,.empty,_,_,_,_,_,_,_,_,_,_,_,_,_,_,_,_,_,_,_,_,_,_,_,_,_,_,_,_,_,_,_,_,_,_,_,_,_,_,_,_,_,rfl,by omega,.inr (.inr (.inl ⟨rfl,ht2,by omega,HR.out,rfl⟩))⟩
     · by_cases hd:∃ hlt:k < s.size,nu.dig s[k]=true
       · obtain ⟨hlt,hd⟩:=hd
         have hz':¬ s[k]=48:=fun e=>hz ⟨hlt,e⟩
         have HR:Hid (nu.numeral s=nu.whole s k (k+1) true):=by
          show nu.numeral s=_;rw [hres];unfold nu.first;rw [nu.at_some s k hlt];simp [hz',hd]
         have hp:0≤Lib.indexByte [48,49,50,51,52,53,54,55,56,57] s[k]:=(nu.idx_digits s[k]).2 hd
         have HZ:Hid ((hk':k < s.size)→Lib.indexByte [48] s[k] < 0):=fun hk'=>by
          have:=mt (nu.idx_one 48 s[k]).1 hz';omega
         clear hz hz' hd hres;have c1:=ht.stands.c1;have c0:=ht.stands.c0;obtain ⟨q0,q1,q2,q3,q4⟩:=ht.lies.cells;obtain ⟨f0,f1,f2,f3,f4⟩:=ht.lies.frees;have htn:Two w0 (w.setCell ⟨w0.heap.size,0,none⟩ (.bool true)) s k ⟨true,.empty,.empty,false,.empty⟩:=ht.write 0 _ rfl
         go_wp2_with fail
         go_step3
         go_wp2_with fail
         refine (takes_not s ⟨#[48]⟩ (w0.heap.size+1) k _ htn.stands hk (uh HZ)).mono ?_;rintro e w2 ⟨rfl,hst2,hup2⟩;have ht2:=htn.step hst2 hup2;clear c1 c0 q0 q1 q2 q3 q4 f0 f1 f2 f3 f4
         go_wp2_with fail
         refine (takes_ok s ⟨#[48,49,50,51,52,53,54,55,56,57]⟩ (w0.heap.size+1) k _ ht2.stands hlt hs hp).mono ?_;rintro e w3 ⟨rfl,hst3,hup3⟩;have ht3:=ht2.step hst3 hup3
         go_wp2_with fail
         go_step3
         show ∃ n',n' < _∧AtN w0 s (nu.numeral s) n' 3 _ w3;exact ⟨8*(s.size - (k+1))+4,by omega,k+1,k,true,.empty,_,_,_,_,_,_,_,_,_,_,_,_,_,_,_,_,_,_,_,_,_,_,_,_,_,_,_,_,_,_,_,_,_,_,_,_,_,_,_,_,_,rfl,by omega,.inr (.inr (.inr (.inl ⟨rfl,ht3,by omega,HR.out,rfl⟩)))⟩
       · have HR:Hid (nu.numeral s=none):=by
          show nu.numeral s=_;rw [hres];unfold nu.first
          rcases Nat.lt_or_ge k s.size with h'|h'
          · rw [nu.at_some s k h']
            have hz':¬ s[k]=48:=fun e=>hz ⟨h',e⟩
            have hf:∀ h':k < s.size,nu.dig s[k]=false:=fun h'=>by
             cases hx:nu.dig s[k] with
             | false=>rfl
             | true=>exact absurd ⟨h',hx⟩ hd
            simp [hz',hf h']
          · rw [nu.at_none s k (by omega)]
         have HZ:Hid ((hk':k < s.size)→Lib.indexByte [48] s[k] < 0):=fun hk'=>by
          have:=mt (nu.idx_one 48 s[k]).1 (fun e=>hz ⟨hk',e⟩);omega
         have HP:Hid ((hk':k < s.size)→Lib.indexByte [48,49,50,51,52,53,54,55,56,57] s[k] < 0):=fun hk'=>by
          have:=mt (nu.idx_digits s[k]).1 (fun e=>hd ⟨hk',e⟩);omega
         clear hz hd hres;have c1:=ht.stands.c1;have c0:=ht.stands.c0;obtain ⟨q0,q1,q2,q3,q4⟩:=ht.lies.cells;obtain ⟨f0,f1,f2,f3,f4⟩:=ht.lies.frees;have htn:Two w0 (w.setCell ⟨w0.heap.size,0,none⟩ (.bool true)) s k ⟨true,.empty,.empty,false,.empty⟩:=ht.write 0 _ rfl
         go_wp2_with fail
         go_step3
         go_wp2_with fail
         refine (takes_not s ⟨#[48]⟩ (w0.heap.size+1) k _ htn.stands hk (uh HZ)).mono ?_;rintro e w2 ⟨rfl,hst2,hup2⟩;have ht2:=htn.step hst2 hup2;clear c1 c0 q0 q1 q2 q3 q4 f0 f1 f2 f3 f4
         go_wp2_with fail
         refine (takes_not s ⟨#[48,49,50,51,52,53,54,55,56,57]⟩ (w0.heap.size+1) k _ ht2.stands hk (uh HP)).mono ?_;rintro e w3 ⟨rfl,hst3,hup3⟩;have ht3:=ht2.step hst3 hup3;have c1:=ht3.stands.c1;have c0:=ht3.stands.c0;obtain ⟨q0,q1,q2,q3,q4⟩:=ht3.lies.cells;obtain ⟨f0,f1,f2,f3,f4⟩:=ht3.lies.frees;go_wp2;rw [Jumps.ret];have htf:=(((((ht3.write (y:=⟨true,.empty,.empty,false,.empty⟩) 0 (.bool true) rfl).write (y:=⟨true,.empty,.empty,false,.empty⟩) 1 (.string .empty) rfl).write (y:=⟨true,.empty,.empty,false,.empty⟩) 2 (.string .empty) rfl).write (y:=⟨true,.empty,.empty,false,.empty⟩) 3 (.bool false) rfl).write (y:=⟨true,.empty,.empty,false,.empty⟩) 4 (.string .empty) rfl)
         exact bodyPost_ret (ret_num _ _ false htf.lies _ rfl rfl) rfl
          ⟨⟨true,.empty,.empty,false,.empty⟩,false,rfl,htf.below,(fun h=>by cases h),fun _=>HR.out⟩
   · refine ⟨_,rfl,?_⟩
     by_cases hz:∃ hlt:k < s.size,s[k]=48
     · obtain ⟨hlt,hz⟩:=hz
       have HR:Hid (nu.numeral s=nu.counted s k (k+1) false):=by
        show nu.numeral s=_;rw [hres];unfold nu.first;rw [nu.at_some s k hlt];simp [hz]
       have hp:0≤Lib.indexByte [48] s[k]:=(nu.idx_one 48 s[k]).2 hz;clear hz hres;have c1:=ht.stands.c1;have c0:=ht.stands.c0;obtain ⟨q0,q1,q2,q3,q4⟩:=ht.lies.cells;obtain ⟨f0,f1,f2,f3,f4⟩:=ht.lies.frees;have htn:Two w0 w s k ⟨false,.empty,.empty,false,.empty⟩:=ht
       go_wp2_with fail
       refine (takes_ok s ⟨#[48]⟩ (w0.heap.size+1) k _ htn.stands hlt hs hp).mono ?_;rintro e w2 ⟨rfl,hst2,hup2⟩;have ht2:=htn.step hst2 hup2;clear c1 c0 q0 q1 q2 q3 q4 f0 f1 f2 f3 f4
       go_wp2_with fail
       go_step3
       show ∃ n',n' < _∧AtN w0 s (nu.numeral s) n' 2 _ w2;exact ⟨8*(s.size - (k+1))+3,by omega,k+1,k,false,.empty,_,_,_,_,_,_,_,_,_,_,_,_,_,_,_,_,_,_,_,_,_,_,_,_,_,_,_,_,_,_,_,_,_,_,_,_,_,_,_,_,_,rfl,by omega,.inr (.inr (.inl ⟨rfl,ht2,by omega,HR.out,rfl⟩))⟩
     · by_cases hd:∃ hlt:k < s.size,nu.dig s[k]=true
       · obtain ⟨hlt,hd⟩:=hd
         have hz':¬ s[k]=48:=fun e=>hz ⟨hlt,e⟩
         have HR:Hid (nu.numeral s=nu.whole s k (k+1) false):=by
          show nu.numeral s=_;rw [hres];unfold nu.first;rw [nu.at_some s k hlt];simp [hz',hd]
         have hp:0≤Lib.indexByte [48,49,50,51,52,53,54,55,56,57] s[k]:=(nu.idx_digits s[k]).2 hd
         have HZ:Hid ((hk':k < s.size)→Lib.indexByte [48] s[k] < 0):=fun hk'=>by
          have:=mt (nu.idx_one 48 s[k]).1 hz';omega
         clear hz hz' hd hres;have c1:=ht.stands.c1;have c0:=ht.stands.c0;obtain ⟨q0,q1,q2,q3,q4⟩:=ht.lies.cells;obtain ⟨f0,f1,f2,f3,f4⟩:=ht.lies.frees;have htn:Two w0 w s k ⟨false,.empty,.empty,false,.empty⟩:=ht
         go_wp2_with fail
         refine (takes_not s ⟨#[48]⟩ (w0.heap.size+1) k _ htn.stands hk (uh HZ)).mono ?_;rintro e w2 ⟨rfl,hst2,hup2⟩;have ht2:=htn.step hst2 hup2;clear c1 c0 q0 q1 q2 q3 q4 f0 f1 f2 f3 f4
         go_wp2_with fail
         refine (takes_ok s ⟨#[48,49,50,51,52,53,54,55,56,57]⟩ (w0.heap.size+1) k _ ht2.stands hlt hs hp).mono ?_;rintro e w3 ⟨rfl,hst3,hup3⟩;have ht3:=ht2.step hst3 hup3
         go_wp2_with fail
         go_step3
         show ∃ n',n' < _∧AtN w0 s (nu.numeral s) n' 3 _ w3;exact ⟨8*(s.size - (k+1))+4,by omega,k+1,k,false,.empty,_,_,_,_,_,_,_,_,_,_,_,_,_,_,_,_,_,_,_,_,_,_,_,_,_,_,_,_,_,_,_,_,_,_,_,_,_,_,_,_,_,rfl,by omega,.inr (.inr (.inr (.inl ⟨rfl,ht3,by omega,HR.out,rfl⟩)))⟩
       · have HR:Hid (nu.numeral s=none):=by
          show nu.numeral s=_;rw [hres];unfold nu.first
          rcases Nat.lt_or_ge k s.size with h'|h'
          · rw [nu.at_some s k h']
            have hz':¬ s[k]=48:=fun e=>hz ⟨h',e⟩
            have hf:∀ h':k < s.size,nu.dig s[k]=false:=fun h'=>by
             cases hx:nu.dig s[k] with
             | false=>rfl
             | true=>exact absurd ⟨h',hx⟩ hd
            simp [hz',hf h']
          · rw [nu.at_none s k (by omega)]
         have HZ:Hid ((hk':k < s.size)→Lib.indexByte [48] s[k] < 0):=fun hk'=>by
          have:=mt (nu.idx_one 48 s[k]).1 (fun e=>hz ⟨hk',e⟩);omega
         have HP:Hid ((hk':k < s.size)→Lib.indexByte [48,49,50,51,52,53,54,55,56,57] s[k] < 0):=fun hk'=>by
          have:=mt (nu.idx_digits s[k]).1 (fun e=>hd ⟨hk',e⟩);omega
         clear hz hd hres;have c1:=ht.stands.c1;have c0:=ht.stands.c0;obtain ⟨q0,q1,q2,q3,q4⟩:=ht.lies.cells;obtain ⟨f0,f1,f2,f3,f4⟩:=ht.lies.frees;have htn:Two w0 w s k ⟨false,.empty,.empty,false,.empty⟩:=ht
         go_wp2_with fail
         refine (takes_not s ⟨#[48]⟩ (w0.heap.size+1) k _ htn.stands hk (uh HZ)).mono ?_;rintro e w2 ⟨rfl,hst2,hup2⟩;have ht2:=htn.step hst2 hup2;clear c1 c0 q0 q1 q2 q3 q4 f0 f1 f2 f3 f4
         go_wp2_with fail
         refine (takes_not s ⟨#[48,49,50,51,52,53,54,55,56,57]⟩ (w0.heap.size+1) k _ ht2.stands hk (uh HP)).mono ?_;rintro e w3 ⟨rfl,hst3,hup3⟩;have ht3:=ht2.step hst3 hup3;have c1:=ht3.stands.c1;have c0:=ht3.stands.c0;obtain ⟨q0,q1,q2,q3,q4⟩:=ht3.lies.cells;obtain ⟨f0,f1,f2,f3,f4⟩:=ht3.lies.frees;go_wp2;rw [Jumps.ret];have htf:=(((((ht3.write (y:=⟨false,.empty,.empty,false,.empty⟩) 0 (.bool false) rfl).write (y:=⟨false,.empty,.empty,false,.empty⟩) 1 (.string .empty) rfl).write (y:=⟨false,.empty,.empty,false,.empty⟩) 2 (.string .empty) rfl).write (y:=⟨false,.empty,.empty,false,.empty⟩) 3 (.bool false) rfl).write (y:=⟨false,.empty,.empty,false,.empty⟩) 4 (.string .empty) rfl)
         exact bodyPost_ret (ret_num _ _ false htf.lies _ rfl rfl) rfl
          ⟨⟨false,.empty,.empty,false,.empty⟩,false,rfl,htf.below,(fun h=>by cases h),fun _=>HR.out⟩
   · refine ⟨_,rfl,?_⟩
     by_cases hz:nu.at_ s k=some 46
     · have hlt:k < s.size:=by
        rcases Nat.lt_or_ge k s.size with h'|h'
        · exact h'
        · rw [nu.at_none s k (by omega)] at hz;cases hz
       have hc:s[k]=46:=by rw [nu.at_some s k hlt] at hz;simpa using hz
       have HR:Hid (nu.numeral s=nu.point s (k+1) neg (s.extract i k)):=by
        show nu.numeral s=_;rw [hres];unfold nu.counted;rw [if_pos hz]
       have hp:0≤Lib.indexByte [46] s[k]:=(nu.idx_one 46 s[k]).2 hc;clear hz hc hres;have c1:=ht.stands.c1;have c0:=ht.stands.c0;obtain ⟨q0,q1,q2,q3,q4⟩:=ht.lies.cells;obtain ⟨f0,f1,f2,f3,f4⟩:=ht.lies.frees;have htn:Two w0 (w.setCell ⟨w0.heap.size,1,none⟩ (.string (s.extract i k))) s k ⟨neg,s.extract i k,.empty,false,.empty⟩:=ht.write 1 _ rfl
       go_wp2_with fail
       refine (takes_ok s ⟨#[46]⟩ (w0.heap.size+1) k _ htn.stands hlt hs hp).mono ?_;rintro e w2 ⟨rfl,hst2,hup2⟩;have ht2:=htn.step hst2 hup2;clear c1 c0 q0 q1 q2 q3 q4 f0 f1 f2 f3 f4
       go_wp2_with fail
       go_step3
       show ∃ n',n' < _∧AtN w0 s (nu.numeral s) n' 4 _ w2;exact ⟨8*(s.size - (k+1))+2,by omega,k+1,i,neg,s.extract i k,_,_,_,_,_,_,_,_,_,_,_,_,_,_,_,_,_,_,_,_,_,_,_,_,_,_,_,_,_,_,_,_,_,_,_,_,_,_,_,_,_,rfl,by omega,.inr (.inr (.inr (.inr (.inl ⟨rfl,ht2,HR.out,rfl⟩))))⟩
     · have HR:Hid (nu.numeral s=nu.measured s k neg (s.extract i k) .empty):=by
        show nu.numeral s=_;rw [hres];unfold nu.counted;rw [if_neg hz]
       have HZ:Hid ((hk':k < s.size)→Lib.indexByte [46] s[k] < 0):=fun hk'=>by
        have:=mt (nu.idx_one 46 s[k]).1 (fun e=>hz (by rw [nu.at_some s k hk',e]));omega
       clear hz hres;have c1:=ht.stands.c1;have c0:=ht.stands.c0;obtain ⟨q0,q1,q2,q3,q4⟩:=ht.lies.cells;obtain ⟨f0,f1,f2,f3,f4⟩:=ht.lies.frees;have htn:Two w0 (w.setCell ⟨w0.heap.size,1,none⟩ (.string (s.extract i k))) s k ⟨neg,s.extract i k,.empty,false,.empty⟩:=ht.write 1 _ rfl
       go_wp2_with fail
       refine (takes_not s ⟨#[46]⟩ (w0.heap.size+1) k _ htn.stands hk (uh HZ)).mono ?_;rintro e w2 ⟨rfl,hst2,hup2⟩;have ht2:=htn.step hst2 hup2;clear c1 c0 q0 q1 q2 q3 q4 f0 f1 f2 f3 f4
       go_wp2_with fail
       go_step3
       show ∃ n',n' < _∧AtN w0 s (nu.numeral s) n' 5 _ w2;exact ⟨8*(s.size - (k)),by omega,k,i,neg,s.extract i k,_,_,_,_,_,_,_,_,_,_,_,_,_,_,_,_,_,_,_,_,_,_,_,_,_,_,_,_,_,_,_,_,_,_,_,_,_,_,_,_,_,rfl,by omega,.inr (.inr (.inr (.inr (.inr (.inl ⟨rfl,ht2,HR.out,rfl⟩)))))⟩
   · refine ⟨_,rfl,?_⟩
     by_cases hd:∃ hlt:k < s.size,nu.dig s[k]=true
     · obtain ⟨hlt,hd⟩:=hd
       have HR:Hid (nu.numeral s=nu.whole s i (k+1) neg):=by
        show nu.numeral s=_;rw [hres];unfold nu.whole;rw [nu.nd_yes s k hlt hd,show k+(nu.nd s (k+1)+1)=k+1+nu.nd s (k+1) by omega]
       have hp:0≤Lib.indexByte [48,49,50,51,52,53,54,55,56,57] s[k]:=(nu.idx_digits s[k]).2 hd;clear hd hres
       go_wp2_with fail
       refine (takes_ok s ⟨#[48,49,50,51,52,53,54,55,56,57]⟩ (w0.heap.size+1) k _ ht.stands hlt hs hp).mono ?_;rintro e w2 ⟨rfl,hst2,hup2⟩;have ht2:=ht.step hst2 hup2
       go_wp2_with fail
       go_step3
       show ∃ n',n' < _∧AtN w0 s (nu.numeral s) n' 3 _ w2;exact ⟨8*(s.size - (k+1))+4,by omega,k+1,i,neg,.empty,_,_,_,_,_,_,_,_,_,_,_,_,_,_,_,_,_,_,_,_,_,_,_,_,_,_,_,_,_,_,_,_,_,_,_,_,_,_,_,_,_,rfl,by omega,.inr (.inr (.inr (.inl ⟨rfl,ht2,by omega,HR.out,rfl⟩)))⟩
     · have hn:nu.nd s k=0:=by
        rcases Nat.lt_or_ge k s.size with h'|h'
        · have hf:nu.dig s[k]=false:=by
           cases hx:nu.dig s[k] with
           | false=>rfl
           | true=>exact absurd ⟨h',hx⟩ hd
          exact nu.nd_no s k h' hf
        · exact nu.nd_end s k (by omega)
       have HP:Hid ((hk':k < s.size)→Lib.indexByte [48,49,50,51,52,53,54,55,56,57] s[k] < 0):=fun hk'=>by
        have:=mt (nu.idx_digits s[k]).1 (fun e=>hd ⟨hk',e⟩);omega
       have hres2:nu.numeral s=nu.counted s i k neg:=by rw [hres];unfold nu.whole;rw [hn,Nat.add_zero]
       clear hres hn hd;have hres:=hres2;clear hres2
       by_cases hz:nu.at_ s k=some 46
       · have hlt:k < s.size:=by
          rcases Nat.lt_or_ge k s.size with h'|h'
          · exact h'
          · rw [nu.at_none s k (by omega)] at hz;cases hz
         have hc:s[k]=46:=by rw [nu.at_some s k hlt] at hz;simpa using hz
         have HR:Hid (nu.numeral s=nu.point s (k+1) neg (s.extract i k)):=by
          show nu.numeral s=_;rw [hres];unfold nu.counted;rw [if_pos hz]
         have hp:0≤Lib.indexByte [46] s[k]:=(nu.idx_one 46 s[k]).2 hc;clear hz hc hres;have c1:=ht.stands.c1;have c0:=ht.stands.c0;obtain ⟨q0,q1,q2,q3,q4⟩:=ht.lies.cells;obtain ⟨f0,f1,f2,f3,f4⟩:=ht.lies.frees
         go_wp2_with fail
         refine (takes_not s ⟨#[48,49,50,51,52,53,54,55,56,57]⟩ (w0.heap.size+1) k _ ht.stands hk (uh HP)).mono ?_;rintro e w1 ⟨rfl,hst1,hup1⟩;have ht1:=ht.step hst1 hup1;clear c1 c0 q0 q1 q2 q3 q4 f0 f1 f2 f3 f4;have c1:=ht1.stands.c1;have c0:=ht1.stands.c0;obtain ⟨q0,q1,q2,q3,q4⟩:=ht1.lies.cells;obtain ⟨f0,f1,f2,f3,f4⟩:=ht1.lies.frees
         go_wp2_with fail
         go_step3
         have htn:Two w0 (w1.setCell ⟨w0.heap.size,1,none⟩ (.string (s.extract i k))) s k ⟨neg,s.extract i k,.empty,false,.empty⟩:=ht1.write 1 _ rfl
         go_wp2_with fail
         refine (takes_ok s ⟨#[46]⟩ (w0.heap.size+1) k _ htn.stands hlt hs hp).mono ?_;rintro e w2 ⟨rfl,hst2,hup2⟩;have ht2:=htn.step hst2 hup2;clear c1 c0 q0 q1 q2 q3 q4 f0 f1 f2 f3 f4
         go_wp2_with fail
         go_step3
         show ∃ n',n' < _∧AtN w0 s (nu.numeral s) n' 4 _ w2;exact ⟨8*(s.size - (k+1))+2,by omega,k+1,i,neg,s.extract i k,_,_,_,_,_,_,_,_,_,_,_,_,_,_,_,_,_,_,_,_,_,_,_,_,_,_,_,_,_,_,_,_,_,_,_,_,_,_,_,_,_,rfl,by omega,.inr (.inr (.inr (.inr (.inl ⟨rfl,ht2,HR.out,rfl⟩))))⟩
       · have HR:Hid (nu.numeral s=nu.measured s k neg (s.extract i k) .empty):=by
          show nu.numeral s=_;rw [hres];unfold nu.counted;rw [if_neg hz]
         have HZ:Hid ((hk':k < s.size)→Lib.indexByte [46] s[k] < 0):=fun hk'=>by
          have:=mt (nu.idx_one 46 s[k]).1 (fun e=>hz (by rw [nu.at_some s k hk',e]));omega
         clear hz hres;have c1:=ht.stands.c1;have c0:=ht.stands.c0;obtain ⟨q0,q1,q2,q3,q4⟩:=ht.lies.cells;obtain ⟨f0,f1,f2,f3,f4⟩:=ht.lies.frees
         go_wp2_with fail
         refine (takes_not s ⟨#[48,49,50,51,52,53,54,55,56,57]⟩ (w0.heap.size+1) k _ ht.stands hk (uh HP)).mono ?_;rintro e w1 ⟨rfl,hst1,hup1⟩;have ht1:=ht.step hst1 hup1;clear c1 c0 q0 q1 q2 q3 q4 f0 f1 f2 f3 f4;have c1:=ht1.stands.c1;have c0:=ht1.stands.c0;obtain ⟨q0,q1,q2,q3,q4⟩:=ht1.lies.cells;obtain ⟨f0,f1,f2,f3,f4⟩:=ht1.lies.frees
         go_wp2_with fail
         go_step3
         have htn:Two w0 (w1.setCell ⟨w0.heap.size,1,none⟩ (.string (s.extract i k))) s k ⟨neg,s.extract i k,.empty,false,.empty⟩:=ht1.write 1 _ rfl
         go_wp2_with fail
         refine (takes_not s ⟨#[46]⟩ (w0.heap.size+1) k _ htn.stands hk (uh HZ)).mono ?_;rintro e w2 ⟨rfl,hst2,hup2⟩;have ht2:=htn.step hst2 hup2;clear c1 c0 q0 q1 q2 q3 q4 f0 f1 f2 f3 f4
         go_wp2_with fail
         go_step3
         show ∃ n',n' < _∧AtN w0 s (nu.numeral s) n' 5 _ w2;exact ⟨8*(s.size - (k)),by omega,k,i,neg,s.extract i k,_,_,_,_,_,_,_,_,_,_,_,_,_,_,_,_,_,_,_,_,_,_,_,_,_,_,_,_,_,_,_,_,_,_,_,_,_,_,_,_,_,rfl,by omega,.inr (.inr (.inr (.inr (.inr (.inl ⟨rfl,ht2,HR.out,rfl⟩)))))⟩
   · refine ⟨_,rfl,?_⟩
     by_cases hd:∃ hlt:k < s.size,nu.dig s[k]=true
     · obtain ⟨hlt,hd⟩:=hd
       have HR:Hid (nu.numeral s=nu.fraction s k (k+1) neg wh):=by
        show nu.numeral s=_;rw [hres];unfold nu.point;rw [nu.at_some s k hlt];simp [hd]
       have hp:0≤Lib.indexByte [48,49,50,51,52,53,54,55,56,57] s[k]:=(nu.idx_digits s[k]).2 hd;clear hd hres;have c1:=ht.stands.c1;have c0:=ht.stands.c0;obtain ⟨q0,q1,q2,q3,q4⟩:=ht.lies.cells;obtain ⟨f0,f1,f2,f3,f4⟩:=ht.lies.frees
       go_wp2_with fail
       refine (takes_ok s ⟨#[48,49,50,51,52,53,54,55,56,57]⟩ (w0.heap.size+1) k _ ht.stands hlt hs hp).mono ?_;rintro e w2 ⟨rfl,hst2,hup2⟩;have ht2:=ht.step hst2 hup2;clear c1 c0 q0 q1 q2 q3 q4 f0 f1 f2 f3 f4
       go_wp2_with fail
       go_step3
       show ∃ n',n' < _∧AtN w0 s (nu.numeral s) n' 6 _ w2;exact ⟨8*(s.size - (k+1))+1,by omega,k+1,k,neg,wh,_,_,_,_,_,_,_,_,_,_,_,_,_,_,_,_,_,_,_,_,_,_,_,_,_,_,_,_,_,_,_,_,_,_,_,_,_,_,_,_,_,rfl,by omega,.inr (.inr (.inr (.inr (.inr (.inr ⟨rfl,ht2,by omega,HR.out,rfl⟩)))))⟩
     · have HR:Hid (nu.numeral s=none):=by
        show nu.numeral s=_;rw [hres];unfold nu.point
        rcases Nat.lt_or_ge k s.size with h'|h'
        · rw [nu.at_some s k h']
          have hf:∀ h':k < s.size,nu.dig s[k]=false:=fun h'=>by
           cases hx:nu.dig s[k] with
           | false=>rfl
           | true=>exact absurd ⟨h',hx⟩ hd
          simp [hf h']
        · rw [nu.at_none s k (by omega)]
       have HP:Hid ((hk':k < s.size)→Lib.indexByte [48,49,50,51,52,53,54,55,56,57] s[k] < 0):=fun hk'=>by
        have:=mt (nu.idx_digits s[k]).1 (fun e=>hd ⟨hk',e⟩);omega
       clear hd hres;have c1:=ht.stands.c1;have c0:=ht.stands.c0;obtain ⟨q0,q1,q2,q3,q4⟩:=ht.lies.cells;obtain ⟨f0,f1,f2,f3,f4⟩:=ht.lies.frees
       go_wp2_with fail
       refine (takes_not s ⟨#[48,49,50,51,52,53,54,55,56,57]⟩ (w0.heap.size+1) k _ ht.stands hk (uh HP)).mono ?_;rintro e w2 ⟨rfl,hst2,hup2⟩;have ht2:=ht.step hst2 hup2;clear c1 c0 q0 q1 q2 q3 q4 f0 f1 f2 f3 f4;have c1:=ht2.stands.c1;have c0:=ht2.stands.c0;obtain ⟨q0,q1,q2,q3,q4⟩:=ht2.lies.cells;obtain ⟨f0,f1,f2,f3,f4⟩:=ht2.lies.frees;go_wp2;rw [Jumps.ret];have htf:=(((((ht2.write (y:=⟨neg,wh,.empty,false,.empty⟩) 0 (.bool neg) rfl).write (y:=⟨neg,wh,.empty,false,.empty⟩) 1 (.string wh) rfl).write (y:=⟨neg,wh,.empty,false,.empty⟩) 2 (.string .empty) rfl).write (y:=⟨neg,wh,.empty,false,.empty⟩) 3 (.bool false) rfl).write (y:=⟨neg,wh,.empty,false,.empty⟩) 4 (.string .empty) rfl)
       exact bodyPost_ret (ret_num _ _ false htf.lies _ rfl rfl) rfl
        ⟨⟨neg,wh,.empty,false,.empty⟩,false,rfl,htf.below,(fun h=>by cases h),fun _=>HR.out⟩
   · refine ⟨_,rfl,?_⟩
     by_cases he:∃ hlt:k < s.size,(s[k]=101∨s[k]=69)
     · obtain ⟨hlt,he⟩:=he
       have HR:Hid (nu.numeral s=(nu.power s (k+1)).map (fun p=>⟨neg,wh,.empty,p.1,p.2⟩)):=by
        show nu.numeral s=_;rw [hres];unfold nu.measured;rw [nu.at_some s k hlt];simp [he]
       have hp:0≤Lib.indexByte [101,69] s[k]:=(nu.idx_two s[k]).2 he;clear he hres;have c1:=ht.stands.c1;have c0:=ht.stands.c0;obtain ⟨q0,q1,q2,q3,q4⟩:=ht.lies.cells;obtain ⟨f0,f1,f2,f3,f4⟩:=ht.lies.frees;have htn:=ht
       go_wp2_with fail
       refine (takes_ok s ⟨#[101,69]⟩ (w0.heap.size+1) k _ htn.stands hlt hs hp).mono ?_;rintro e w2 ⟨rfl,hst2,hup2⟩;have ht2:=htn.step hst2 hup2;clear c1 c0 q0 q1 q2 q3 q4 f0 f1 f2 f3 f4
       go_wp2_with fail
       refine (power_first w2 (w0.heap.size+1) (k+1) s ht2.stands hlt hs).mono ?_;rintro e w3 ⟨ng,dg,ok,rfl,hup3,hyes,hno⟩;have l3:=ht2.lies.upd hup3 (by omega);have b3:=ht2.below.trans (hup3.below (show w0.heap.size≤w0.heap.size+1 by omega));have HY:=hide hyes;have HN:=hide hno;clear hyes hno;obtain ⟨q0,q1,q2,q3,q4⟩:=l3.cells;obtain ⟨f0,f1,f2,f3,f4⟩:=l3.frees;go_wp2;rw [Jumps.ret];have t3:Two2 w0 w3 ⟨neg,wh,.empty,false,.empty⟩:=⟨b3,l3⟩;have htf:=(((((((t3.write (y:=⟨neg,wh,.empty,ng,.empty⟩) 3 (.bool ng) rfl).write (y:=⟨neg,wh,.empty,ng,dg⟩) 4 (.string dg) rfl).write (y:=⟨neg,wh,.empty,ng,dg⟩) 0 (.bool neg) rfl).write (y:=⟨neg,wh,.empty,ng,dg⟩) 1 (.string wh) rfl).write (y:=⟨neg,wh,.empty,ng,dg⟩) 2 (.string .empty) rfl).write (y:=⟨neg,wh,.empty,ng,dg⟩) 3 (.bool ng) rfl).write (y:=⟨neg,wh,.empty,ng,dg⟩) 4 (.string dg) rfl)
       exact bodyPost_ret (ret_num _ _ ok htf.lies _ rfl rfl) rfl
        ⟨⟨neg,wh,.empty,ng,dg⟩,ok,rfl,htf.below,(fun h=>by rw [HR.out,uh HY h];rfl),fun h=>by rw [HR.out,uh HN h];rfl⟩
     · have HR:Hid (nu.numeral s=if k=s.size then some ⟨neg,wh,.empty,false,.empty⟩ else none):=by
        show nu.numeral s=_;rw [hres];unfold nu.measured
        rcases Nat.lt_or_ge k s.size with h'|h'
        · rw [nu.at_some s k h',if_neg (by omega)]
          have:¬ (s[k]=101∨s[k]=69):=fun e=>he ⟨h',e⟩
          simp [this]
        · rw [nu.at_none s k (by omega),if_pos (by omega)]
       have HZ:Hid ((hk':k < s.size)→Lib.indexByte [101,69] s[k] < 0):=fun hk'=>by
        have:=mt (nu.idx_two s[k]).1 (fun e=>he ⟨hk',e⟩);omega
       clear he hres;have c1:=ht.stands.c1;have c0:=ht.stands.c0;obtain ⟨q0,q1,q2,q3,q4⟩:=ht.lies.cells;obtain ⟨f0,f1,f2,f3,f4⟩:=ht.lies.frees;have htn:=ht
       go_wp2_with fail
       refine (takes_not s ⟨#[101,69]⟩ (w0.heap.size+1) k _ htn.stands hk (uh HZ)).mono ?_;rintro e w2 ⟨rfl,hst2,hup2⟩;have ht2:=htn.step hst2 hup2;clear c1 c0 q0 q1 q2 q3 q4 f0 f1 f2 f3 f4;have c1:=ht2.stands.c1;have c0:=ht2.stands.c0;obtain ⟨q0,q1,q2,q3,q4⟩:=ht2.lies.cells;obtain ⟨f0,f1,f2,f3,f4⟩:=ht2.lies.frees
       go_wp2_with fail
       go_region_with (go_at_call 202;refine (ended_any s (w0.heap.size+1) k _ (by exact c0) (by exact c1)).mono ?_;rintro e w3 ⟨rfl,nd,rfl⟩)
       all_goals go_wp2
       all_goals rw [Jumps.ret]
       all_goals
        have htd:Two2 w0 (w2.drewN (1+nd)) ⟨neg,wh,.empty,false,.empty⟩:=⟨ht2.below.trans ((Upd.drewN w0.heap.size w2 (1+nd)).below (Nat.le_refl _)),ht2.lies⟩;have htf:=(((((htd.write (y:=⟨neg,wh,.empty,false,.empty⟩) 0 (.bool neg) rfl).write (y:=⟨neg,wh,.empty,false,.empty⟩) 1 (.string wh) rfl).write (y:=⟨neg,wh,.empty,false,.empty⟩) 2 (.string .empty) rfl).write (y:=⟨neg,wh,.empty,false,.empty⟩) 3 (.bool false) rfl).write (y:=⟨neg,wh,.empty,false,.empty⟩) 4 (.string .empty) rfl)
        refine bodyPost_ret (ret_num _ _ ((k:Int) == (s.size:Int)) htf.lies _ rfl rfl) rfl
         ⟨⟨neg,wh,.empty,false,.empty⟩,_,rfl,htf.below,?_,?_⟩
        · intro h
          have h':(k:Int)=s.size:=by simpa using h
          rw [HR.out,if_pos (by omega)]
        · intro h
          have h':¬ (k:Int)=s.size:=by simpa using h
          rw [HR.out,if_neg (by omega)]
   · refine ⟨_,rfl,?_⟩
     by_cases hd:∃ hlt:k < s.size,nu.dig s[k]=true
     · obtain ⟨hlt,hd⟩:=hd
       have HR:Hid (nu.numeral s=nu.fraction s i (k+1) neg wh):=by
        show nu.numeral s=_;rw [hres];unfold nu.fraction;rw [nu.nd_yes s k hlt hd,show k+(nu.nd s (k+1)+1)=k+1+nu.nd s (k+1) by omega]
       have hp:0≤Lib.indexByte [48,49,50,51,52,53,54,55,56,57] s[k]:=(nu.idx_digits s[k]).2 hd;clear hd hres
       go_wp2_with fail
       refine (takes_ok s ⟨#[48,49,50,51,52,53,54,55,56,57]⟩ (w0.heap.size+1) k _ ht.stands hlt hs hp).mono ?_;rintro e w2 ⟨rfl,hst2,hup2⟩;have ht2:=ht.step hst2 hup2
       go_wp2_with fail
       go_step3
       show ∃ n',n' < _∧AtN w0 s (nu.numeral s) n' 6 _ w2;exact ⟨8*(s.size - (k+1))+1,by omega,k+1,i,neg,wh,_,_,_,_,_,_,_,_,_,_,_,_,_,_,_,_,_,_,_,_,_,_,_,_,_,_,_,_,_,_,_,_,_,_,_,_,_,_,_,_,_,rfl,by omega,.inr (.inr (.inr (.inr (.inr (.inr ⟨rfl,ht2,by omega,HR.out,rfl⟩)))))⟩
     · have hn:nu.nd s k=0:=by
        rcases Nat.lt_or_ge k s.size with h'|h'
        · have hf:nu.dig s[k]=false:=by
           cases hx:nu.dig s[k] with
           | false=>rfl
           | true=>exact absurd ⟨h',hx⟩ hd
          exact nu.nd_no s k h' hf
        · exact nu.nd_end s k (by omega)
       have HP:Hid ((hk':k < s.size)→Lib.indexByte [48,49,50,51,52,53,54,55,56,57] s[k] < 0):=fun hk'=>by
        have:=mt (nu.idx_digits s[k]).1 (fun e=>hd ⟨hk',e⟩);omega
       have hres2:nu.numeral s=nu.measured s k neg wh (s.extract i k):=by rw [hres];unfold nu.fraction;rw [hn,Nat.add_zero]
       clear hres hn hd;have hres:=hres2;clear hres2
       by_cases he:∃ hlt:k < s.size,(s[k]=101∨s[k]=69)
       · obtain ⟨hlt,he⟩:=he
         have HR:Hid (nu.numeral s=(nu.power s (k+1)).map (fun p=>⟨neg,wh,(s.extract i k),p.1,p.2⟩)):=by
          show nu.numeral s=_;rw [hres];unfold nu.measured;rw [nu.at_some s k hlt];simp [he]
         have hp:0≤Lib.indexByte [101,69] s[k]:=(nu.idx_two s[k]).2 he;clear he hres;have c1:=ht.stands.c1;have c0:=ht.stands.c0;obtain ⟨q0,q1,q2,q3,q4⟩:=ht.lies.cells;obtain ⟨f0,f1,f2,f3,f4⟩:=ht.lies.frees
         go_wp2_with fail
         refine (takes_not s ⟨#[48,49,50,51,52,53,54,55,56,57]⟩ (w0.heap.size+1) k _ ht.stands hk (uh HP)).mono ?_;rintro e w1 ⟨rfl,hst1,hup1⟩;have ht1:=ht.step hst1 hup1;clear c1 c0 q0 q1 q2 q3 q4 f0 f1 f2 f3 f4;have c1:=ht1.stands.c1;have c0:=ht1.stands.c0;obtain ⟨q0,q1,q2,q3,q4⟩:=ht1.lies.cells;obtain ⟨f0,f1,f2,f3,f4⟩:=ht1.lies.frees
         go_wp2_with fail
         go_step3
         have htn:Two w0 (w1.setCell ⟨w0.heap.size,2,none⟩ (.string (s.extract i k))) s k ⟨neg,wh,s.extract i k,false,.empty⟩:=ht1.write 2 _ rfl
         go_wp2_with fail
         refine (takes_ok s ⟨#[101,69]⟩ (w0.heap.size+1) k _ htn.stands hlt hs hp).mono ?_;rintro e w2 ⟨rfl,hst2,hup2⟩;have ht2:=htn.step hst2 hup2;clear c1 c0 q0 q1 q2 q3 q4 f0 f1 f2 f3 f4
         go_wp2_with fail
         refine (power_first w2 (w0.heap.size+1) (k+1) s ht2.stands hlt hs).mono ?_;rintro e w3 ⟨ng,dg,ok,rfl,hup3,hyes,hno⟩;have l3:=ht2.lies.upd hup3 (by omega);have b3:=ht2.below.trans (hup3.below (show w0.heap.size≤w0.heap.size+1 by omega));have HY:=hide hyes;have HN:=hide hno;clear hyes hno;obtain ⟨q0,q1,q2,q3,q4⟩:=l3.cells;obtain ⟨f0,f1,f2,f3,f4⟩:=l3.frees;go_wp2;rw [Jumps.ret];have t3:Two2 w0 w3 ⟨neg,wh,(s.extract i k),false,.empty⟩:=⟨b3,l3⟩;have htf:=(((((((t3.write (y:=⟨neg,wh,(s.extract i k),ng,.empty⟩) 3 (.bool ng) rfl).write (y:=⟨neg,wh,(s.extract i k),ng,dg⟩) 4 (.string dg) rfl).write (y:=⟨neg,wh,(s.extract i k),ng,dg⟩) 0 (.bool neg) rfl).write (y:=⟨neg,wh,(s.extract i k),ng,dg⟩) 1 (.string wh) rfl).write (y:=⟨neg,wh,(s.extract i k),ng,dg⟩) 2 (.string (s.extract i k)) rfl).write (y:=⟨neg,wh,(s.extract i k),ng,dg⟩) 3 (.bool ng) rfl).write (y:=⟨neg,wh,(s.extract i k),ng,dg⟩) 4 (.string dg) rfl)
         exact bodyPost_ret (ret_num _ _ ok htf.lies _ rfl rfl) rfl
          ⟨⟨neg,wh,(s.extract i k),ng,dg⟩,ok,rfl,htf.below,(fun h=>by rw [HR.out,uh HY h];rfl),fun h=>by rw [HR.out,uh HN h];rfl⟩
       · have HR:Hid (nu.numeral s=if k=s.size then some ⟨neg,wh,(s.extract i k),false,.empty⟩ else none):=by
          show nu.numeral s=_;rw [hres];unfold nu.measured
          rcases Nat.lt_or_ge k s.size with h'|h'
          · rw [nu.at_some s k h',if_neg (by omega)]
            have:¬ (s[k]=101∨s[k]=69):=fun e=>he ⟨h',e⟩
            simp [this]
          · rw [nu.at_none s k (by omega),if_pos (by omega)]
         have HZ:Hid ((hk':k < s.size)→Lib.indexByte [101,69] s[k] < 0):=fun hk'=>by
          have:=mt (nu.idx_two s[k]).1 (fun e=>he ⟨hk',e⟩);omega
         clear he hres;have c1:=ht.stands.c1;have c0:=ht.stands.c0;obtain ⟨q0,q1,q2,q3,q4⟩:=ht.lies.cells;obtain ⟨f0,f1,f2,f3,f4⟩:=ht.lies.frees
         go_wp2_with fail
         refine (takes_not s ⟨#[48,49,50,51,52,53,54,55,56,57]⟩ (w0.heap.size+1) k _ ht.stands hk (uh HP)).mono ?_;rintro e w1 ⟨rfl,hst1,hup1⟩;have ht1:=ht.step hst1 hup1;clear c1 c0 q0 q1 q2 q3 q4 f0 f1 f2 f3 f4;have c1:=ht1.stands.c1;have c0:=ht1.stands.c0;obtain ⟨q0,q1,q2,q3,q4⟩:=ht1.lies.cells;obtain ⟨f0,f1,f2,f3,f4⟩:=ht1.lies.frees
         go_wp2_with fail
         go_step3
         have htn:Two w0 (w1.setCell ⟨w0.heap.size,2,none⟩ (.string (s.extract i k))) s k ⟨neg,wh,s.extract i k,false,.empty⟩:=ht1.write 2 _ rfl
         go_wp2_with fail
         refine (takes_not s ⟨#[101,69]⟩ (w0.heap.size+1) k _ htn.stands hk (uh HZ)).mono ?_;rintro e w2 ⟨rfl,hst2,hup2⟩;have ht2:=htn.step hst2 hup2;clear c1 c0 q0 q1 q2 q3 q4 f0 f1 f2 f3 f4;have c1:=ht2.stands.c1;have c0:=ht2.stands.c0;obtain ⟨q0,q1,q2,q3,q4⟩:=ht2.lies.cells;obtain ⟨f0,f1,f2,f3,f4⟩:=ht2.lies.frees
         go_wp2_with fail
         go_region_with (go_at_call 202;refine (ended_any s (w0.heap.size+1) k _ (by exact c0) (by exact c1)).mono ?_;rintro e w3 ⟨rfl,nd,rfl⟩)
         all_goals go_wp2
         all_goals rw [Jumps.ret]
         all_goals
          have htd:Two2 w0 (w2.drewN (1+nd)) ⟨neg,wh,(s.extract i k),false,.empty⟩:=⟨ht2.below.trans ((Upd.drewN w0.heap.size w2 (1+nd)).below (Nat.le_refl _)),ht2.lies⟩;have htf:=(((((htd.write (y:=⟨neg,wh,(s.extract i k),false,.empty⟩) 0 (.bool neg) rfl).write (y:=⟨neg,wh,(s.extract i k),false,.empty⟩) 1 (.string wh) rfl).write (y:=⟨neg,wh,(s.extract i k),false,.empty⟩) 2 (.string (s.extract i k)) rfl).write (y:=⟨neg,wh,(s.extract i k),false,.empty⟩) 3 (.bool false) rfl).write (y:=⟨neg,wh,(s.extract i k),false,.empty⟩) 4 (.string .empty) rfl)
          refine bodyPost_ret (ret_num _ _ ((k:Int) == (s.size:Int)) htf.lies _ rfl rfl) rfl
           ⟨⟨neg,wh,(s.extract i k),false,.empty⟩,_,rfl,htf.below,?_,?_⟩
          · intro h
            have h':(k:Int)=s.size:=by simpa using h
            rw [HR.out,if_pos (by omega)]
          · intro h
            have h':¬ (k:Int)=s.size:=by simpa using h
            rw [HR.out,if_neg (by omega)]
def pstep (e:Int) (c:UInt8):Int:=if e < 1099511627776 then e*10+((c.toNat:Int) - 48) else e
def psize (l:List UInt8):Int:=l.foldl pstep 0
def expo (x:nu.Num):Int:=(if x.pn then - psize x.pw.data.toList else psize x.pw.data.toList) - x.fr.size
theorem pstep_bd (e:Int) (c:UInt8) (h0:0≤e) (h1:e≤10995116277770) (hc:48≤c.toNat∧c.toNat≤57):0≤pstep e c∧pstep e c≤10995116277770:=by
 unfold pstep;split <;> omega
theorem psize_snoc (l:List UInt8) (c:UInt8):psize (l++[c])=pstep (psize l) c:=by
 unfold psize;rw [List.foldl_append];rfl
theorem psize_bd (l:List UInt8) (h:∀ c∈l,nu.dig c=true):0≤psize l∧psize l≤10995116277770:=by
 have key:∀ (l:List UInt8) (e:Int),(∀ c∈l,nu.dig c=true)→0≤e→e≤10995116277770→0≤l.foldl pstep e∧l.foldl pstep e≤10995116277770:=by
  intro l
  induction l with
  | nil=>intro e _ h0 h1;exact ⟨h0,h1⟩
  | cons c r ih =>
    intro e hl h0 h1
    have hc:48≤c.toNat∧c.toNat≤57:=by
     have:=hl c (by simp);simpa [nu.dig] using this
    have hb:=pstep_bd e c h0 h1 hc;exact ih (pstep e c) (fun c' hc'=>hl c' (by simp [hc'])) hb.1 hb.2
 exact key l 0 h (by omega) (by omega)
theorem take_snoc (s:ByteArray) (k:Nat) (h:k < s.size):s.data.toList.take (k+1)=s.data.toList.take k++[s[k]]:=by
 rw [List.take_succ_eq_append_getElem (by simpa using h)];rfl
theorem take_all (s:ByteArray):s.data.toList.take s.size=s.data.toList:=List.take_of_length_le (by simp)
theorem ret_int {k:IntKind}{a b:Int} (h:a=b):Ending.returned (.int k a)=.returned (.int k b):=by rw [h]
set_option maxRecDepth 100000 in
set_option maxHeartbeats 400000 in
theorem exponent_any (x:nu.Num) (w:World) (hp:∀ c∈x.pw.data.toList,nu.dig c=true) (hs:x.pw.size≤4611686018427387904) (hf:x.fr.size≤4611686018427387904) :
 Calls Tryz.prog 188 #[.agg #[.bool x.neg,.string x.wh,.string x.fr,.bool x.pn,.string x.pw]] w fun e w'=>e=.returned (.int .i64 (expo x))∧Below w.heap.size w w':=by
 obtain ⟨neg,wh,fr,pn,pw⟩:=x;simp only at hp hs hf ⊢;have HE:Hid (expo ⟨neg,wh,fr,pn,pw⟩=(if pn then - psize pw.data.toList else psize pw.data.toList) - fr.size):=rfl;generalize expo ⟨neg,wh,fr,pn,pw⟩=ex at HE ⊢;have HP:=hide hp;clear hp
 go_enter Tryz.func188,Tryz.ntmps188
 go_wp2
 go_loop [3,8] (fun e i=>∃ k:Nat,k≤pw.size∧i=.int .i64 k∧e=.int .i64 (psize (pw.data.toList.take k))) (fun _ i=>pw.size - (intOf i).toNat)
 case atStart=>exact ⟨0,Nat.zero_le _,rfl,rfl⟩
 case round =>
  obtain ⟨k,hk,rfl,rfl⟩:=hrel;have hb:=psize_bd (pw.data.toList.take k) (fun c hc=>uh HP c (List.mem_of_mem_take hc))
  by_cases hlt:k < pw.size
  · have hm:pw[k]∈pw.data.toList:=by
     have h':k < pw.data.toList.length:=by simpa using hlt
     exact List.getElem_mem h'
    have hc:48≤pw[k].toNat∧pw[k].toNat≤57:=by
     have:=uh HP _ hm;simpa [nu.dig] using this
    obtain ⟨hc1,hc2⟩:=hc;have hc1':(48:Int)≤(pw[k].toNat:Int):=by omega
    have hc2':(pw[k].toNat:Int)≤57:=by omega
    clear hm hc1 hc2
    have HS:Hid (psize (pw.data.toList.take (k+1))=pstep (psize (pw.data.toList.take k)) pw[k]):=by
     show psize _=_;rw [take_snoc pw k hlt,psize_snoc]
    by_cases hfar:psize (pw.data.toList.take k) < 1099511627776
    · go_wp2
      go_round
      case rel=>exact ⟨k+1,by omega,by go_num,by rw [HS.out];unfold pstep;rw [if_pos hfar]⟩
      case measure=>simp [intOf];omega
    · go_wp2
      go_round
      case rel=>exact ⟨k+1,by omega,by go_num,by rw [HS.out];unfold pstep;rw [if_neg hfar]⟩
      case measure=>simp [intOf];omega
  · obtain rfl:k=pw.size:=by omega
    rw [take_all] at hb ⊢
    cases pn
    · go_wp2
      go_ret;refine ⟨ret_int ?_,(Below.refl _ _).alloc (Nat.le_refl _) _⟩;rw [HE.out];simp
    · go_wp2
      go_ret;refine ⟨ret_int ?_,(Below.refl _ _).alloc (Nat.le_refl _) _⟩;rw [HE.out];simp
end Go.Proofs.YthnhobplgmojeaaGreatDoor.rd
