/- Texts in one: Tx Df Cm -/
import Derived.Test.YthnhobplgmojeaaGreatDoorToP
import Derived.Lib.AppendIntMem
import Derived.Lib.ItoaNum
import Derived.Lib.Bytealg
namespace Go.Proofs.YthnhobplgmojeaaGreatDoor.rd
open Go.RowKit
def itoaB (n:Int):ByteArray:=⟨(Lib.itoa n).toArray⟩
theorem dec_len (u:Nat):(Lib.decDigits u).length≤u+1:=by
 induction u using Nat.strongRecOn with
 | _ u ih =>
   rw [Lib.decDigits]
   split
   · simp
   · rw [List.length_append]
     have:=ih (u / 10) (by omega);simp;omega
theorem itoaB_len (n:Int) (h0:-9999≤n) (h1:n≤9999):(itoaB n).size≤20000:=by
 have e:(itoaB n).size=(Lib.itoa n).length:=by unfold itoaB;exact List.size_toArray
 rw [e];unfold Lib.itoa
 split
 · have:=dec_len n.natAbs
   simp;omega
 · have:=dec_len n.toNat
   omega
def textOf (r:Dn):ByteArray :=
 if r.dg.size=0 then ⟨#[48]⟩
 else if r.ex=0 then (if r.neg then ⟨#[45]⟩++r.dg else r.dg)
 else (if r.neg then ⟨#[45]⟩++r.dg else r.dg)++(⟨#[101]⟩++itoaB r.ex)
def Pow (w:World):Prop:=Lib.TabIs Tryz.prog w "internal/strconv.uint64pow10" .u64 Lib.pow10Tab
theorem Pow.keep {w w':World} (h:Pow w) (hb:Below w.heap.size w w'):Pow w':=Lib.tabBelow_of_tabIs h w' hb
theorem itoa_any (n:Int) (w:World) (h0:-9999≤n) (h1:n≤9999) (hp:Pow w) :
 Calls Tryz.prog 100 #[.int .i64 n] w fun e w'=>e=.returned (.string (itoaB n))∧Below w.heap.size w w' :=
 (Tryz.strconv_Itoa n (by omega) (by omega) w hp).mono fun _ _ ⟨he,k,os,hw⟩=>⟨he,by subst hw;exact Lib.below_grow w.heap.size w (Nat.le_refl _) k os⟩
set_option maxRecDepth 100000 in
set_option maxHeartbeats 1600000 in
theorem text_any (d:Dn) (w:World) (hs:d.dg.size≤1099511627776) (h0:-9223372036854775808≤d.ex) (h1:d.ex≤9223372036854775807) (hp:Pow w) :
 Calls Tryz.prog 93 #[dv d] w fun e w'=>e=.returned (.string (textOf (norm d)))∧Below w.heap.size w w':=by
 have gd:=norm_good d;have c1:=fun w=>norm_any d w (by omega) h0 h1
 obtain ⟨n,g,x⟩:=d;generalize norm ⟨n,g,x⟩=r at *;obtain ⟨rn,rg,rx⟩:=r;simp only [dv] at c1 gd hs ⊢;obtain ⟨gd1,gd2,gd3,_⟩:=gd;have C1:=hide c1;have HP:=hide hp;have HX:Hid (textOf ⟨rn,rg,rx⟩=if rg.size=0 then ⟨#[48]⟩ else if rx=0 then (if rn then ⟨#[45]⟩++rg else rg) else (if rn then ⟨#[45]⟩++rg else rg)++(⟨#[101]⟩++itoaB rx)):=rfl;generalize textOf ⟨rn,rg,rx⟩=res at HX ⊢;clear c1 hp h0 h1
 go_enter Tryz.func93,Tryz.ntmps93
 go_wp2_with fail
 refine (uh C1 _).mono ?_;rintro e w1 ⟨rfl,hb1⟩;have hz1:w.heap.size < w1.heap.size:=by have:=hb1.size;simp at this;omega
 have hbb:Below w.heap.size w w1:=((Below.refl _ _).alloc (Nat.le_refl _) _).trans (hb1.mono (by simp));clear C1 hb1
 by_cases hz:rg.size=0
 · have hz':rg.toList.isEmpty=true:=by rw [empty_iff];simpa using hz
   have HR:Hid (res=⟨#[48]⟩):=by show res=_;rw [HX.out,if_pos hz]
   clear hz HX;go_wp2;go_ret;exact ⟨by rw [HR.out];rfl,hbb.alloc (by omega) _⟩
 · have hz':rg.toList.isEmpty=false:=by rw [empty_iff];simpa using hz
   have im:(⟨#[45]⟩:ByteArray).size=1:=rfl;have hcm:∀ u:World,(Op.stringOp .add ⟨#[45]⟩ rg).run Tryz.prog u=.ok (.string (⟨#[45]⟩++rg)) u:=fun u=>run_string_add_sum u _ _ (by omega)
   have hms:((⟨#[45]⟩:ByteArray)++rg).size=rg.size+1:=by rw [ByteArray.size_append,im];omega
   clear im
   by_cases hx0:rx=0
   · have hx':(rx != 0)=false:=by simp [hx0]
     cases rn
     · have HR:Hid (res=rg):=by show res=_;rw [HX.out,if_neg hz,if_pos hx0];rfl
       clear hx0 hz HX;go_wp2;go_ret;exact ⟨by rw [HR.out];rfl,hbb.alloc (by omega) _⟩
     · have HR:Hid (res=⟨#[45]⟩++rg):=by show res=_;rw [HX.out,if_neg hz,if_pos hx0];rfl
       clear hx0 hz HX;generalize ((⟨#[45]⟩:ByteArray)++rg)=mg at *;go_wp2;go_ret;exact ⟨by rw [HR.out];rfl,hbb.alloc (by omega) _⟩
   · have hx':(rx != 0)=true:=by simp [hx0]
     have hil:=itoaB_len rx gd2 gd3;have ci:=fun w h=>itoa_any rx w gd2 gd3 h
     have HC:=hide ci;clear ci;have hpow:Pow (w1.alloc (.cells #[.bool rn,.string rg,.int .i64 rx] 24)):=(Pow.keep (uh HP) hbb).keep ((Below.refl _ _).alloc (Nat.le_refl _) _);have HPW:=hide hpow;clear hpow HP
     cases rn
     · have HR:Hid (res=rg++(⟨#[101]⟩++itoaB rx)):=by show res=_;rw [HX.out,if_neg hz,if_neg hx0];rfl
       clear hx0 hz HX;generalize itoaB rx=ib at *;generalize hmg:rg=mg at *;have i1:(⟨#[101]⟩:ByteArray).size=1:=rfl;have hc1:∀ u:World,(Op.stringOp .add ⟨#[101]⟩ ib).run Tryz.prog u=.ok (.string (⟨#[101]⟩++ib)) u:=fun u=>run_string_add_sum u _ _ (by omega)
       have i2:((⟨#[101]⟩:ByteArray)++ib).size=1+ib.size:=by rw [ByteArray.size_append,i1]
       generalize ((⟨#[101]⟩:ByteArray)++ib)=eb at *;have hc2:∀ u:World,(Op.stringOp .add mg eb).run Tryz.prog u=.ok (.string (mg++eb)) u:=fun u=>run_string_add_sum u _ _ (by omega)
       clear hmg
       go_wp2_with fail
       refine (uh HC _ (uh HPW)).mono ?_;rintro e w2 ⟨rfl,hb2⟩;go_wp2;go_ret;exact ⟨by rw [HR.out];rfl,(hbb.alloc (by omega) _).trans (hb2.mono (by simp;omega))⟩
     · have HR:Hid (res=⟨#[45]⟩++rg++(⟨#[101]⟩++itoaB rx)):=by show res=_;rw [HX.out,if_neg hz,if_neg hx0];rfl
       clear hx0 hz HX;generalize itoaB rx=ib at *;generalize ((⟨#[45]⟩:ByteArray)++rg)=mg at *;have i1:(⟨#[101]⟩:ByteArray).size=1:=rfl;have hc1:∀ u:World,(Op.stringOp .add ⟨#[101]⟩ ib).run Tryz.prog u=.ok (.string (⟨#[101]⟩++ib)) u:=fun u=>run_string_add_sum u _ _ (by omega)
       have i2:((⟨#[101]⟩:ByteArray)++ib).size=1+ib.size:=by rw [ByteArray.size_append,i1]
       generalize ((⟨#[101]⟩:ByteArray)++ib)=eb at *;have hc2:∀ u:World,(Op.stringOp .add mg eb).run Tryz.prog u=.ok (.string (mg++eb)) u:=fun u=>run_string_add_sum u _ _ (by omega)
       go_wp2_with fail
       refine (uh HC _ (uh HPW)).mono ?_;rintro e w2 ⟨rfl,hb2⟩;go_wp2;go_ret;exact ⟨by rw [HR.out];rfl,(hbb.alloc (by omega) _).trans (hb2.mono (by simp;omega))⟩
structure Vars (w:World) (eN eX:Value):Prop where
 n:w.cell? ⟨7,0,none⟩=some eN
 x:w.cell? ⟨12,0,none⟩=some eX
def cmpN:List Int→List Int→Int
 | a::x,b::y=>if a < b then -1 else if b < a then 1 else cmpN x y
 | _,_=>0
def sizeN (a b:List Int):Int :=
 if (cutN a).length < (cutN b).length then -1 else if (cutN b).length < (cutN a).length then 1 else cmpN (cutN a).reverse (cutN b).reverse
def linedN (n:Dn) (e:Int):List Int:=List.replicate (n.ex - e).toNat 0++cutN (dl n.dg 0)
def lowerN (p q:Dn):Int:=if p.dg.size=0 then q.ex else if q.dg.size=0∨p.ex < q.ex then p.ex else q.ex
def signN (n:Dn):Int:=if n.dg.size=0 then 0 else if n.neg then -1 else 1
def topN (n:Dn):Int:=n.dg.size+n.ex
def cmpS (p q:Dn):Int:=if topN p < topN q then -1 else if topN q < topN p then 1 else Lib.compareBytes p.dg.data.toList q.dg.data.toList
def decCmp (p q:Dn):Int:=if signN p < signN q then -1 else if signN q < signN p then 1 else if p.neg then cmpS q p else cmpS p q
def refCmp (p q:Dn):Int:=if signN p < signN q then -1 else if signN q < signN p then 1 else signN p*sizeN (linedN p (lowerN p q)) (linedN q (lowerN p q))
structure Formed (n:Dn):Prop where
 dig:AllDig n.dg
 ne:n.dg.data.toList≠[]
 hd:∀ c,n.dg.data.toList.head?=some c→c≠48
 la:∀ c,n.dg.data.toList.getLast?=some c→c≠48
 e0:-9999≤n.ex
 e1:n.ex≤9999
theorem head_dropW (l:List UInt8) (c:UInt8) (h:(l.dropWhile (· == 48)).head?=some c):c≠48:=by
 intro e;subst e
 induction l with
 | nil=>simp at h
 | cons a r ih =>
   rw [List.dropWhile_cons] at h
   split at h
   · exact ih h
   · rename_i hn
     simp at h;subst h;simp at hn
theorem oneForm_formed (neg:Bool) (s:ByteArray) (ex:Int) (hd:AllDig s):(oneForm neg s ex).1=zed∨Formed (oneForm neg s ex).1:=by
 have good:=oneForm_good neg s ex hd;unfold oneForm at good ⊢
 by_cases h1:(trimR (trimL s)).size=0
 · rw [if_pos h1];exact .inl rfl
 · rw [if_neg h1] at good ⊢
   by_cases h2:9999 < ex
   · rw [if_pos h2];exact .inl rfl
   · rw [if_neg h2] at good ⊢
     by_cases h3:ex+((trimL s).size - (trimR (trimL s)).size) < -9999∨9999 < ex+((trimL s).size - (trimR (trimL s)).size)
     · rw [if_pos h3];exact .inl rfl
     · rw [if_neg h3] at good ⊢
       refine .inr ⟨good.2.2.2,?_,?_,?_,good.2.1,good.2.2.1⟩
       · intro e
         apply h1;have:(trimR (trimL s)).data.toList.length=(trimR (trimL s)).size:=by rw [Array.length_toList];rfl
         rw [← this];simp only at e;rw [e];rfl
       · intro c hc
         simp only at hc;have e1:(trimR (trimL s)).data.toList=(((s.data.toList.dropWhile (· == 48)).reverse).dropWhile (· == 48)).reverse:=rfl;rw [e1] at hc;have pre:=List.reverse_prefix.2 (List.dropWhile_suffix (l:=(s.data.toList.dropWhile (· == 48)).reverse) (fun x:UInt8=>x == 48));rw [List.reverse_reverse] at pre;obtain ⟨t,ht⟩:=pre;refine head_dropW s.data.toList c ?_;rw [← ht,List.head?_append,hc];rfl
       · intro c hc
         simp only at hc;have e1:(trimR (trimL s)).data.toList=(((s.data.toList.dropWhile (· == 48)).reverse).dropWhile (· == 48)).reverse:=rfl;rw [e1,List.getLast?_reverse] at hc;exact head_dropW _ c hc
theorem Formed.pos {n:Dn} (h:Formed n):n.dg.size≠0:=by
 intro e;have zp:n.dg.data.toList.length=n.dg.size:=by rw [Array.length_toList];rfl
 exact h.ne (List.eq_nil_of_length_eq_zero (by omega))
def Whole1 (n:Dn):Prop:=n=zed∨Formed n
end Go.Proofs.YthnhobplgmojeaaGreatDoor.rd
