import Derived.Test.YtkcnageeamappaaGreatDoorXLaid
import Derived.Test.YtkcnageeamappaaGreatDoorXQ13
set_option maxHeartbeats 32000000
set_option maxRecDepth 8000
set_option linter.unusedSimpArgs false
namespace Go.Proofs.YtkcnageeamappaaGreatDoor
open Go.Moor Go.Proofs.Tryz Go.ChangeShapes Go.WideShapes Go.ChangeAt Go.RowKit Go.Moor
def tab64:List Int:=[0,1,56,2,57,49,28,3,61,58,42,50,38,29,17,4,62,47,59,36,45,43,51,22,53,39,33,30,24,18,12,5,63,55,48,27,60,41,37,16,46,35,44,21,52,32,23,11,54,26,40,15,34,20,31,10,25,14,19,9,13,8,7,6]
theorem xn:prog.globalNamed "math/bits.deBruijn64tab" =some 28:=by kernel_rfl
theorem GG:(prog.globals[28]?).map (·.type)=some 313:=by kernel_rfl
theorem rS:prog.cellsOf 5=1:=by kernel_rfl
theorem GH:prog.cellsOf 313=64:=by kernel_rfl
theorem GI:(Rows.laid_math_bits_deBruijn64tab:DataW Unit)=Lib.tabData .u8 tab64:=by kernel_rfl
theorem GJ {W:World} (h:Lib.VarReads prog W "math/bits.deBruijn64tab" Rows.laid_math_bits_deBruijn64tab):Tz W:=by obtain⟨i,g,f,fuel,p,b,e,c,a⟩:=h;obtain rfl:=eh (xn.symm.trans b);obtain rfl:=eh (GG.symm.trans e);rw[GI] at a;have d:=qS underlying313 underlying5 rS GH a;show _=_;rw[lH xn c 15,<-jK,d];rfl
end Go.Proofs.YtkcnageeamappaaGreatDoor
namespace Go.Proofs
open Go.RowKit Go.Moor Go.Proofs.Tryz Go.Moor
def vG (n:Int) (v:Value):Prop:=
 (∃(x y:ByteArray) (te:TypeId) (ve:Value),v=.iface 96 (.agg #[.int .i64 n,.string x,.string y,.iface te ve]))\/
 (∃(z x y:ByteArray) (te:TypeId) (ve:Value),v=.iface 104 (.agg #[.string z,.iface 96 (.agg #[.int .i64 n,.string x,.string y,.iface te ve])]))
def gs (o:Except Int Adr) (e:Ending) (w':World):Prop:=
 match o with
 | .error n=>∃v,e=.returned (.tuple #[.agg ag,v])/\vG n v
 | .ok a=>∃v,e=.returned (.tuple #[.agg (av a v),.nilIface])/\bh w' v a.w.g
theorem vH {l:Bs} {o:Except Int Adr} {e:Ending} {w':World} (h:ns l o e w'):gs o e w':=by
 cases o with
 |error n=>obtain⟨x,y,c,b,rfl⟩:=h;exact⟨_,rfl,.inr ⟨_,x,y,c,b,rfl⟩⟩
 |ok a=>exact h
theorem oZ {o:Except Int Adr} {e:Ending} {w':World} (h:gs o e w'):∃b v,e=.returned (.tuple #[.agg b,v])/\b.size=13/\b.all (·.oneCell')=true:=by
 cases o with
 |error n=>obtain⟨v,rfl,f⟩:=h;exact⟨_,_,rfl,rfl,jM⟩
 |ok a=>obtain⟨v,rfl,⟨c,d,rfl,_⟩,_⟩:=h;exact⟨_,_,rfl,rfl,iP _ _ rfl⟩
theorem DC {o:Except Int Adr} {e:Ending} {w':World} (h:gs o e w') (g:Nat) (d b:Array Value) (k:w'.heap[g]?=some (.cells d 77 (0,0))):gs o e (w'.setRow g b):=by
 cases o with
 |error n=>exact h
 |ok a=>obtain⟨v,rfl,c⟩:=h;refine⟨v,rfl,?_⟩;have l:=iO c.2 k (by decide);have i:But g w' (w'.setRow g b):=⟨rfl,rfl,rfl,by simp,λj _ f=>setRow_other w' g b j f⟩;exact gp c i l
theorem DD (B:Nat) (w:World) (k:w.heap.size<=B) (c:Except Int Adr) (e:Ending) (b:World) (h:gs c e b/\Bl w b/\b.heap[B]?=some (.cells ag 77 (0,0))):∃a v,e=.returned (.tuple #[.agg a,v])/\Hid (b.heap[B]?=some (.cells ag 77 (0,0)))/\Hid ((prog.info? 77).map (·.size)=some a.size)/\Hid (ag.size=a.size)/\Hid (a.all (·.oneCell')=true)/\Hid (gs c (.returned (.tuple #[.agg a,v])) (b.setRow B a)/\Bl w (b.setRow B a)):=by obtain⟨g,j,d⟩:=h;obtain⟨a,v,rfl,f,i⟩:=oZ g;exact⟨a,v,rfl,d,(by show _=_;rw[f];exact cD),(by show _=_;rw[f];rfl),i,DC g _ _ a d,aZ j k _⟩
theorem DE (l b:Bs) (w:World) (hl:l.length<=2000) (hb:b.length<=2000) (henv:Env2 w):Calls prog 35 #[.string ⟨l.toArray⟩,.string ⟨b.toArray⟩] w fun e w'=>gs (eC hostTell l b) e w'/\Bl w w':=by
 obtain⟨W,hW⟩:=am (w.alloc (.cells ag 77));have hBW:Bl w W:=by rw[hW];exact(ai _ _).alloc (aG _) _
 have HBW:=hI hBW;have hsize:W.heap.size=w.heap.size+1:=by rw[hW];simp
 have HSZ:=hI hsize;have hz0:W.heap[w.heap.size]?=some (.cells ag 77 (0,0)):=by rw[hW];exact cj w _ _
 have HZ:Hid (∀w1,Bl W w1->w1.heap[w.heap.size]?=some (.cells ag 77 (0,0))/\Bl w w1):=fun w1 h1=>⟨(h1.block _ (by omega)).trans hz0,HBW.out.trans (h1.mono (by omega))⟩;have HR:Hid (∀(x:Bs) (ob:Option Adr) (bp:Option Go.Addr) (w1:World),x.length<=100000->Bl W w1->BaseAt w1 bp ob->Calls prog 58 #[Sv x,.pointer bp] w1 fun e w'=>ns x (bL hostTell x ob) e w'/\Bl W w'):=by intro x ob bp w1 hx h1 hba;refine(vE x ob bp w1 hx hba ((henv.below hBW).below h1)).mono ?_;rintro e w' ⟨hr,hb⟩;exact⟨hr,h1.trans (hb.mono h1.size)⟩
 have HFIN:=hI fun res e w2 h=>DD w.heap.size w (aG _) res e w2 h;have HLL:Hid (l.length<=100000):=by show _<=_;omega
 have HLB:Hid (b.length<=100000):=by show _<=_;omega
 obtain⟨t,htd⟩:∃t:ByteArray,t=⟨l.toArray⟩:=⟨_,rfl⟩;have HT:=hI htd;rw[<-htd];by_cases hbe:b=[]
 .subst hbe
  have HE:Hid (eC hostTell l []=bL hostTell l none):=rfl;have HRN:Hid (Calls prog 58 #[.string t,.pointer none] W fun e w'=>gs (bL hostTell l none) e w'/\Bl w w'/\w'.heap[w.heap.size]?=some (.cells ag 77 (0,0))):=by rw[htd];refine(HR l none none W HLL (ai _ _) rfl).mono ?_;rintro e w' ⟨hr,hb'⟩;exact⟨vH hr,(HZ w' hb').2,(HZ w' hb').1⟩
  clear hl hb henv hBW hsize hz0 htd;go_enter func35,ntmps35;go_upto_region 1 with fail;unfold ag at hW;rw[<-hW];clear hW;go_wp2_with fail;refine af HRN ?_;intro e w2 hr;obtain⟨cs,v,rfl,HN,HZS,HZO,HON,HF⟩:=HFIN _ e w2 hr;clear hr;go_wp2_with(refine aY rfl 77 _ _ rfl w.heap.size cs rfl rfl 77 ag HN HZS HZO HON ?_);(try simp only[Exit.inBlock,Exit.then]);have hld:=bQ (P:=prog) (w2.setRow w.heap.size cs) w.heap.size 77 77 cs (0,0) _ (bH w2 w.heap.size ag cs 77 (0,0) HN) underlying77 rfl HZS;rw[HE.out];refine aO (v:=.tuple #[.agg cs,v]) ?_ rfl HF;rw[bR rfl];simp[asAddr,Result.andThen,hld]
 .have e0:=io _ hbe
  have HE:Hid (eC hostTell l b=match bL hostTell b none with| .error _=>.error 2| .ok a=>bL hostTell l (some a)):=by show _=_;unfold eC;rw[ab hbe];rfl
  have HSB:Hid (∀a,bL hostTell b none=.ok a->Small 20000 2001 a):=fun a h=>(kj b none 20000 0 a (by omega) (by simp) h|>fun h=>⟨h.s,h.e,h.d,h.h,h.p,h.text,by have:=h.count;omega,h.g,h.q,h.f⟩);have HRN:Hid (Calls Tryz.prog 58 #[.string ⟨b.toArray⟩,.pointer none] W fun e w'=>ns b (bL hostTell b none) e w'/\Below W.heap.size W w'):=HR.out b none none W HLB.out (ai _ _) rfl;obtain⟨bt,hbt⟩:∃bt:ByteArray,bt=⟨b.toArray⟩:=⟨_,rfl⟩;rw[<-hbt] at e0 HRN⊢;have HBT:=hI hbt;clear hl hb henv hBW hsize hz0 htd hbt hbe;go_enter func35,ntmps35;go_upto_region 1 with fail;unfold ag at hW;rw[<-hW];clear hW;go_wp2_with fail;refine af HRN ?_;rintro e w3 ⟨hr,b3⟩;have HB3:=hI b3;have HN3:=hI (HZ w3 b3);have HK:Hid ((w3.alloc (.cells ag 77)).heap[w3.heap.size]?=some (.cells ag 77 (0,0))):=cj w3 _ _;have m3:w3.heap.size≠w.heap.size:=by have:=b3.size;have:=HSZ.out;omega
  have HM3:Hid (w.heap.size≠w3.heap.size/\w.heap.size<w3.heap.size):=⟨m3.symm,by have:=b3.size;have:=HSZ.out;omega⟩;cases hres:bL hostTell b none with
  |error n=>
   rw[hres] at hr;have HE2:Hid (eC hostTell l b=.error 2):=(by show _=_;rw[HE.out,hres]);obtain⟨x,y,te,ve,rfl⟩:=hr;have HW4:Hid (((w3.alloc (.cells ag 77)).setRow w3.heap.size ag).heap[w.heap.size]?=some (.cells ag 77 (0,0))/\Bl w ((w3.alloc (.cells ag 77)).setRow w3.heap.size ag)):=by refine⟨?_,aZ (HN3.out.2.alloc HN3.out.2.size _) (jF HM3.out.2) _⟩;rw[setRow_other _ _ _ _ HM3.out.1];exact((ai w3.heap.size w3).alloc (aG _) _).block _ HM3.out.2|>.trans HN3.out.1
   clear b3 hres;rw[<-HBT.out];go_wp2_with(first|refine aY rfl 77 _ _ rfl w3.heap.size ag rfl rfl 77 ag HK cD rfl jM ?_|refine aY rfl 77 _ _ rfl w.heap.size ag rfl rfl 77 ag HW4.out.1 cD rfl jM ?_);(try simp only[Exit.inBlock,Exit.then]);have hld:=bQ (P:=prog) (((w3.alloc (.cells ag 77)).setRow w3.heap.size ag).setRow w.heap.size ag) w.heap.size 77 77 ag (0,0) _ (bH _ w.heap.size ag ag 77 (0,0) HW4.out.1) underlying77 rfl cD;rw[HE2.out];refine aO (v:=.tuple #[.agg ag,.iface 96 (.agg #[Iv 2,.string ⟨#[98,97,115,101]⟩,.string bt,.iface 104 (.agg #[.string bt,.iface 96 (.agg #[Iv n,.string x,.string y,.iface te ve])])])]) ?_ rfl ⟨⟨_,rfl,Or.inl ⟨_,_,_,_,rfl⟩⟩,aZ HW4.out.2 (aG _) _⟩;rw[bR rfl];simp only[ag] at hld;simp[asAddr,Result.andThen,hld,ag]
  |ok a=>
   rw[hres] at hr;have HE2:Hid (eC hostTell l b=bL hostTell l (some a)):=(by show _=_;rw[HE.out,hres]);have hsm:=HSB a hres;obtain⟨v,rfl,hs⟩:=hr;have hv1:v.oneCell'=true:=(by obtain⟨⟨sp,cap,rfl,_⟩,_⟩:=hs;rfl);obtain⟨V,hV⟩:=am ((w3.alloc (.cells ag 77)).setRow w3.heap.size (av a v));have hVk:V.heap[w3.heap.size]?=some (.cells (av a v) 77 (0,0)):=(by rw[hV];exact bH _ w3.heap.size ag (av a v) 77 (0,0) HK);have hVB:Bl w3 V:=(by rw[hV];exact aZ ((ai w3.heap.size w3).alloc (aG _) _) (aG _) _);have hVA:BaseAt V (some (Ad w3.heap.size 0)) (some a):=⟨w3.heap.size,v,rfl,hVk,ei hs hVB,by have:=hsm.count;omega,fun x hx=>by have:=hsm.g x hx;omega⟩;have hVW:=HB3.out.trans (hVB.mono HB3.out.size);have HRM:Hid (Calls prog 58 #[.string t,Pt w3.heap.size] V fun e w'=>gs (bL hostTell l (some a)) e w'/\Bl w w'/\w'.heap[w.heap.size]?=some (.cells ag 77 (0,0))):=by rw[HT.out];refine(HR l (some a) _ V HLL hVW hVA).mono ?_;rintro e w' ⟨hr,hb'⟩;exact⟨vH hr,(HZ w' hb').2,(HZ w' hb').1⟩
   have HON:Hid ((av a v).all (·.oneCell')=true):=iP _ _ hv1;have HZS:Hid ((prog.info? 77).map (·.size)=some (av a v).size):=cD;have HZO:Hid (ag.size=(av a v).size):=rfl;have HV:=hI hV;generalize av a v=CS at*;clear b3 hres hs hV hVk hVB hVA hVW hsm hv1;go_wp2_with(refine aY rfl 77 _ _ rfl w3.heap.size CS rfl rfl 77 ag HK HZS HZO HON ?_);have HRM2:=HRM;rw[HV.out] at HRM2;refine af HRM2 ?_;intro e w2 hr;clear HRM2 HRM HV;obtain⟨cs,v,rfl,HN,HZS,HZO,HON,HF⟩:=HFIN _ e w2 hr;clear hr;go_wp2_with(refine aY rfl 77 _ _ rfl w.heap.size cs rfl rfl 77 ag HN HZS HZO HON ?_);(try simp only[Exit.inBlock,Exit.then]);have hld:=bQ (P:=prog) (w2.setRow w.heap.size cs) w.heap.size 77 77 cs (0,0) _ (bH w2 w.heap.size ag cs 77 (0,0) HN) underlying77 rfl HZS;rw[HE2.out];refine aO (v:=.tuple #[.agg cs,v]) ?_ rfl HF;rw[bR rfl];simp[asAddr,Result.andThen,hld]
end Go.Proofs
