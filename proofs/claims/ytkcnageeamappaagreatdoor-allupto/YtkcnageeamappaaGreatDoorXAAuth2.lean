import Derived.Test.YtkcnageeamappaaGreatDoorXADrive
set_option maxHeartbeats 32000000
set_option maxRecDepth 8000
set_option linter.unusedSimpArgs false
namespace Go.Proofs
open Go.RowKit Go.Moor Go.Proofs.Tryz Go.Moor
theorem dV (l c:Bs) (h:¬l=c):((⟨l.toArray⟩:ByteArray).toList==c)=false:=by simp_all
theorem fE (l c:Bs) (h:l=c):((⟨l.toArray⟩:ByteArray).toList==c)=true:=by simp_all
theorem DO (l:Bs) (w:World) (r:l.length<4294967281) (t:Env w):Calls prog 251 #[.string ⟨l.toArray⟩] w fun e w'=>e=.returned (.string ⟨(iN l).toArray⟩)/\Bl w w':=by
 obtain⟨m,q⟩:=t.maxLen;have p:=rl ⟨l.toArray⟩ ⟨#[37,50,69]⟩;rw[al] at p;have b:Hid (Calls Tryz.prog 107 #[.string ⟨l.toArray⟩,.string ⟨#[37,50,69]⟩,.string ⟨#[37,50,101]⟩] w fun e w'=>e=.returned (.string ⟨(be l).toArray⟩)/\Below w.heap.size w w'):=by refine(Tryz.strings_ReplaceAll ⟨l.toArray⟩ ⟨#[37,50,69]⟩ ⟨#[37,50,101]⟩ m w (by rw[al];exact r) q (by decide) (by rw[al];show _+_*3<=_;omega)).mono ?_;rintro e w' ⟨rfl,y⟩;refine⟨?_,y⟩;have k:Lib.replaceAll (Bv l).data.toList (⟨#[37,50,69]⟩:ByteArray).data.toList (⟨#[37,50,101]⟩:ByteArray).data.toList=be l:=Cx l;rw[k]
 clear q p r t;have c:Hid (iN l=if be l=[46]\/be l=[37,50,101] then [46] else if be l=[46,46]\/be l=[46,37,50,101]\/be l=[37,50,101,46]\/be l=[37,50,101,37,50,101] then [46,46] else []):=by
  show _=_;unfold iN bG;simp only;split
  .rfl
  .grind
 generalize be l=d at*;by_cases h:d=[46]
 .subst h
  go_enter func251,ntmps251;go_wp2_with fail;refine mR b.out fun f a=>?_;go_wp2;go_ret;rw[c.out];exact⟨rfl,a⟩
 by_cases g:d=[37,50,101]
 .subst g
  go_enter func251,ntmps251;go_wp2_with fail;refine mR b.out fun f a=>?_;go_wp2;go_ret;rw[c.out];exact⟨rfl,a⟩
 by_cases i:d=[46,46]
 .subst i
  go_enter func251,ntmps251;go_wp2_with fail;refine mR b.out fun f a=>?_;go_wp2;go_ret;rw[c.out];exact⟨rfl,a⟩
 by_cases n:d=[46,37,50,101]
 .subst n
  go_enter func251,ntmps251;go_wp2_with fail;refine mR b.out fun f a=>?_;go_wp2;go_ret;rw[c.out];exact⟨rfl,a⟩
 by_cases j:d=[37,50,101,46]
 .subst j
  go_enter func251,ntmps251;go_wp2_with fail;refine mR b.out fun f a=>?_;go_wp2;go_ret;rw[c.out];exact⟨rfl,a⟩
 by_cases o:d=[37,50,101,37,50,101]
 .subst o
  go_enter func251,ntmps251;go_wp2_with fail;refine mR b.out fun f a=>?_;go_wp2;go_ret;rw[c.out];exact⟨rfl,a⟩
 have A:Hid (iN l=[]):=by show _=_;rw[c.out,ab (by simp[h,g]),ab (by grind)]
 have k:=dV d _ h;have v:=dV d _ g;have x:=dV d _ i;have z:=dV d _ n;have B:=dV d _ j;have C:=dV d _ o;obtain⟨s,u⟩:∃s:ByteArray,s=⟨d.toArray⟩:=⟨_,rfl⟩;rw[<-u] at k v x z B C b;clear h g i n j o c u;go_enter func251,ntmps251;go_wp2_with fail;refine mR b.out fun f a=>?_;go_wp2;go_ret;rw[A.out];exact⟨rfl,a⟩
theorem DP (a l:Bs) (first:Bool) (w:World) (n:l.length<4294967281) (j:Env w):Calls prog 252 #[.string ⟨a.toArray⟩,.string ⟨l.toArray⟩,.bool first] w fun e w'=>e=.returned (.string ⟨(fR a l first).toArray⟩)/\Bl w w':=by
 have i:=hI (lu (Bv l) 4 w (by grind[al]) j.sets (by have:=j.size;omega));have f:=hI (oK l w n);have b:Hid (fR a l first=if(first&&decide (a=sFile)&&aC l)=true then l.take 1++ [58] else ah 4 l):=rfl;clear j n;cases first with
 |false=>go_enter func252,ntmps252;go_wp2_with fail;refine mR i.out fun p c=>?_;go_wp2;go_ret;rw[b.out];exact⟨rfl,c⟩
 |true=>
  by_cases g:a=sFile
  .subst g
   cases d:aC l with
   |false=>rw[d] at f b;clear d;go_enter func252,ntmps252;go_wp2_with fail;refine m0 f.out ?_;go_wp2_with fail;refine mR i.out fun p c=>?_;go_wp2;go_ret;rw[b.out];exact⟨rfl,c⟩
   |true=>
    have k:l.length=2:=by
     by_cases h:l.length=2
     .exact h
     .grind[nh]
    rw[d] at f b;have t:(Bv l).size=2:=(by rw[al,k]);have r:Hid ((Bv l).extract 0 1++⟨#[58]⟩=(Bv (l.take 1++ [58]))):=by
     show _=_;have:(Bv l).extract 0 1=(Bv (l.take 1)):=by apply lg;rw[jE];simp
     rw[this];exact aP (l.take 1) [58]
    clear d k;go_enter func252,ntmps252;go_wp2_with fail;refine m0 f.out ?_;go_wp2;go_ret;rw[b.out];refine⟨aB (fun x=>Ending.returned (Value.string x)) r,ai _ _⟩
  .have m:=dV a _ g
   have q:Hid (fR a l true=ah 4 l):=hI (by rw[b.out,ab (by simp[g])]);obtain⟨s,o⟩:∃s:ByteArray,s=⟨a.toArray⟩:=⟨_,rfl⟩;rw[<-o] at m⊢;unfold sFile at m;clear g o b;go_enter func252,ntmps252;go_wp2_with fail;refine mR i.out fun p c=>?_;go_wp2;go_ret;rw[q.out];exact⟨rfl,c⟩
theorem aa {w:World} {g:Nat} {a:Array Value} {t:TypeId} {fr:Nat×Nat} (h:w.heap[g]?=some (.cells a t fr)) (j:Nat):w.cell? ⟨g,j,none⟩=a[j]?:=by grind[World.cell?]
theorem aj {w:World} {g:Nat} {a:Array Value} {t:TypeId} (h:w.heap[g]?=some (.cells a t (0,0))) (j:Nat):w.frozen? ⟨g,j,none⟩=false:=by grind[World.frozen?]
theorem lX (w:World) (a b:Obj):((w.alloc a).alloc b).heap[w.heap.size]?=some a/\((w.alloc a).alloc b).heap[w.heap.size+1]?=some b:=by
 simp only[World.alloc,mN,uj];refine⟨?_,?_⟩
 .simp
 .rfl
theorem du {k:Nat} {w w':World} (d:w'.os=w.os) (b:w'.tape=w.tape) (c:w'.output=w.output) (a:w'.heap=w.heap):Below k w w':=⟨d,b,c,by grind,λ_ _=>by rw[a]⟩
theorem ro (o:Option Bs) (set:Int) (w:World) (I:(o.getD []).length<4294967281) (n:Env w):Calls prog 103 #[.agg (lT o),.int .i64 set] w fun e w'=>e=.returned (.agg (lT (o.map (ah set))))/\Bl w w':=by
 have u:Hid (lT (o.map (ah set))=#[.bool o.isSome,Sv (ah set (o.getD []))]):=by show _=_;cases o<;>rfl
 unfold lT;generalize o.isSome=b at*;generalize o.getD []=t at*;obtain⟨W,f⟩:=am ((w.alloc (.cells #[.bool b,Sv t] 75)).alloc (.cells #[.bool false,Sv []] 75));have m:Hid (Bl w W):=by rw[f];exact((ai _ _).alloc .refl _).alloc (by simp) _
 have G:W.heap.size=w.heap.size+2:=by rw[f];simp
 have y:=hI (n.below m);have s:Hid (∀w0,Bl W w0->CQ 62 #[Sv t,Iv set] w0 (Sv (ah set t)) (Below W.heap.size W)):=by intro w0 g;have j:=y.out.below g;refine mR (lu (Bv t) set w0 (by rw[al];omega) j.sets (by have:=j.size;omega)) fun w' r=>?_;exact⟨rfl,g.trans (r.mono g.size)⟩
 have p:Hid (∀a,Bl W a->Ce a w.heap.size 0 (.bool b)/\Ce a w.heap.size 1 (Sv t)/\Ce a (w.heap.size+1) 0 (.bool false)/\Ce a (w.heap.size+1) 1 (Sv [])/\a.frozen? (Ad (w.heap.size+1) 0)=false/\a.frozen? (Ad (w.heap.size+1) 1)=false/\a.heap[w.heap.size+1]?=some (.cells #[.bool false,Sv []] 75 (0,0))):=by intro a i;have c:=lX w (.cells #[.bool b,Sv t] 75) (.cells #[.bool false,Sv []] 75);rw[<-f] at c;have l:=(i.block w.heap.size (by omega)).trans c.1;have d:=(i.block (w.heap.size+1) (by omega)).trans c.2;exact⟨aa l 0,aa l 1,aa d 0,aa d 1,aj d 0,aj d 1,d⟩
 clear n;go_enter func103,ntmps103;go_wp2_with fail;rw[<-f];obtain⟨B,D,H,J,E,z,_⟩:=p W (ai _ _);clear f;go_region_with (go_at_call 62;refine af (s _ (by exact du rfl rfl rfl rfl)) ?_;rintro e a ⟨rfl,k⟩;obtain⟨M,A,K,F,C,L,h⟩:=p a k;have q:=hI h;clear h);all_goals
  go_wp2;have c:=aD _ (w.heap.size+1) 1 _ 75 (Sv (ah set t)) (aD a (w.heap.size+1) 0 _ 75 (.bool b) q.out);refine aO (v:=.agg #[.bool b,Sv (ah set t)]) (lD rfl _ _ (w.heap.size+1) 75 _ (0,0) _ rfl c underlying75 rfl vo) rfl ⟨?_,?_⟩
  .exact aB (fun x=>Ending.returned (Value.agg x)) u.out.symm
  .exact((m.out.trans (k.mono (by omega))).setCell (iI _) _).setCell (iI _) _
theorem Cc (c:UInt8) (a b:Bs) (f:∀x∈b,x≠c):jn c (a++c::b)=some (a,b):=by
 have d:∀p r:Bs,(∀x∈p,x≠c)->aN c (p++c::r)=some (p,r):=by
  intro p r;induction p with
  |nil=>simp[aN]
  |cons y p h=>simp_all[aN]
 unfold jn;have e:(a++c::b).reverse=b.reverse++c::a.reverse:=by simp
 rw[e,d b.reverse a.reverse (λx g=>f x (by simpa using g))];simp
theorem Cd (c:UInt8) (l:Bs) (h:∀x∈l,x≠c):jn c l=none:=by
 have a:∀l:Bs,(∀x∈l,x≠c)->aN c l=none:=by
  intro l;induction l with
  |nil=>intro _;rfl
  |cons b l e=>simp_all[aN]
 unfold jn;rw[a l.reverse (λx d=>h x (by simpa using d))];rfl
theorem rf (l:Bs) (j:Nat) (h:j<l.length):((⟨l.toArray⟩:ByteArray).data[j]!)=l[j]:=by grind
theorem uI (l:Bs):(Lib.lastIndexByte ⟨l.toArray⟩ 64= -1/\bB l=([],l))\/∃p r:Bs,l=p++64::r/\Lib.lastIndexByte ⟨l.toArray⟩ 64=p.length/\bB l=(p,r):=by
 have d:=al l;obtain⟨f,a⟩|⟨i,h,f,a,o⟩:=Lib.lastIdx_spec (Bv l) 64 (Bv l).size
 .left
  refine⟨f,?_⟩;have m:∀x∈l,x≠64:=by intro x c e;obtain⟨j,b,rfl⟩:=oa c;have:=a j (by rw[d];exact b);rw[rf l j b,e] at this;exact this rfl
  unfold bB;rw[Cd 64 l m]
 .right
  rw[d] at h;have k:l[i]=64:=by rw[rf l i h] at a;apply cU.1;have:=a;show l[i].toNat=64;omega
  have n:l=l.take i++64::l.drop (i+1):=by rw[<-k];simp
  have q:∀x∈l.drop (i+1),x≠64:=by intro x c e;obtain⟨j,b,g⟩:=oa c;rw[cm] at b;rw[qD] at g;have:=o (i+1+j) (by omega) (by rw[d];omega);rw[rf l (i+1+j) (by omega),g,e] at this;exact this rfl
  refine⟨l.take i,l.drop (i+1),n,?_,?_⟩
  .show Lib.lastIdx _ _ _=_
   rw[f,cL];omega
  .grind[bB,Cc]
theorem Cf (p r:Bs) (c:UInt8):(⟨(p++c::r).toArray⟩:ByteArray).extract (p.length+1) (p.length+(r.length+1))=⟨r.toArray⟩:=by
 apply lg;rw[jE];have:(p++c::r).drop (p.length+1)=r:=by simp
 show List.take (p.length+(r.length+1)-(p.length+1)) ((p++c::r).drop (p.length+1))=r;rw[this];exact cg (by omega)
theorem Cg (l:Bs) (w:World) (s:l.length<4294967281):Calls prog 304 #[.string ⟨l.toArray⟩] w fun e w'=>e=.returned (.tuple #[.string ⟨(bB l).1.toArray⟩,.string ⟨(bB l).2.toArray⟩])/\∃n,w'=w.drewN n:=by
 have d:=hI (strings_LastIndexByte (Bv l) 64 (by grind[al]) w);obtain⟨b,a⟩|⟨p,r,c,b,a⟩:=uI l
 .have g:=hI a
  rw[b] at d;clear b a;go_enter func304,ntmps304;go_wp2_with fail;refine m0 d.out ?_;go_wp2;go_ret2;rw[g.out];exact⟨rfl,0,rfl⟩
 .have g:=hI a
  rw[b] at d;have j:l.length=p.length+(r.length+1):=by rw[c];simp
  have f:(Bv l).size=p.length+(r.length+1):=by rw[al,j]
  have q:(Bv l).extract 0 p.length=(Bv p):=by rw[c];exact vs p (64::r)
  have h:(Bv l).extract (p.length+1) (p.length+(r.length+1))=(Bv r):=by rw[c];exact Cf p r 64
  have t:((p.length:Int))<=((Bv l).size:Int):=by rw[f];omega
  have i:((p.length:Int)+1)<=((Bv l).size:Int):=by rw[f];omega
  have m:∀W,(Instr.slice 9 (Sv l) none (some (Iv p.length)) none).run prog W=.ok (Sv p) W:=fun W=>by
   simp_all[Bn]
  have o:∀W,(Instr.slice 9 (Sv l) (some (Iv ((p.length:Int)+1))) none none).run prog W=.ok (Sv r) W:=fun W=>by
   rw[Bo W 9 _ .i64 _ underlying9,ae ⟨by omega,i⟩,show((p.length:Int)+1).toNat=p.length+1 by omega,f,h]
  have k:IntKind.i64.wrap ((p.length:Int)+1)=(p.length:Int)+1:=jP _ (by omega) (by omega);clear b a c;go_enter func304,ntmps304;go_wp2_with fail;refine m0 d.out ?_;go_wp2;go_quiet (fail);go_wp2;go_ret2;rw[g.out];exact⟨rfl,_,rfl⟩
theorem uJ:∀(l:Bs) (n:Nat),n<=cf n l
 | [],n=>aG _
 |d::l,n=>by
  have:=uJ l (n*10+(d.toNat- 48));show n<=cf (n*10+(d.toNat- 48)) l;omega
theorem uK (M:Nat) (f:M<1844674407370955162):∀(l:Bs) (a:Nat),(∀c∈l,fS c=true)->cf a l<=M->Lib.parseUintM M a l=.ok (cf a l)
 | [],a,_,_=>rfl
 |c::l,a,hd,hle=>by
  have b:=hd c (by simp);unfold fS at b;simp at b;have e:cf (a*10+(c.toNat- 48)) l<=M:=hle;have g:=uJ l (a*10+(c.toNat- 48));rw[Lib.parseUintM,ae b,ab (by omega),ab (by omega),uK M f l _ (λx d=>hd x (by simp[d])) e];rfl
theorem uM (M:Nat) (f:M<1844674407370955162):∀(l:Bs) (a:Nat),a<=M->¬((∀c∈l,fS c=true)/\cf a l<=M)->Lib.parseUintM M a l=.«syntax»\/Lib.parseUintM M a l=.range
 | [],a,h,hf=>absurd ⟨by simp,h⟩ hf
 |c::l,a,h,hf=>by
  by_cases e:48<=c.toNat/\c.toNat<=57
  .rw[Lib.parseUintM,ae e,ab (by omega)]
   by_cases d:M<a*10+(c.toNat- 48)
   .grind
   .rw[ab d]
    refine uM M f l _ (by omega) (λx=>hf ⟨?_,x.2⟩);intro y b;rcases cM.1 b with rfl|b
    .grind[fS]
    .exact x.1 y b
  .simp_all[Lib.parseUintM,ab]
def uN (o:Option Int) (e:Ending):Prop:=
 match o with
 |some p=>e=.returned (.tuple #[.int .i64 p,.nilIface])
 |none=>∃x y t v,e=.returned (.tuple #[.int .i64 (-1),.iface 96 (.agg #[.int .i64 5,.string x,.string y,.iface t v])])
theorem uO (p:Int) (a:Bs) (w:World):Calls prog 159 #[.int .i64 p,.string ⟨a.toArray⟩] w fun e w'=>e=.returned (.int .i64 (if p=(cE a).1 then -1 else p))/\w'=w:=by
 have b:=hI fun W=>rr (Bv a) W;generalize(cE a).1=d at*;by_cases c:p=d
 .subst c
  rw[ae rfl];go_enter func159,ntmps159;go_wp21;refine m0 (b _) ?_;go_wp2;go_ret;exact⟨rfl,rfl⟩
 .rw[ab c]
  go_enter func159,ntmps159;go_wp21;refine m0 (b _) ?_;go_wp2;go_ret;exact⟨rfl,rfl⟩
theorem uP (l a:Bs) (w:World) (G:l.length<4294967281) (z:Env2 w):Calls prog 210 #[.string ⟨l.toArray⟩,.string ⟨a.toArray⟩] w fun e w'=>uN (cV l a) e/\Bl w w':=by
 have H:Hid (∀W,Calls Tryz.prog 185 #[.string ⟨a.toArray⟩] W fun e w'=>e=.returned (.tuple #[.int .i64 (cE a).1,.bool (cE a).2])/\w'=W):=fun W=>rr ⟨a.toArray⟩ W;by_cases d:l=[]
 .subst d
  have f:Hid (cV [] a=some (-1)):=rfl;go_enter func210,ntmps210;go_wp2;go_ret2;rw[f.out];exact⟨rfl,ai _ _⟩
 .have y:l.isEmpty=false:=by cases l with|nil=>grind|cons c r=>rfl
  have A:(⟨l.toArray⟩:ByteArray).toList.isEmpty=false:=by rw[cG];exact y
  have k:Lib.parseUintB 16 (Bv l).data.toList=Lib.parseUintM 65535 0 l:=by show Lib.parseUintB 16 l=_;unfold Lib.parseUintB;rw[ab d]
  cases b:(l.all fS&&decide (cf 0 l<=65535)) with
  |true=>
   have B:Lib.parseUintB 16 (Bv l).data.toList=.ok (cf 0 l):=(by rw[fx] at b;rw[k,uK 65535 (by omega) l 0 (gI.1 b.1) (ik b.2)]);have F:cf 0 l<=65535:=(by rw[fx] at b;exact ik b.2);have g:Hid (Calls Tryz.prog 249 #[.string ⟨l.toArray⟩,.int .i64 10,.int .i64 16] w fun e w'=>e=.returned (.tuple #[.int .u64 (cf 0 l:Nat),.nilIface])/\Below w.heap.size w w'):=by
    refine(Tryz.strconv_ParseUint_10_at16_ok ⟨l.toArray⟩ (by rw[al];omega) (cf 0 l) B w).mono ?_;rintro e w' ⟨rfl,h⟩;refine⟨rfl,?_⟩;obtain rfl|rfl:=h
    .simp[ai]
    .simp[Lib.bytesWorld_below]
   have f:Hid (cV l a=if((cf 0 l:Nat):Int)=(cE a).1 then some (-1:Int) else some ((cf 0 l:Nat):Int)):=(by show _=_;unfold cV;rw[ab d,ae b]);clear B k b d;generalize cf 0 l=P at*;have D:Hid (∀W,C0 159 #[Iv (P:Nat),Sv a] W (Iv (if((P:Nat):Int)=(cE a).1 then -1 else((P:Nat):Int)))):=fun W=>uO _ a W;have C:Hid (cV l a=some (if((P:Nat):Int)=(cE a).1 then(-1:Int) else((P:Nat):Int))):=hI (by rw[f.out];split<;>rfl);generalize(if((P:Nat):Int)=(cE a).1 then(-1:Int) else((P:Nat):Int))=R at*;obtain⟨s,m⟩:∃s:ByteArray,s=⟨l.toArray⟩:=⟨_,rfl⟩;rw[<-m] at A g⊢;clear m y f;go_enter func210,ntmps210;go_wp2_with fail;refine mR g.out fun E p=>?_;go_wp2_with fail;refine(D.out _).mono ?_;rintro e I ⟨rfl,q⟩;have q:=q.symm;subst q;go_wp2;go_ret2;rw[C.out];exact⟨rfl,p⟩
  |false=>
   have f:Hid (cV l a=none):=(by show _=_;unfold cV;rw[ab d,ab (by simp[b])]);have g:Hid (Calls Tryz.prog 249 #[.string ⟨l.toArray⟩,.int .i64 10,.int .i64 16] w fun e w'=>(∃u t v,e=.returned (.tuple #[.int .u64 u,.iface t v]))/\Below w.heap.size w w'):=by
    rcases uM 65535 (by omega) l 0 (by omega) (fun x=>by
     grind) with h|h
    .obtain⟨j,i,o⟩:=z.eSyntax
     refine(strconv_ParseUint_10_at16_syntax (Bv l) (by grind[al]) (by rw[k,h]) (.iface j i) w o (.inr ⟨j,i,rfl⟩)).mono ?_;rintro e w' ⟨N,rfl,_,_,n⟩;exact⟨⟨_,_,_,rfl⟩,n⟩
    .obtain⟨j,i,o⟩:=z.eRange
     refine(Tryz.strconv_ParseUint_10_at16_range ⟨l.toArray⟩ (by rw[al];omega) (by rw[k,h]) (.iface j i) w o (Or.inr ⟨j,i,rfl⟩)).mono ?_;rintro e w' ⟨N,rfl,_,_,n⟩;exact⟨⟨_,_,_,rfl⟩,n⟩
   clear k b d;obtain⟨s,m⟩:∃s:ByteArray,s=⟨l.toArray⟩:=⟨_,rfl⟩;rw[<-m] at A g⊢;clear m y;go_enter func210,ntmps210;go_wp2_with fail;refine g.out.mono ?_;rintro e E ⟨⟨u,t,v,rfl⟩,p⟩;go_wp2;go_ret2;rw[f.out];exact⟨⟨_,_,_,_,rfl⟩,p⟩
theorem oX (l:Bs):Lib.hasPrefix l [91]=decide (l.head? =some 91):=by
 unfold Lib.hasPrefix;cases l with
 |nil=>rfl
 |cons c l=>grind
theorem Dv (c:UInt8) (l:Bs):(Lib.indexByte l c= -1/\aN c l=none)\/∃p r:Bs,l=p++c::r/\Lib.indexByte l c=p.length/\aN c l=some (p,r):=by
 have h:=uZ c l;rcases ll c l with⟨g,a⟩|⟨p,r,b,a,f⟩
 .left
  refine⟨g,?_⟩;cases e:aN c l with
  |none=>rfl
  |some q=>have:=cutB_parts c l q.1 q.2 e;exact absurd rfl (a c (by rw[this];simp))
 .right
  refine⟨p,r,b,f,?_⟩;rw[b];have d:∀p:Bs,(∀x∈p,x≠c)->aN c (p++c::r)=some (p,r):=by
   intro p;induction p with
   |nil=>simp[aN]
   |cons y p i=>simp_all[aN]
  exact d p a
theorem vB (t:Bs):cy t=(t.take (fD t)++(ay 58 (t.drop (fD t))).1,(ay 58 (t.drop (fD t))).2.getD []):=by
 unfold cy ay;cases aN 58 (t.drop (fD t)) with
 |none=>simp
 |some p=>rfl
theorem rp (l:Bs) (k:Nat) (w:World) (K:l.length<4294967281) (F:k<=l.length) (r:fD l=k) (u:Env w) (i:(Lib.hasPrefix l [91]=true/\Lib.indexByte l 93=(k:Int)- 1)\/(Lib.hasPrefix l [91]=false/\k=0)):Calls prog 305 #[.string ⟨l.toArray⟩] w fun e w'=>e=.returned (.tuple #[.string ⟨(cy l).1.toArray⟩,.string ⟨(cy l).2.toArray⟩])/\∃n,w'=w.drewN n:=by
 obtain⟨m,s⟩:=u.maxLen;have f:Hid (cy l=(l.take k++(ay 58 (l.drop k)).1,(ay 58 (l.drop k)).2.getD [])):=hI (by rw[vB,r]);have g:=hI (nt (Bv (l.drop k)) 58 m w (by grind[al]) s);have b:=hI (strings_HasPrefix (Bv l) ⟨#[91]⟩ w);have h:Hid (C0 141 #[Sv l,.int .u8 93] w (Iv (Lib.indexByte l 93))):=strings_IndexByte (Bv l) 93 w;have o:=(cutOpt_len 58 (l.drop k)).1;rw[cm] at o;have j:=al l;have J:(Bv l).extract k l.length=(Bv (l.drop k)):=by apply lg;rw[jE];show List.take (l.length- k) (l.drop k)=l.drop k;exact cg (by simp)
 have x:(Bv l).extract 0 k=(Bv (l.take k)):=by apply lg;rw[jE];simp
 have hz:((k:Int))<=((Bv l).size:Int):=by rw[j];omega
 have p:∀W,(Instr.slice 9 (Sv l) (some (Iv k)) none none).run prog W=.ok (Sv (l.drop k)) W:=fun W=>by
  simp_all[Bo]
 have q:∀W,(Instr.slice 9 (Sv l) none (some (Iv k)) none).run prog W=.ok (Sv (l.take k)) W:=fun W=>by
  simp_all[Bn]
 have d:Hid ((Bv (l.take k))++⟨(ay 58 (l.drop k)).1.toArray⟩=(Bv (l.take k++(ay 58 (l.drop k)).1))):=aP _ _;have I:(l.take k).length=k:=by rw[cL];omega
 generalize(ay 58 (l.drop k)).1=A at*;generalize(ay 58 (l.drop k)).2.getD []=B at*;generalize(ay 58 (l.drop k)).2.isSome=C at*;generalize l.take k=T at*;generalize l.drop k=D at*;obtain⟨c,a⟩|⟨c,a⟩:=i
 .rw[c] at b
  rw[a] at h;have y:IntKind.i64.wrap ((k:Int)- 1+1)=k:=by rw[jP _ (by omega) (by omega)];omega
  have E:(k:Int)- 1+1=k:=by omega
  go_enter func305,ntmps305;go_wp21;refine mR b.out fun w' t=>?_;obtain rfl:=t.symm;go_wp21;refine m0 h.out ?_;go_wp21;refine mR g.out ?_;rintro v ⟨n,rfl⟩;go_wp2;go_ret2;rw[f.out];refine⟨?_,n,rfl⟩;simp only[d.out];rfl
 .have L:∀W,(Instr.slice 9 (Sv l) (some (Iv 0)) none none).run prog W=.ok (Sv D) W:=by
   intro W;have:=p W;rwa[a] at this
  have z:∀W,(Instr.slice 9 (Sv l) none (some (Iv 0)) none).run prog W=.ok (Sv T) W:=by intro W;have:=q W;rwa[a] at this
  rw[c] at b;have H:T.length<=0:=by omega
  have G:A.length<4294967281:=by omega
  go_enter func305,ntmps305;go_wp21;refine m0 b.out ?_;go_wp21;refine mR g.out ?_;rintro v ⟨n,rfl⟩;go_wp2;go_ret2;rw[f.out];refine⟨?_,n,rfl⟩;simp only[d.out];rfl
theorem Dw (l:Bs) (w:World) (a:l.length<4294967281) (b:Env w):Calls prog 305 #[.string ⟨l.toArray⟩] w λe w'=>e=.returned (.tuple #[.string ⟨(cy l).1.toArray⟩,.string ⟨(cy l).2.toArray⟩])/\∃n,w'=w.drewN n:=by
 by_cases g:l.head? =some 91
 .have d:Lib.hasPrefix l [91]=true:=by rw[oX,dC g]
  obtain⟨c,f⟩|⟨p,r,h,c,f⟩:=Dv 93 l
  .refine rp l 0 w a (by omega) (by simp_all[fD]) b (.inl ⟨d,by rw[c];rfl⟩)
  .have i:l.length=p.length+(r.length+1):=by rw[h];simp
   refine rp l (p.length+1) w a (by omega) (by simp_all[fD]) b (.inl ⟨d,by rw[c];omega⟩)
 .exact rp l 0 w a (by omega) (by simp_all[fD]) b (.inr ⟨by grind[oX],rfl⟩)
theorem Ku (l p:List UInt8):(Lib.cut l p).1.length<=l.length/\(Lib.cut l p).2.1.length<=l.length:=by grind[Lib.cut]
theorem Kv (s:ByteArray) (w:World) (c:s.size<4294967281) (d:Env w):Calls prog 139 #[.string s] w λe w'=>zd (fw s.data.toList) e/\Bl w w':=by
 unfold fw;match h:Lib.cut s.L [58,58] with
 |(a,b,true)=>have f:=Ku s.L [58,58];rw[h] at f;simp only[bT,ByteArray.size_data] at f;exact ze s (Bv a) (Bv b) (Bv a) (Bv b) true w c (by show a.toArray.size<_;simp;omega) (by show b.toArray.size<_;simp;omega) d h (λ_=>⟨rfl,rfl⟩) (λh=>by cases h)
 |(a,b,false)=>exact ze s ⟨#[]⟩ s (Bv a) (Bv b) false w c (by decide) c d h (λh=>by cases h) (λ_=>⟨rfl,rfl⟩)
theorem tk:(prog.info? 9).map (λi=>(i.zero,i.size,i.bytes))=some (some (.string ⟨#[]⟩),1,16):=by kernel_rfl
theorem KQ (b o cap:Nat) (ps:List Nat) (w:World) (hb:b<w.heap.size) (hn:ps.length<=8) (hcap:ps.length<=cap) (hcap2:cap<=8) (hps:∀p∈ps,p<65536) (hcl:∀(j:Nat) p,ps[j]?=some p->w.cell? ⟨b,o+j,none⟩=some (.int .u64 (p:Nat))) (henv:Env w) (htz:Tz w):Calls prog 196 #[.slice (some ⟨b,o,none⟩) ps.length cap] w λe w'=>e=.returned (.string ⟨(bK ps).toArray⟩)/\Bl w w':=by
 have HC:Hid (∀(j:Nat) p,ps[j]?=some p->w.cell? ⟨b,o+j,none⟩=some (.int .u64 (p:Nat))):=hcl;have HS:Hid (∀p∈ps,p<65536):=hps;have HV:Hid (Tryz.Env w):=henv;have HT:Hid (Tryz.Tz w):=htz;obtain⟨i0,hi,hz0,hz1,hz2⟩:=fA tk;have hgz:=henv.size;clear hcl hps henv htz;go_enter Tryz.func196,Tryz.ntmps196;go_wp2;go_loopw [3,8] (λv i wr=>∃q:Nat,q<=ps.length/\i=.int .i64 q/\wr.ownsRow w.heap.size 9 1 v q ((ps.take q).map λp=>Value.string (gF p))/\Below w.heap.size w wr) (λ_ i _=>ps.length-(intOf i).toNat)
 case atStart=>exact⟨0,aR _,rfl,mP _ _ _ _,ai _ _⟩
 case round=>
  obtain⟨q,hq,rfl,hown,hbw⟩:=hrel;have HB:Hid (Below w.heap.size w wr):=hbw;have HO:Hid (wr.ownsRow w.heap.size 9 1 _ q ((ps.take q).map λp=>Value.string (gF p))):=hown;have hwz:=hbw.size;clear hbw hown;by_cases hlt:q<ps.length
  .obtain⟨x,hx⟩:∃x,ps[q]?=some x:=⟨ps[q]'hlt,by simp⟩
   have hc:wr.cell? ⟨b,o+q,none⟩=some (.int .u64 (x:Nat)):=(HB.out.cell (by exact hb)).trans (HC.out q x hx);have hxm:=HS.out x (ef hx);have HTK:Hid ((ps.take (q+1)).map (λp=>Value.string (gF p))=(ps.take q).map (λp=>Value.string (gF p))++ [.string (gF x)]):=(by show _=_;rw[jf,hx];simp);have HVr:Hid (Tryz.Env wr):=HV.out.below HB.out;have HTr:Hid (Tryz.Tz wr):=HT.out.below HB.out (by omega);clear hx;go_wp2_with fail;refine(Kr x hxm _ HVr.out HTr.out).mono ?_;rintro e w2 ⟨rfl,hb2⟩;have hown2:=jU HO.out hb2;have HO2:=hown2.alloc (.cells #[.string (gF x)] 9);have HB2:Hid (Below w.heap.size w w2):=HB.out.trans (hb2.mono hwz);have hw2:=HB2.out.size;have hps:(⟨(cH 16 3 x).toArray⟩:ByteArray)=gF x:=rfl;clear hb2 hown2;go_wp2_with(at_builtin;refine BX _ rfl _ _ 28 rfl w.heap.size 9 i0 (.string ⟨#[]⟩) 1 16 jI hi hz0 hz1 hz2 rfl (by decide) _ _ _ rfl HO2 ⟨w2.heap.size,0,none⟩ 1 1 [.string (gF x)] rfl rfl ?c1 ?c2 ?c3 ?c4 ?c5 ?_)
   case c1=>
    intro j u hj;match j,hj with
    |0,hj=>simp at hj;subst hj;exact ew w2 #[.string (gF x)] 9 0
   case c2=>intro u hu;simp at hu;subst hu;rfl
   case c3=>unfold maxLen;omega
   case c4=>omega
   case c5=>simp;omega
   intro v' w3 hown' hgrow _;have HOW:Hid (w3.ownsRow w.heap.size 9 1 v' (q+1) ((ps.take q).map (λp=>Value.string (gF p))++ [.string (gF x)])):=by show World.ownsRow _ _ _ _ _ _ _;rw[List.map_take];exact hown'
   have HBB:Hid (Below w.heap.size w w3):=(HB2.out.alloc (by omega) _).grown hgrow (by simp;omega) (λk hk=>(HO2.lt k hk).1);clear hown' hgrow HO2;go_wp2;go_roundw
   case rel=>refine⟨q+1,by omega,by go_num,?_,HBB.out⟩;rw[HTK.out];exact HOW.out
   case measure=>simp[intOf];omega
  .have hqe:q=ps.length:=by omega
   subst hqe;have hown:=HO.out;rw[un] at hown;obtain⟨sp,cap2,rfl,hform⟩:=pV hown;have HCT:Hid (Calls Tryz.prog 189 #[.slice sp ps.length cap2,.string ⟨#[58]⟩] wr λe w'=>e=.returned (.string ⟨(bK ps).toArray⟩)/\Below wr.heap.size wr w'):=by
    by_cases h0:ps.length=0
    .have:=Tryz.strings_Join_none sp cap2 ⟨#[58]⟩ wr
     have he:ps=[]:=uk h0;subst he;refine this.mono ?_;rintro e w' ⟨rfl,rfl⟩;exact⟨rfl,ai _ _⟩
    .obtain⟨g,rfl,_,hcells⟩:=hform (by omega)
     have hcc:ps.length<=cap2:=by
      rcases hown.2 with⟨h,_⟩|⟨g',cap',cur,h,_,_,h4,_⟩
      .cases h
      .cases h;exact h4
     have hj:=Tryz.strings_Join g 0 cap2 (ps.map gF) ⟨#[58]⟩ wr (by
       intro j x hx;rw[fP];refine hcells j (.string x) ?_;rw[fy] at hx⊢;cases hp:ps[j]?with
       |none=>rw[hp] at hx;simp at hx
       |some p=>rw[hp] at hx;simp at hx⊢;exact hx) (by
       obtain⟨x,hx⟩:∃x,ps[0]?=some x:=⟨ps[0]'(by omega),by simp⟩;exact block_lt_of_cell (hcells 0 (.string (gF x)) (by rw[fy,hx];rfl))) (by simp;omega) (by simpa using hcc) (by
       have:=jw ps;unfold bK at this;have e:((ps.map gF).map (·.data.toList))=ps.map pieceTxt:=by rw[qK];rfl
       rw[e];show(Lib.join (ps.map pieceTxt) [58]).length<=_;omega)
     have e:((ps.map gF).map (·.data.toList))=ps.map pieceTxt:=(by rw[qK];rfl);rw[e,gX] at hj;exact hj
   clear hown hform;go_wp2_with fail;refine HCT.out.mono ?_;rintro e w2 ⟨rfl,hb2⟩;go_wp2;go_ret;exact⟨rfl,HB.out.trans (hb2.mono hwz)⟩
theorem KO (a:Array Value) (q:Nat) (v:Value) (b:q<8) (h:a[q]?=some v) (w:World):(Instr.index 177 (.agg a) (.int .i64 q)).run prog w=.ok v w:=by simp[Instr.index,asIntOf,qY underlying177,qY underlying151,part,isAgg,h,b]
set_option maxRecDepth 100000 in
theorem KP (a:List Nat) (w:World) (k:a.length=8) (v:∀p∈a,p<65536):Calls prog 195 #[.agg (ck a)] w fun e w'=>e=.returned (.tuple #[.int .i64 ((bP a 0 0 0 0).1:Nat),.int .i64 ((bP a 0 0 0 0).2:Nat)])/\Bl w w':=by
 have B:=hI v;have A:Hid ((prog.info? 177).map (·.size)=some (ck a).size):=by show _=_;rw[pX,k];exact ic
 have t:=hI k;have E:Hid ((w.alloc (.cells (ck a) 177)).heap[w.heap.size]?=some (.cells (ck a) 177 (0,0))):=dO w _;generalize n:bP a 0 0 0 0=z;have D:=hI n;clear v k n;go_enter func195,ntmps195;go_wp2_with(first|refine cb rfl 177 _ rfl w.heap.size rfl 177 (ck a) (0,0) _ E underlying177 rfl A ?_);go_loop [2,3,4,8] (fun s l r i=>∃f d c q:Nat,s=Iv f/\l=Iv d/\r=Iv c/\i=Iv q/\q<=8/\c<=q/\d<=8/\f<=8/\bP (a.drop q) q c f d=z) (fun _ _ _ i=>8-(intOf i).toNat)
 case atStart=>exact⟨0,0,0,0,rfl,rfl,rfl,rfl,by omega,by omega,by omega,by omega,D⟩
 case round=>
  obtain⟨f,d,c,q,rfl,rfl,rfl,rfl,H,K,F,J,(g:Hid _)⟩:=hrel;by_cases C:q<8
  .obtain⟨x,h⟩:∃x,a[q]?=some x:=⟨a[q]'(by have:=t.out;omega),by simp⟩
   have u:=zr a q x h;have I:=KO (ck a) q _ C u (w.alloc (.cells (ck a) 177));clear u;have G:=B x (ef h);have j:Hid (a.drop q=x::a.drop (q+1)):=(by obtain⟨b,y⟩:=dN.1 h;show _=_;rw[ch b,y]);clear h;by_cases m:x=0
   .subst m
    by_cases o:d<c+1
    .go_wp2
     go_round
     case rel=>
      refine⟨q- c,c+1,c+1,q+1,?_,by go_num,by go_num,by go_num,by omega,by omega,by omega,by omega,?_⟩
      .grind
      .have b:=g
       rw[j.out] at b;unfold bP at b;rwa[ab (by simp),ae o] at b
     case measure=>grind[intOf]
    .go_wp2
     go_round
     case rel=>refine⟨f,d,c+1,q+1,rfl,rfl,by go_num,by go_num,by omega,by omega,by omega,by omega,?_⟩;have b:=g;rw[j.out] at b;unfold bP at b;rwa[ab (by simp),ab o] at b
     case measure=>grind[intOf]
   .go_wp2
    go_round
    case rel=>refine⟨f,d,0,q+1,rfl,rfl,rfl,by go_num,by omega,by omega,by omega,by omega,?_⟩;have b:=g;rw[j.out] at b;unfold bP at b;rwa[ae m] at b
    case measure=>grind[intOf]
  .go_wp2
   go_ret2;have b:=g;rw[eW (by have:=t.out;omega)] at b;refine⟨?_,(ai _ w).alloc .refl _⟩;rw[<-b];rfl
theorem KR (w:World) (a:List Nat) (t:TypeId):∀(j p:Nat),a[j]?=some p->(w.alloc (.cells (ck a) t)).cell? ⟨w.heap.size,0+j,none⟩=some (.int .u64 (p:Nat)):=by simp_all[zr]
set_option maxRecDepth 100000 in
theorem KS (ps:List Nat) (w:World) (h8:ps.length=8) (hps:∀p∈ps,p<65536) (henv:Tryz.Env w) (htz:Tryz.Tz w):Calls Tryz.prog 140 #[.agg (ck ps)] w λe w'=>e=.returned (.string ⟨(et ps).toArray⟩)/\Below w.heap.size w w':=by
 have hg15:=henv.size;have hbd:=pW 8 ps 0 0 0 0 (by omega) (by omega) (by omega);have HB0:Hid (Below w.heap.size w (w.alloc (.cells (ck ps) 177))):=(ai _ w).alloc (aG _) _;have HV0:Hid (Tryz.Env (w.alloc (.cells (ck ps) 177))):=henv.below HB0.out;have HT0:Hid (Tryz.Tz (w.alloc (.cells (ck ps) 177))):=htz.below HB0.out (by omega);have HSZ:Hid ((Tryz.prog.info? 177).map (·.size)=some (ck ps).size):=by show _=_;rw[pX,h8];exact ic
 have HN:Hid ((w.alloc (.cells (ck ps) 177)).heap[w.heap.size]?=some (.cells (ck ps) 177 (0,0))):=dO w _;have HL:Hid (Calls Tryz.prog 195 #[.agg (ck ps)] (w.alloc (.cells (ck ps) 177)) λe w'=>e=.returned (.tuple #[.int .i64 ((bP ps 0 0 0 0).1:Nat),.int .i64 ((bP ps 0 0 0 0).2:Nat)])/\Below (w.alloc (.cells (ck ps) 177)).heap.size (w.alloc (.cells (ck ps) 177)) w'):=KP ps _ h8 hps;have HCX:Hid (∀(W:World) (o cap:Nat) (qs:List Nat),Below (w.alloc (.cells (ck ps) 177)).heap.size (w.alloc (.cells (ck ps) 177)) W->qs.length<=8->qs.length<=cap->cap<=8->(∀j p,qs[j]?=some p->ps[o+j]?=some p)->Calls Tryz.prog 196 #[.slice (some ⟨w.heap.size,o,none⟩) qs.length cap] W λe w'=>e=.returned (.string ⟨(bK qs).toArray⟩)/\Below W.heap.size W w'):=by
  intro W o cap qs hW h1 h2 h3 hin;have hz:=hW.size;refine KQ w.heap.size o cap qs W (by simp at hz;omega) h1 h2 h3 (λp hp=>?_) (λj p hj=>?_) (HV0.out.below hW) (HT0.out.below hW (by simp;omega))
  .obtain⟨j,hj⟩:=oz.1 hp
   exact hps p (ef (hin j p hj))
  .rw[hW.cell (p:=⟨w.heap.size,o+j,none⟩) (by simp)]
   have:=KR w ps 177 (o+j) p (hin j p hj);rw[fP] at this;exact this
 generalize hs:(bP ps 0 0 0 0).1=s at*;generalize hl:(bP ps 0 0 0 0).2=l at*;have HST:Hid (et ps=if l<2 then bK ps else bK (ps.take s)++([58,58]++bK (ps.drop (s+l)))):=by show _=_;unfold et;rw[hs,hl]
 have H8:Hid (ps.length=8):=h8;clear h8 hps henv htz hs hl;go_enter Tryz.func140,Tryz.ntmps140;go_wp2_with(first|refine cb rfl 177 _ rfl w.heap.size rfl 177 (ck ps) (0,0) _ HN.out Tryz.underlying177 rfl HSZ.out ?_|fail);refine HL.out.mono ?_;rintro e w1 ⟨rfl,hb1⟩;have HB1:Hid (Below (w.alloc (.cells (ck ps) 177)).heap.size (w.alloc (.cells (ck ps) 177)) w1):=hb1;have HBW:Hid (Below w.heap.size w w1):=HB0.out.trans (hb1.mono (by simp));clear hb1;by_cases hl2:l<2
 .have HC1:Hid (Calls Tryz.prog 196 #[.slice (some ⟨w.heap.size,0,none⟩) 8 8] w1 λe w'=>e=.returned (.string ⟨(bK ps).toArray⟩)/\Below w1.heap.size w1 w'):=by
   have:=HCX.out w1 0 8 ps HB1.out (by rw[H8.out];omega) (by rw[H8.out];omega) (by omega) (λj p hj=>by rw[fP];exact hj);rw[H8.out] at this;exact this
  go_wp2_with fail;refine HC1.out.mono ?_;rintro e w2 ⟨rfl,hb2⟩;go_wp2;go_ret;refine⟨?_,HBW.out.trans (hb2.mono HBW.out.size)⟩;rw[HST.out,ae hl2];rfl
 .have hs8:s<=8:=by omega
  have HC1:Hid (∀W,Below w1.heap.size w1 W->Calls Tryz.prog 196 #[.slice (some ⟨w.heap.size,0,none⟩) s 8] W λe w'=>e=.returned (.string ⟨(bK (ps.take s)).toArray⟩)/\Below W.heap.size W w'):=by
   intro W hW;have:=HCX.out W 0 8 (ps.take s) (HB1.out.trans (hW.mono HB1.out.size)) (by simp;rw[H8.out];omega) (by simp;rw[H8.out];omega) (by omega) (λj p hj=>by
    rw[fP];rw[ow] at hj;split at hj
    .exact hj
    .simp at hj)
   rw[cL,H8.out,BY hs8] at this;exact this
  have hsl1:∀W,(Instr.sliceAt 177 (.pointer (some ⟨w.heap.size,0,none⟩)) none (some (.int .i64 (s:Nat))) none).run Tryz.prog W=.ok (.slice (some ⟨w.heap.size,0,none⟩) s 8) W:=λW=>Ks w.heap.size s hs8 W;have hlen1:=jw (ps.take s);have hlen2:=jw (ps.drop (s+l));have hlen3:(ps.take s).length<=8:=by simp;omega
  have hlen4:(ps.drop (s+l)).length<=8:=by simp;rw[H8.out];omega
  obtain⟨d,hd⟩:∃d,s+l=d:=⟨_,rfl⟩;obtain⟨D,hDD⟩:∃D,D=ps.drop d:=⟨_,rfl⟩;obtain⟨T,hTT⟩:∃T,T=ps.take s:=⟨_,rfl⟩;obtain⟨r,hr⟩:∃r,d+r=8:=⟨8- d,by omega⟩;rw[hd,<-hDD] at hlen2 hlen4;rw[<-hTT] at HC1 hlen1 hlen3;have hDl:D.length=r:=by rw[hDD,cm,H8.out];omega
  have hdi:(s:Int)+(l:Int)=(d:Int):=by omega
  have hdw:IntKind.i64.wrap (d:Int)=(d:Int):=jP _ (by omega) (by omega);have HFIN:Hid (et ps=bK T++([58,58]++bK D)):=by show _=_;rw[HST.out,ab hl2,hd,hDD,hTT]
  have hd9:d<=8:=by omega
  have hll:l<=8:=by omega
  clear hTT hbd hd HST;by_cases hd8:d<8
  .skip
   have HC2:Hid (∀W,Below w1.heap.size w1 W->Calls Tryz.prog 196 #[.slice (some ⟨w.heap.size,d,none⟩) r r] W λe w'=>e=.returned (.string ⟨(bK D).toArray⟩)/\Below W.heap.size W w'):=by
    intro W hW;have:=HCX.out W d r D (HB1.out.trans (hW.mono HB1.out.size)) hlen4 (by omega) (by omega) (λj p hj=>by
     rw[hDD,ox] at hj;exact hj)
    rw[hDl] at this;exact this
   have hsl2:∀W,(Instr.sliceAt 177 (.pointer (some ⟨w.heap.size,0,none⟩)) (some (.int .i64 (d:Nat))) none none).run Tryz.prog W=.ok (.slice (some ⟨w.heap.size,d,none⟩) r r) W:=λW=>by
    have:=za w.heap.size d hd8 W;rw[show 8- d=r by omega] at this;exact this
   clear hr hDD;go_wp2_with fail;go_region_with (first|(go_at_call_of 196 (Value.slice (some ⟨w.heap.size,0,none⟩) s 8);refine(HC1.out _ (by with_reducible exact(ai _ w1).drew)).mono ?_;rintro e w2 ⟨rfl,hb2⟩)|(go_at_call_of 196 (Value.slice (some ⟨w.heap.size,d,none⟩) r r);refine(HC2.out _ (by exact((ai _ w1).drew).trans hb2)).mono ?_;rintro e w3 ⟨rfl,hb3⟩));all_goals
    go_wp2;go_ret;refine⟨?_,HBW.out.trans ((((ai _ w1).drew).trans (hb2.trans (hb3.mono hb2.size))).mono HBW.out.size)⟩;rw[HFIN.out];show Ending.returned (.string ((⟨(bK T).toArray⟩++⟨#[58,58]⟩)++⟨(bK D).toArray⟩))=_;rw[show(⟨#[58,58]⟩:ByteArray)=⟨[58,58].toArray⟩ from rfl,aP,aP,eU]
  .skip
   have HC2:Hid (∀W,Below w1.heap.size w1 W->Calls Tryz.prog 196 #[.slice (some ⟨w.heap.size,0,none⟩) 0 0] W λe w'=>e=.returned (.string ⟨(bK D).toArray⟩)/\Below W.heap.size W w'):=(by intro W hW;have e:D=[]:=(by rw[hDD];exact eW (by rw[H8.out];omega));rw[e];exact HCX.out W 0 0 [] (HB1.out.trans (hW.mono HB1.out.size)) (by simp) (by simp) (by omega) (λj p hj=>by simp at hj));have hsl2:∀W,(Instr.sliceAt 177 (.pointer (some ⟨w.heap.size,0,none⟩)) (some (.int .i64 (d:Nat))) none none).run Tryz.prog W=.ok (.slice (some ⟨w.heap.size,0,none⟩) 0 0) W:=λW=>by
    rw[show(d:Int)=8 by omega];exact zc w.heap.size W
   clear hr hDD;go_wp2_with fail;go_region_with (first|(go_at_call_of 196 (Value.slice (some ⟨w.heap.size,0,none⟩) s 8);refine(HC1.out _ (by with_reducible exact(ai _ w1).drew)).mono ?_;rintro e w2 ⟨rfl,hb2⟩)|(go_at_call_of 196 (Value.slice (some ⟨w.heap.size,0,none⟩) 0 0);refine(HC2.out _ (by exact((ai _ w1).drew).trans hb2)).mono ?_;rintro e w3 ⟨rfl,hb3⟩));all_goals
    go_wp2;go_ret;refine⟨?_,HBW.out.trans ((((ai _ w1).drew).trans (hb2.trans (hb3.mono hb2.size))).mono HBW.out.size)⟩;rw[HFIN.out];show Ending.returned (.string ((⟨(bK T).toArray⟩++⟨#[58,58]⟩)++⟨(bK D).toArray⟩))=_;rw[show(⟨#[58,58]⟩:ByteArray)=⟨[58,58].toArray⟩ from rfl,aP,aP,eU]
set_option maxRecDepth 100000 in
theorem Kf (s:ByteArray) (w:World) (T:s.size<4294967281) (i:Env w) (u:Tz w):Calls prog 83 #[.string s] w fun e w'=>iC (gc s.data.toList) e/\Bl w w':=by
 have S:=i.size;have Q:=hI i;have L:=hI u;have h:=strings_CutSuffix s ⟨#[93]⟩ w (by omega);rw[show(⟨#[93]⟩:ByteArray).data.toList=[93] from rfl] at h;by_cases g:Lib.hasSuffix s.data.toList [93]=true
 .rw[g] at h
  have m:=hI h;have d:gc s.data.toList=(match fw (Lib.trimSuffix s.data.toList [93]) with|some f=>some ([91]++(et (f.map Int.toNat)++ [93]))|none=>none):=by unfold gc;rw[ae g];rfl
  have K:(Lib.trimSuffix s.data.toList [93]).length<4294967281:=by unfold Lib.trimSuffix;rw[ae g];simp;omega
  generalize Lib.trimSuffix s.data.toList [93]=I at*;have l:=hI (Kv (Bv I) w (by grind[al]) i);clear h i u g K;cases k:fw I with
  |none=>rw[k] at l d;rw[d];clear d k;go_enter func83,ntmps83;go_wp2_with fail;refine mR m.out fun a c=>?_;obtain rfl:=c.symm;go_wp2_with fail;refine l.out.mono ?_;rintro e a ⟨⟨J,H,rfl⟩,j⟩;have c:=j.size;have t:Hid ((a.alloc (.cells (aH zero8) 177)).heap[a.heap.size]?=some (.cells (aH zero8) 177 (0,0))):=dO a _;go_wp2_with(refine aY rfl 177 _ _ rfl a.heap.size (aH zero8) rfl rfl 177 (aH zero8) t ic rfl (mu _) ?_);go_ret2;exact⟨⟨_,_,rfl⟩,aZ (j.alloc c _) c _⟩
  |some f=>
   have r:=tj I f k;have A:=KN f r.2;rw[k] at l d;have D:Hid (CB 139 #[Sv I] w (.tuple #[.agg (ck (f.map Int.toNat)),.nilIface])):=(by have:=l;refine this.mono ?_;rintro e w' ⟨y,v⟩;refine⟨?_,v⟩;rw[<-A];exact y);have n:(f.map Int.toNat).length=8:=(by rw[gX];exact r.1);have F:Hid (∀p∈f.map Int.toNat,p<65536):=(by intro p O;obtain⟨q,C,rfl⟩:=jJ.1 O;have:=r.2 q C;unfold iB at this;omega);rw[d];simp only[];generalize f.map Int.toNat=b at*;have M:=hI n;have x:Hid ((prog.info? 177).map (·.size)=some (ck b).size):=(by show _=_;rw[pX,n];exact ic);have N:Hid ((aH zero8).size=(ck b).size):=(by show _=_;rw[pX,n];rfl);have U:(et b).length<=1000:=by
    have y:=jw b;have v:=jw (b.take (bP b 0 0 0 0).1);have R:=jw (b.drop ((bP b 0 0 0 0).1+(bP b 0 0 0 0).2));unfold et;split
    .omega
    .grind
   clear d k r A l n;go_enter func83,ntmps83;go_wp2_with fail;refine mR m.out fun a c=>?_;obtain rfl:=c.symm;go_wp2_with fail;refine mR D.out fun a j=>?_;have c:=j.size;have t:Hid ((a.alloc (.cells (aH zero8) 177)).heap[a.heap.size]?=some (.cells (aH zero8) 177 (0,0))):=dO a _;have E:Hid (((a.alloc (.cells (aH zero8) 177)).setRow a.heap.size (ck b)).heap[a.heap.size]?=some (.cells (ck b) 177 (0,0))):=bH _ _ _ _ _ _ t;have o:Hid (Bl w ((a.alloc (.cells (aH zero8) 177)).setRow a.heap.size (ck b))):=aZ (j.alloc c _) c _;have G:=hI (Q.out.below o);have B:=hI (L.out.below o (by omega));go_wp2_with(first|refine aY rfl 177 _ _ rfl a.heap.size (ck b) rfl rfl 177 (aH zero8) t x N (mu _) ?_|refine cb rfl 177 _ rfl a.heap.size rfl 177 (ck b) (0,0) _ E underlying177 rfl x ?_|fail);refine mR (KS b _ M F G B) fun W P=>?_;go_wp2;go_ret2;refine⟨?_,o.out.trans (P.mono o.out.size)⟩;show Ending.returned (.tuple #[.string ((⟨[91].toArray⟩++(Bv (et b)))++⟨[93].toArray⟩),.nilIface])=_;rw[aP,aP,eU];rfl
 .have z:=il.2 g
  rw[z] at h;have m:=hI h;have d:gc s.data.toList=none:=by unfold gc;rw[ab g]
  rw[d];obtain⟨J,H,V⟩:=i.eBracket;clear h i u g d z;go_enter func83,ntmps83;go_wp2_with fail;refine m0 m.out ?_;go_wp2;go_quiet (fail);go_wp2;go_ret2;exact⟨⟨_,_,rfl⟩,cr (ai _ _) _⟩
theorem yU {o:Option (List UInt8)} {e:Ending} (h:iC o e):∃a b,e=.returned (.tuple #[a,b])/\iC o (.returned (.tuple #[a,b])):=by
 cases o with
 |some l=>exact⟨_,_,h,rfl⟩
 |none=>obtain⟨t,v,h⟩:=h;exact⟨_,_,h,⟨t,v,rfl⟩⟩
theorem Kg (s:ByteArray) (c:Bool) (w:World) (l:s.size<4294967281) (p:1<=s.size) (b:Lib.hasPrefix s.data.toList (⟨#[91]⟩:ByteArray).data.toList=true) (f:Env w) (j:Tz w):Calls prog 55 #[.string s,.bool c] w fun e w'=>iC (gc (s.data.toList.drop 1)) e/\Bl w w':=by
 have g:=hI b;have h:Hid (CP 83 #[.string (s.extract 1 s.size)] w (iC (gc (s.L.drop 1)))):=by have:=Kf (s.extract 1 s.size) w (by grind[ByteArray.size_extract]) f j;rwa[py s 1] at this
 generalize gc (s.L.drop 1)=o at*;clear b;go_enter func55,ntmps55;go_wp2_with(go_at_call 82;refine(rT _ _ _ g).mono ?_;rintro e w' ⟨rfl,rfl⟩);refine h.out.mono ?_;rintro e n ⟨a,d⟩;obtain⟨m,k,rfl,a⟩:=yU a;have i:=hI a;clear a;go_wp2;go_ret2;exact⟨i,d⟩
theorem wS (s:ByteArray) (k:Nat) (h:k<s.size) (a:eL s[k]=true):s.data.toList.any eL=true:=by rw[qQ];exact⟨s[k],mW (l:=s.L) (n:=k) (by simpa using h),a⟩
theorem wT (s:ByteArray) (h:∀(j:Nat) (a:j<s.size),eL s[j]=false):s.data.toList.any eL=false:=by rw[uq];intro x b;obtain⟨j,a,rfl⟩:=oa b;have:eL s.L[j]=false:=h j (by simpa using a);rw[this];simp
theorem FG (s:ByteArray) (w:World) (p:s.size<4294967281) (f:Env w):Calls prog 85 #[.string s] w fun e w'=>iC (ie s.data.toList) e/\Bl w w':=by
 have o:=hI (lu s 0 w (by omega) f.sets (by have:=f.size;omega));go_enter func85,ntmps85;go_wp21;go_loop [4] (fun i=>∃k:Nat,k<=s.size/\i=Iv k/\∀(j:Nat) (a:j<s.size),j<k->eL s[j]=false) (fun i=>s.size-(intOf i).toNat)
 case atStart=>grind
 case round=>
  obtain⟨k,q,rfl,(d:Hid _)⟩:=hrel;by_cases g:k<s.size
  .by_cases b:0<=Lib.indexByte pY s[k]
   .have c:Hid (ie s.L=none):=by
     show _=_;unfold ie;rw[ae (wS s k g (dC b))]
    go_wp2_with(go_at_call 141;refine(tl _ _ _ b).mono ?_;rintro e w' ⟨⟨i,n,rfl⟩,rfl⟩);go_quiet (fail);go_wp2;go_ret2;refine⟨?_,cr (ai _ _) _⟩;rw[c.out];exact⟨_,_,rfl⟩
   .have l:Hid (∀(j:Nat) (a:j<s.size),j<k+1->eL s[j]=false):=by
     intro j a h;by_cases e:j=k
     .subst e;exact ee b
     .exact d j a (by omega)
    go_wp2_with(go_at_call 141;refine(pZ _ _ _ b).mono ?_;rintro e w' ⟨⟨i,n,rfl⟩,rfl⟩);go_round
    case rel=>exact⟨k+1,by omega,by go_num,l⟩
    case measure=>grind[intOf]
  .have c:Hid (ie s.L=some (ah 0 s.L)):=by
    show _=_;unfold ie;rw[wT s (fun j a=>d.out j a (by omega))];rfl
   go_wp21;refine mR o.out fun r m=>?_;go_wp2;go_ret2;rw[c.out];exact⟨rfl,m⟩
theorem FH (s:ByteArray) (w:World) (c:s.size<4294967281) (b:Lib.hasPrefix s.data.toList (⟨#[91]⟩:ByteArray).data.toList=false) (d:Env w):Calls prog 55 #[.string s,.bool false] w fun e w'=>iC (ie s.data.toList) e/\Bl w w':=by have g:=hI b;have h:=hI (FG s w c d);generalize ie s.L=o at*;clear b;go_enter func55,ntmps55;go_wp2_with(go_at_call 82;refine(mg _ _ _ g).mono ?_;rintro e w' ⟨rfl,rfl⟩);refine h.out.mono ?_;rintro e l ⟨a,f⟩;obtain⟨k,j,rfl,a⟩:=yU a;have i:=hI a;clear a;go_wp2;go_ret2;exact⟨i,f⟩
theorem wU (s:ByteArray) (b:Bool) (w:World) (d:s.size<4294967281) (f:Env w) (i:Tz w):Calls prog 55 #[.string s,.bool b] w λe w'=>iC (hostTell s.data.toList b) e/\Bl w w':=by
 unfold hostTell;by_cases a:Lib.hasPrefix s.data.toList [91]=true
 .rw[ae a]
  refine Kg s b w d ?_ a f i;rw[iJ];cases h:s.data.toList with
  |nil=>rw[h] at a;cases a
  |cons c r=>simp
 .have g:=il.2 a
  rw[ab a];cases b with
  |true=>exact FU s w d g f
  |false=>exact FH s w d g f
theorem rH (s:ByteArray) (a:Bool) (w:World) (b:s.size<4294967281) (c:Env w) (d:Tz w):Calls prog 32 #[.string s,.bool a] w λe w'=>pr s (hostTell s.data.toList a) e/\Bl w w':=
 xd s a _ w (wU s a w b c d)
theorem FI (s:ByteArray) (a:Bool) (w:World) (c:s.size<=2000) (b:Env w) (d:Tz w):Calls prog 18 #[.string s,.bool a] w λe w'=>e=xe (hostTell s.data.toList a)/\Bl w w':=
 FV s a _ w b c (wU s a w (by omega) b d)
def lN (n:Int) (o:Option Bs) (e:Ending):Prop:=
 match o with
 |some l=>e=.returned (.tuple #[.string ⟨l.toArray⟩,.nilIface])
 |none=>∃x y t v,e=.returned (.tuple #[.string ⟨#[]⟩,.iface 96 (.agg #[.int .i64 n,.string x,.string y,.iface t v])])
theorem io (l:Bs) (h:l≠[]):(⟨l.toArray⟩:ByteArray).toList.isEmpty=false:=by simp_all
theorem nc:(⟨([]:Bs).toArray⟩:ByteArray).toList.isEmpty=true:=by simp
theorem Ch (t a b:Bs) (w:World) (n:t.length<4294967281) (f:Env2 w):Calls prog 306 #[.string ⟨t.toArray⟩,.string ⟨a.toArray⟩,.string ⟨b.toArray⟩] w fun e w'=>lN 4 (eX hostTell t a b) e/\Bl w w':=by
 have m:=hI (iw (Bv b) w);have i:Hid (Calls Tryz.prog 32 #[.string ⟨t.toArray⟩,.bool (ao b)] w fun e w'=>pr ⟨t.toArray⟩ (hostTell t (ao b)) e/\Below w.heap.size w w'):=rH ⟨t.toArray⟩ (ao b) w (by rw[al];exact n) f.env f.tz;obtain⟨C,B,u⟩:=f.eHost;by_cases k:t=[]/\a≠[]
 .obtain⟨rfl,g⟩:=k
  have d:Hid (eX hostTell [] a b=none):=hI (by unfold eX;rw[ae ⟨rfl,g⟩]);have v:=io a g;obtain⟨s,j⟩:∃s:ByteArray,s=⟨a.toArray⟩:=⟨_,rfl⟩;rw[<-j] at v⊢;clear g j f n;go_enter func306,ntmps306;go_wp2;go_quiet (fail);go_wp2;go_ret2;rw[d.out];exact⟨⟨_,_,_,_,rfl⟩,ko _ _ _⟩
 .have d:Hid (eX hostTell t a b=hostTell t (ao b)):=hI (by unfold eX;rw[ab k])
  generalize ao b=y at*;generalize hostTell t y=o at*;by_cases p:t=[]
  .have g:a=[]:=by
    by_cases h:a=[]
    .exact h
    .grind
   subst p;subst g;clear k f n u;cases o with
   |none=>go_enter func306,ntmps306;go_wp2_with fail;refine mR m.out fun w' q=>?_;obtain rfl:=q.symm;go_wp2_with fail;refine i.out.mono ?_;rintro e r ⟨⟨x,A,rfl⟩,c⟩;go_wp2;go_ret2;rw[d.out];exact⟨⟨_,_,_,_,rfl⟩,c⟩
   |some l=>go_enter func306,ntmps306;go_wp2_with fail;refine mR m.out fun w' q=>?_;obtain rfl:=q.symm;go_wp2_with fail;refine mR i.out fun r c=>?_;go_wp2;go_ret2;rw[d.out];exact⟨rfl,c⟩
  .have z:=io t p
   obtain⟨s,j⟩:∃s:ByteArray,s=⟨t.toArray⟩:=⟨_,rfl⟩;rw[<-j] at z i⊢;clear k f n u p j;cases o with
   |none=>go_enter func306,ntmps306;go_wp2_with fail;refine m0 m.out ?_;go_wp2_with fail;refine i.out.mono ?_;rintro e r ⟨⟨x,A,rfl⟩,c⟩;go_wp2;go_ret2;rw[d.out];exact⟨⟨_,_,_,_,rfl⟩,c⟩
   |some l=>go_enter func306,ntmps306;go_wp2_with fail;refine m0 m.out ?_;go_wp2_with fail;refine mR i.out fun r c=>?_;go_wp2;go_ret2;rw[d.out];exact⟨rfl,c⟩
theorem cutLogin_len (l:Bs):(bB l).1.length<=l.length/\(bB l).2.length<=l.length:=by
 obtain⟨_,h⟩|⟨p,r,a,_,h⟩:=uI l
 .rw[h];simp
 .grind
theorem cutPort_len (l:Bs):(cy l).1.length<=l.length/\(cy l).2.length<=l.length:=by
 rw[vB];unfold ay;cases h:aN 58 (l.drop (fD l)) with
 |none=>simp
 |some p=>have a:=aB List.length (cutB_parts 58 _ p.1 p.2 h);simp at a⊢;omega
def dP (a:Auth):Array Value:=#[.string ⟨a.e.toArray⟩,.string ⟨a.d.toArray⟩,.bool a.has,.string ⟨a.h.toArray⟩,.int .i64 a.p]
def eI:Array Value:=#[.string ⟨#[]⟩,.string ⟨#[]⟩,.bool false,.string ⟨#[]⟩,.int .i64 0]
theorem Ci (a:Auth):(dP a).all (·.oneCell')=true:=by simp[dP,Value.oneCell']
theorem uQ:eI.all (·.oneCell')=true:=by simp[eI,Value.oneCell']
theorem lO:(prog.info? 71).map (·.size)=some 5:=by kernel_rfl
def uR (o:Except Int Auth) (e:Ending):Prop:=
 match o with
 | .ok a=>e=.returned (.tuple #[.agg (dP a),.nilIface])
 | .error n=>∃x y t v,e=.returned (.tuple #[.agg eI,.iface 96 (.agg #[.int .i64 n,.string x,.string y,.iface t v])])
end Go.Proofs
