import Derived.Test.YtkcnageeamappaaGreatDoorXRRun
set_option maxHeartbeats 32000000
set_option maxRecDepth 8000
set_option linter.unusedSimpArgs false
namespace Go.Moor
open Go
section
variable (H : Bs → Bool → Option Bs)
theorem sE (j:HostMarks H) (base:Option Adr) (c:Mc) (m:Bs) (q f:Option Bs) (k:∀x,q=some x->∀b∈x,b≠35) (h:c.err=0) (g:c.st=4) (l:c.r=m++aA q f) (d:cT m) (o:c.u.w=⟨false,[],[]⟩):fg H base c (match cu H c.u.s (aq c.u.s m) with| .error e=>.error e| .ok (a,w)=>.ok (fh {c.u with t:=a,w:=w} q f)):=by
 refine gD H base c _ (by rw[g];decide) h ?_;have e:ap H base c=gB H c:=by simp[ap,g]
 rw[e];unfold gB cu;have i:=sI c.u.s m q f d;simp only[l,i.1,i.2,JG H j,lq];cases p:gq H (m.takeWhile λb=>!ak c.u.s b) c.u.s with
 |error n=>grind[gq,pO]
 |ok a=>simp only;have s:=pP c.u.s m;exact nO H base {c with u:={c.u with t:=a},r:=m.dropWhile (λb=>!ak c.u.s b)++aA q f,st:=5} _ q f k h rfl rfl (λx t=>d x (by grind)) o
theorem yu (s:Bs) (T:Bs) (b:∀c l,T=c::l->ak s c=false):∀m:Bs,(m++T).dropWhile (ak s)=m.dropWhile (ak s)++T/\aq s (m.dropWhile (ak s))=cW (aq s m)
 | []=>by
  refine⟨?_,?_⟩
  .cases T with
   |nil=>rfl
   |cons c l=>simp_all
  .simp[aq,cW]
 |c::m=>by
  have d:=yu s T b m;cases a:ak s c with
  |true=>simp_all[mq,cW]
  |false=>simp only[iL,oC,a,ge,fO];refine⟨trivial,?_⟩;rw[nM s c a];have:=mr s c a;simp[cW,this]
theorem JH (s m:Bs) (x:UInt8) (h:x∈m.dropWhile (ak s)):x∈m:=(mJ _).subset h
theorem yv (k:HostMarks H) (base:Option Adr) (c:Mc) (m:Bs) (q f:Option Bs) (o:∀x,q=some x->∀b∈x,b≠35) (g:c.err=0) (d:c.st=3) (p:c.r=m++aA q f) (j:cT m) (s:c.u.w=⟨false,[],[]⟩):fg H base c (match cu H c.u.s (cW (aq c.u.s m)) with| .error e=>.error e| .ok (a,w)=>.ok (fh {c.u with t:=a,w:=w} q f)):=by
 refine gD H base c _ (by rw[d];decide) g ?_;have e:ap H base c=jt c:=by simp[ap,d]
 rw[e];unfold jt;have i:=yu c.u.s (aA q f) (λb l h=>yD _ b (kA q f b l h)) m;rw[p,i.1,<-i.2];exact sE H k base {c with r:=m.dropWhile (ak c.u.s)++aA q f,st:=4} _ q f o g rfl rfl (λx n=>j x (JH _ m x n)) s
theorem yw (s m:Bs) (h:ao s=false):aq s m=m:=by grind[aq]
theorem yx (m:Bs) (q f:Option Bs) (d:cT m):(m++aA q f).takeWhile (λc=>!cY c)=m/\(m++aA q f).dropWhile (λc=>!cY c)=aA q f:=by have b:=sH (λc=>!cY c) (aA q f) (λc l h=>by grind[kA]) m;have a:=yA m (λc=>!cY c) (λc e=>by have:=d c e;simp[cY,this.1,this.2]);rw[b.1,b.2,a.1,a.2];exact⟨rfl,rfl⟩
theorem JI (I:HostMarks H) (base:Option Adr) (c:Mc) (m:Bs) (q f:Option Bs) (k:∀x,q=some x->∀b∈x,b≠35) (i:c.err=0) (E:c.st=15) (B:c.r=m++aA q f) (g:cT m) (D:c.u.w=⟨false,[],[]⟩) (o:c.u.t=noAuth) (G:ao c.u.s=false):fg H base c (match dR H c.u.s m with| .error e=>.error e| .ok (a,w)=>.ok (fh {c.u with t:=a,w:=w} q f)):=by
 refine gD H base c _ (by rw[E];decide) i ?_;have e:ap H base c=gj c:=by simp[ap,E]
 rw[e];unfold gj dR;have v:=λx=>yw c.u.s x G;have J:∀l,aA q f≠47::l:=λl h=>absurd (kA q f 47 l h) (by decide);match m,g with
 | [],g=>
  have n:¬(([]++aA q f).head? =some 47):=by
   intro h;cases F:aA q f with
   |nil=>grind
   |cons d l=>grind
  rw[B,ab n,ab (by simp),ab (by simp)];simp only;refine gD H base _ _ (by simp) i ?_;have s:ap H base {c with r:=[]++aA q f,st:=7}=iA {c with r:=[]++aA q f,st:=7}:=by simp[ap]
  rw[s];unfold iA;have j:=yx [] q f g;simp only[j.1,j.2];have:=kB H base {c with u:={c.u with w:=⟨true,dd [],[]⟩},r:=aA q f,st:=7} q f i rfl k;rw[<-o];exact this
 |d::l,g=>
  by_cases A:d=47
  .subst A
   have n:((47::l)++aA q f).head? =some 47:=rfl;rw[B,ae n];have C:cT l:=λx p=>g x (by simp[p]);match l,C with
   | [],C=>
    have t:¬((List.drop 1 ((47::[])++aA q f)).head? =some 47):=by
     intro h;cases F:aA q f with
     |nil=>grind
     |cons x y=>grind
    rw[ab t,ab (by simp),ae (by rfl)];simp only;have:=nO H base {c with r:=[47]++aA q f,st:=5} [47] q f k i rfl rfl g D;rw[v] at this;rw[<-o];exact this
   |x::y,C=>
    by_cases p:x=47
    .subst p
     rw[ae (by rfl),ae (by rfl)];have:=sE H I base {c with r:=y++aA q f,st:=4} y q f k i rfl rfl (λz hz=>g z (by simp[hz])) D;rwa[v] at this
    .have t:¬((List.drop 1 ((47::x::y)++aA q f)).head? =some 47):=by simpa using p
     rw[ab t,ab (by grind),ae (by rfl)];simp only;have:=nO H base {c with r:=(47::x::y)++aA q f,st:=5} (47::x::y) q f k i rfl rfl g D;rw[v] at this;rw[<-o];exact this
  .have n:¬(((d::l)++aA q f).head? =some 47):=by simpa using A
   rw[B,ab n,ab (by grind),ab (by simpa using A)];simp only;refine gD H base _ _ (by simp) i ?_;have s:ap H base {c with r:=(d::l)++aA q f,st:=7}=iA {c with r:=(d::l)++aA q f,st:=7}:=(by simp[ap]);rw[s];unfold iA;have j:=yx (d::l) q f g;simp only[j.1,j.2];have:=kB H base {c with u:={c.u with w:=⟨true,dd (d::l),[]⟩},r:=aA q f,st:=7} q f i rfl k;rw[<-o];exact this
theorem yy (base:Option Adr) (b:Adr) (c:Mc) (m:Bs) (q f:Option Bs) (e:∀x,q=some x->∀b∈x,b≠35) (i:c.err=0) (B:c.r=m++aA q f) (n:cT m) (D:ax (ak c.u.s) m=false) (E:c.u.w=⟨false,[],[]⟩) (A:c.u.q=none) (g:c.u.f=none) (F:b.w.o=false/\b.w.text=[]):fg H base (eq b c) (.ok {c.u with w:=(dc c.u.s (aq c.u.s m) (q.map (ah (bE c.u.s))) b).1,q:=(dc c.u.s (aq c.u.s m) (q.map (ah (bE c.u.s))) b).2,f:=f.map (ah 1)}):=by
 have j:b.w=⟨false,[],b.w.g⟩:=by
  cases I:b.w with
  |mk o t G=>grind
 have C:([]:List Bs)++b.w.g=b.w.g:=rfl;unfold eq dc;rw[B,E];simp only[C];cases m with
 |nil=>
  have v:aq c.u.s []=[]:=(kD _ _).2 rfl;rw[ab (show¬(aq c.u.s []≠[]) from λh=>h v)];rw[gn];rcases sG q f with a|⟨l,a,w⟩|⟨l,a,s⟩
  .rw[ae (.inl a)]
   have z:q=none/\f=none:=by
    cases q with
    |some x=>cases a
    |none=>
     cases f with
     |some y=>cases a
     |none=>simp
   obtain⟨rfl,rfl⟩:=z;have:=kB H base {c with u:={c.u with w:=⟨false,[],b.w.g⟩,q:=b.q},r:=aA none none} none none i rfl e;rw[<-j] at this⊢;simp only[fh,g] at this⊢;exact this
  .rw[ab,ae]
   .have:=kB H base {c with u:={c.u with w:=⟨false,[],b.w.g⟩},r:=aA q f} q f i rfl e
    rw[<-j] at this⊢;obtain⟨x,rfl⟩:∃x,q=some x:=by cases q with|none=>cases w|some x=>simp
    simp only[fh,g] at this⊢;cases f with
    |none=>exact this
    |some y=>exact this
   .rw[a];rfl
   .grind
  .subst s
   rw[ae (.inr (by rw[a];rfl))];have:=kB H base {c with u:={c.u with w:=⟨false,[],b.w.g⟩,q:=b.q},r:=aA none f} none f i rfl e;rw[<-j] at this⊢;simp only[fh,g] at this⊢;cases f with
   |none=>exact this
   |some y=>exact this
 |cons d l=>
  have k:=n d (by simp);rw[ab,ab,ae (nz _ _ (by simp))]
  .have:=nN H base q f e (d::l).length {c with u:={c.u with w:=⟨false,[],aI c.u.s b.w.g⟩},r:=(d::l)++aA q f,st:=6} (d::l) .refl i rfl rfl n
   have p:aV c.u.s (aI c.u.s b.w.g) (aq c.u.s (d::l))=⟨false,[],bU c.u.s (aI c.u.s b.w.g) (ar 47 (aq c.u.s (d::l)))⟩:=(by unfold aV bO;rw[ab (λh=>nz _ _ (by simp) h.1),kC,ab (by simp[D])]);rw[p];simp only[fh,g,A] at this⊢;cases q with
   |none=>grind
   |some x=>grind
  .simpa using k.2
  .simpa using k.1
theorem pN (s m:Bs):((aq s m).head? =some 47)↔ax (ak s) m=true:=by
 cases m with
 |nil=>grind[kD,ax]
 |cons c m=>grind[mq,ax,nM,mr]
theorem mo (s m:Bs):([47,47].isPrefixOf (aq s m)=true)↔(ax (ak s) m=true/\ax (ak s) (m.drop 1)=true):=by
 match m with
 | []=>grind[kD,ax]
 | [c]=>grind[jS,kD,ax]
 |c::d::m=>
  rw[jS,jS];simp only[List.isPrefixOf,Bt,fx,dM,ax,List.drop_succ_cons,mQ];constructor
  .grind[mr]
  .grind
theorem JJ (l:Bs):cW (47::l)=cW l:=by rfl
theorem yz (C:HostMarks H) (b:Adr) (c:Mc) (m:Bs) (q f:Option Bs) (j:∀x,q=some x->∀b∈x,b≠35) (g:c.err=0) (t:c.st=1) (I:c.r=m++aA q f) (B:cT m) (k:c.u.w=⟨false,[],[]⟩) (A:c.u.q=none) (v:c.u.f=none) (E:b.w.o=false/\b.w.text=[]):fg H (some b) c (match eA H c.u.s (aq c.u.s m) (q.map (ah (bE c.u.s))) b with| .error e=>.error e| .ok (a,w,q2)=>.ok ⟨c.u.s,a,w,q2,f.map (ah 1)⟩):=by
 refine gD H (some b) c _ (by rw[t];decide) g ?_;have e:ap H (some b) c=ib b c:=by simp[ap,t]
 rw[e];unfold ib eA;rw[I,mp];have G:∀(a:Auth) (w:Way),fh {c.u with t:=a,w:=w} q f=⟨c.u.s,a,w,q.map (ah (bE c.u.s)),f.map (ah 1)⟩:=by intro a w;unfold fh;simp only[A,v];cases q<;>cases f<;>rfl
 cases i:ax (ak c.u.s) m with
 |false=>rw[ab (by simp)];rw[ab (show¬List.isPrefixOf [47,47] (aq c.u.s m)=true from λh=>by grind[mo]),ab (show¬(aq c.u.s m).head? =some 47 from λh=>by grind[pN])];have:=yy H (some b) b {c with u:={c.u with t:=b.t},r:=m++aA q f} m q f j g rfl B i k A v E;exact this
 |true=>
  rw[ae rfl];obtain⟨d,l,rfl⟩:∃d l,m=d::l:=by
   cases m with
   |nil=>cases i
   |cons d l=>simp
  have s:cT l:=λx M=>B x (by simp[M]);refine gD H (some b) _ _ (by simp) g ?_;have D:ap H (some b) {c with r:=((d::l)++aA q f).drop 1,st:=2}=fZ b {c with r:=l++aA q f,st:=2}:=by simp[ap]
  rw[D];unfold fZ;simp only[mp];cases o:ax (ak c.u.s) l with
  |true=>
   rw[ae rfl];rw[ae (show List.isPrefixOf [47,47] (aq c.u.s (d::l))=true from(mo _ _).2 ⟨i,o⟩)];obtain⟨x,y,rfl⟩:∃x y,l=x::y:=by
    cases l with
    |nil=>cases o
    |cons x y=>simp
   have L:(aq c.u.s (d::x::y)).drop 2=aq c.u.s y:=(by rw[jS,jS];rfl);have K:ak c.u.s x=true:=o;rw[L];cases N:ao c.u.s with
   |true=>
    rw[ae rfl];have:=yv H C (some b) {c with r:=(x::y)++aA q f,st:=3} (x::y) q f j g rfl rfl s k;simp only[mq c.u.s x K,JJ] at this;simp only[eV];cases J:cu H c.u.s (cW (aq c.u.s y)) with
    |error n=>grind
    |ok p=>grind
   |false=>
    rw[ab (by simp)];have:=sE H C (some b) {c with r:=y++aA q f,st:=4} y q f j g rfl rfl (λz hz=>s z (by simp[hz])) k;simp only[ge,fO];cases J:cu H c.u.s (aq c.u.s y) with
    |error n=>grind
    |ok p=>grind
  |false=>
   rw[ab (by simp)];rw[ab (show¬List.isPrefixOf [47,47] (aq c.u.s (d::l))=true from λh=>by grind[mo]),ae (show(aq c.u.s (d::l)).head? =some 47 from(pN _ _).2 i)];have:=nN H (some b) q f j l.length {c with u:={c.u with t:=b.t},r:=l++aA q f,st:=6} l .refl g rfl rfl s;have F:aV c.u.s [] (aq c.u.s (d::l))=⟨false,[],bU c.u.s c.u.w.g (ar 47 (aq c.u.s l))⟩:=by unfold aV bO;rw[ab (λh=>nz _ _ (by simp) h.1),kC,ae i,k];rfl
   simp only;rw[F,<-G];exact this
end
def gM (s:Bs) (a:Auth) (w:Way):Prop:=(a.has=false->a=noAuth)/\(ao s=true->a.has=true/\w.o=false)/\(w.o=true->a.has=false/\w.g=[])/\(w.o=false->w.text=[])
def eJ (a:Adr):Prop:=gM a.s a.t a.w
theorem wJ {s:Bs} {a:Auth} {w:Way} (d:a.has=true) (c:w.o=false) (b:w.text=[]):gM s a w:=by grind[gM]
theorem wK {s:Bs} {a:Auth} {w v:Way} (h:gM s a w) (c:v.o=false) (b:v.text=[]):gM s a v:=by grind[gM]
section
variable (H : Bs → Bool → Option Bs)
theorem wL (s t:Bs) (a:Auth) (w:Way) (h:cu H s t=.ok (a,w)):gM s a w:=by grind[cu,gq,aV,wJ]
theorem Fr {s m:Bs} {q:Option Bs} {b:Adr} (h:gM s b.t b.w):gM s b.t (dc s m q b).1:=by
 unfold dc;split
 .exact wK h rfl rfl
 .exact h
theorem Fs (s m:Bs) (q:Option Bs) (base:Option Adr) (c:∀b,base=some b->gM s b.t b.w) (a:Auth) (w:Way) (g:Option Bs) (h:dS H s m q base=.ok (a,w,g)):gM s a w:=by
 unfold dS at h;split at h
 .rename_i f
  subst f;have:a.has=true/\w.o=false/\w.text=[]:=by
   unfold ez ey dc aV at h;have i:∀b,base=some b->b.w.o=false/\b.w.text=[]:=λb e=>by
    have d:=((c b e).2.1 (by decide)).2;exact⟨d,(c b e).2.2.2 d⟩
   grind
  exact wJ this.1 this.2.1 this.2.2
 .split at h
  .rename_i b
   have c:=c b rfl;unfold eA at h;split at h
   .grind[wL]
   .split at h
    .injection h with h
     injection h with d h2;injection h2 with h2 h3;subst d h2;exact wK c rfl rfl
    .grind[Fr]
  .grind[wL,dR,gM,noAuth,aV]
theorem wM (s m:Bs) (q f:Option Bs) (base:Option Adr) (c:∀b,base=some b->gM s b.t b.w) (a:Adr) (h:eB H s m q f base=.ok a):eJ a:=by
 unfold eB at h;split at h
 .cases h
 .rename_i x y z d
  injection h with h;subst h;exact Fs H s _ _ base c _ _ _ d
theorem wN (t:Bs) (base:Option Adr) (e:∀b,base=some b->eJ b) (a:Adr) (h:bL H t base=.ok a):eJ a:=by
 unfold bL iu at h;split at h
 .refine wM H _ _ _ _ _ (λb c=>?_) a h
  cases base with
  |none=>cases c
  |some d=>
   have c:(if d.s=_/\_ then some d else none)=some b:=c;split at c
   .rename_i g
    injection c with c;subst c;rw[<-g.1];exact e d rfl
   .cases c
 .split at h
  .cases h
  .rename_i b
   split at h
   .split at h
    .injection h with h
     subst h;exact e b rfl
    .cases h
   .exact wM H _ _ _ _ _ (λd f=>by injection f with f;subst f;exact e b rfl) a h
end
section
variable (H : Bs → Bool → Option Bs)
theorem yo (s l:Bs) (E:ao s=true) (q f:Option Bs) (o:cT l):dr (l++aA q f)=aC (bd (aq s l)).1:=by
 rw[lq];show dr (l++aA q f)=aC (l.takeWhile λc=>!ak s c);have t:∀c:UInt8,ak s c=(c==47||c==92):=λc=>by grind[ak]
 have A:∀c,ct c=true->ak s c=false:=λc g=>by
  simp_all[FE]
 have v:∀b:UInt8,(b==58||b==124)=true->ak s b=false:=λb D=>by
  grind
 have n:∀x:Bs,aC x=true->∃a b,x=[a,b]/\ct a=true/\(b==58||b==124)=true:=by
  intro x e;match x,e with
  | [a,b],e=>simp only[aC,fx] at e;exact⟨a,b,rfl,e.1,e.2⟩
 unfold dr;match l,o with
 | [],_=>
  show _=false;cases h:aC (List.take 2 ([]++aA q f)) with
  |false=>rfl
  |true=>
   obtain⟨a,b,d,i,_⟩:=n _ h;cases j:aA q f with
   |nil=>grind
   |cons c r=>have g:=kA q f c r j;rw[j] at d;simp only[gn,List.take_succ_cons,og] at d;rw[d.1] at g;simp only[cY,qO,dM] at g;rcases g with rfl|rfl<;>exact absurd i (by decide)
 | [x],o=>
  have i:aC ([x].takeWhile λc=>!ak s c)=false:=by cases e:ak s x<;>simp[e,aC]
  rw[i];cases h:aC (List.take 2 ([x]++aA q f)) with
  |false=>rfl
  |true=>
   obtain⟨a,b,d,_,m⟩:=n _ h;cases j:aA q f with
   |nil=>grind
   |cons c r=>have g:=kA q f c r j;rw[j] at d;simp only[iL,gn,List.take_succ_cons,oA,og] at d;rw[d.2.1] at g;simp only[cY,qO,dM] at g;rcases g with rfl|rfl<;>exact absurd m (by decide)
 |x::y::l,o=>
  have C:List.take 2 ((x::y::l)++aA q f)=[x,y]:=rfl;have u:List.drop 2 ((x::y::l)++aA q f)=l++aA q f:=rfl;rw[C,u];cases h:aC [x,y] with
  |false=>
   rw[qV];cases B:aC (List.takeWhile (λc=>!ak s c) (x::y::l)) with
   |false=>rfl
   |true=>
    obtain⟨a,b,d,i,m⟩:=n _ B;have e:ak s x=false:=by
     cases e:ak s x with
     |false=>rfl
     |true=>simp[e] at d
    have p:ak s y=false:=by
     cases p:ak s y with
     |false=>rfl
     |true=>simp[e,p] at d
    simp only[uy,e,p,uz,eV,og] at d;rw[d.1,d.2.1] at h;simp only[aC,i,m,Bt] at h;cases h
  |true=>
   rw[qU];obtain⟨a,b,d,i,m⟩:=n _ h;simp only[og,and_true] at d;obtain⟨rfl,rfl⟩:=d;have w:List.takeWhile (λc=>!ak s c) (x::y::l)=x::y::l.takeWhile (λc=>!ak s c):=by simp[A x i,v y m]
   rw[w];cases l with
   |nil=>
    show _=aC [x,y];rw[h];cases j:aA q f with
    |nil=>rfl
    |cons c r=>have g:=kA q f c r j;simp only[cY,qO,dM] at g;rw[gn,gI];intro _ _;rcases g with rfl|rfl<;>rfl
   |cons z l=>
    have hz:=o z (by simp);cases k:ak s z with
    |true=>
     have:List.takeWhile (λc=>!ak s c) (z::l)=[]:=by simp[k]
     rw[this,h,gI];intro _ _;rw[t] at k;simp only[ax,iL,k,Bool.true_or]
    |false=>
     have:List.takeWhile (λc=>!ak s c) (z::l)=z::l.takeWhile (λc=>!ak s c):=by simp[k]
     rw[this];show _=false;rw[t] at k;simp only[ax,iL,List.all_cons,k,Bool.false_or];simp[hz.1,hz.2]
theorem JB (m:Bs) (s:Bs) (h:aC (bd (aq s m)).1=true):ax (ak s) m=false:=by
 rw[lq] at h;cases m with
 |nil=>rfl
 |cons c m=>
  cases a:ak s c with
  |false=>exact a
  |true=>simp_all[aC]
theorem yp (base:Option Adr) (X:∀b,base=some b->eJ b) (c:Mc) (m:Bs) (q f:Option Bs) (A:∀x,q=some x->∀b∈x,b≠35) (L:c.err=0) (E:c.st=8) (I:c.r=m++aA q f) (n:cT m) (G:c.u=⟨sFile,noAuth,⟨false,[],[]⟩,none,none⟩):fg H base c (match ez H (aq sFile m) (q.map (ah (bE sFile))) (dA base) with| .error e=>.error e| .ok (a,w,q2)=>.ok ⟨sFile,a,w,q2,f.map (ah 1)⟩):=by
 have D:ao sFile=true:=by decide
 obtain⟨u,r,Z,Y⟩:=c;simp only at L E I G;subst L;subst E;subst I;subst G;have i:∀(a:Auth) (w:Way),fh ⟨sFile,a,w,none,none⟩ q f=⟨sFile,a,w,q.map (ah (bE sFile)),f.map (ah 1)⟩:=by intro a w;unfold fh;cases q<;>cases f<;>rfl
 have j:=λ(a:Auth) (segs:List Bs) (l:Bs) (O:cT l)=>nN H base q f A l.length ⟨⟨sFile,a,⟨false,[],segs⟩,none,none⟩,l++aA q f,6,0⟩ l .refl rfl rfl rfl O;refine gD H base _ _ (by simp) rfl ?_;have e:ap H base ⟨⟨sFile,noAuth,⟨false,[],[]⟩,none,none⟩,m++aA q f,8,0⟩=fq base ⟨⟨sFile,noAuth,⟨false,[],[]⟩,none,none⟩,m++aA q f,8,0⟩:=by simp[ap]
 rw[e];unfold fq;simp only[mp];cases g:ax (ak sFile) m with
 |true=>
  rw[ae rfl];obtain⟨d,l,rfl⟩:∃d l,m=d::l:=by
   cases m with
   |nil=>cases g
   |cons d l=>simp
  have s:cT l:=λx t=>n x (by simp[t]);have v:bI (aq sFile (d::l))=aq sFile l:=by rw[kC,ae g];rfl
  have o:∀segs,aV sFile segs (aq sFile (d::l))=⟨false,[],bU sFile segs (ar 47 (aq sFile l))⟩:=by intro segs;unfold aV bO;rw[ab (λh=>nz _ _ (by simp) h.1),v]
  refine gD H base _ _ (by simp) rfl ?_;have M:ap H base ⟨⟨sFile,{noAuth with has:=true},⟨false,[],[]⟩,none,none⟩,List.drop 1 ((d::l)++aA q f),9,0⟩=dJ base ⟨⟨sFile,{noAuth with has:=true},⟨false,[],[]⟩,none,none⟩,l++aA q f,9,0⟩:=by simp[ap]
  rw[M];unfold dJ;simp only[mp];cases C:ax (ak sFile) l with
  |true=>
   rw[ae rfl];obtain⟨x,y,rfl⟩:∃x y,l=x::y:=by
    cases l with
    |nil=>cases C
    |cons x y=>simp
   have B:cT y:=λz hz=>s z (by simp[hz]);have T:(aq sFile (d::x::y)).drop 2=aq sFile y:=(by rw[jS,jS];rfl);unfold ez;rw[ae (show List.isPrefixOf [47,47] (aq sFile (d::x::y))=true from(mo _ _).2 ⟨g,C⟩)];simp only[T,lq];refine gD H base _ _ (by simp) rfl ?_;have P:ap H base ⟨⟨sFile,{noAuth with has:=true},⟨false,[],[]⟩,none,none⟩,List.drop 1 ((x::y)++aA q f),10,0⟩=gC H ⟨⟨sFile,{noAuth with has:=true},⟨false,[],[]⟩,none,none⟩,y++aA q f,10,0⟩:=(by simp[ap]);rw[P];unfold gC;have K:=sI sFile y q f B;simp only[K.1,K.2];have V:=pP sFile y;cases p:aC (y.takeWhile λc=>!ak sFile c) with
   |true=>
    simp only[eV];have S:aC (bd (aq sFile y)).1=true:=(by rw[lq];exact p);have U:=JB y sFile S;have R:aV sFile [] (aq sFile y)=⟨false,[],bU sFile [] (ar 47 (aq sFile y))⟩:=by unfold aV bO;rw[ab (λh=>by grind),kC,ab (by simp[U])]
    have:=j (ey []) [] y B;rw[R,<-i];exact this
   |false=>
    simp only[ge,fO];cases W:dQ H (y.takeWhile λc=>!ak sFile c) with
    |none=>simp[pO]
    |some h=>have:=nO H base ⟨⟨sFile,ey h,⟨false,[],[]⟩,none,none⟩,y.dropWhile (λc=>!ak sFile c)++aA q f,5,0⟩ _ q f A rfl rfl rfl (λx t=>B x (by grind)) rfl;simp only;rw[<-i];exact this
  |false=>
   rw[ab (by simp)];unfold ez;rw[ab (show¬List.isPrefixOf [47,47] (aq sFile (d::l))=true from λh=>by grind[mo])];cases k:dA base with
   |none=>simp only;have:=j (ey []) [] l s;rw[o,<-i];exact this
   |some b=>
    simp only;rw[v,yo sFile l D q f s];cases p:aC (bd (aq sFile l)).1 with
    |true=>simp only[eV,dl];have:=j (ey b.t.h) [] l s;rw[o,<-i];exact this
    |false=>simp only[ge,fO,gn];rw[ae (show(aq sFile (d::l)).head? =some 47 from(pN _ _).2 g)];have:=j (ey b.t.h) (cN b.w.g) l s;simp only;rw[o,<-i];exact this
 |false=>
  rw[ab (by simp)];unfold ez;rw[ab (show¬List.isPrefixOf [47,47] (aq sFile m)=true from λh=>by grind[mo])];have o:∀segs,aV sFile segs (aq sFile m)=⟨false,[],bU sFile segs (ar 47 (aq sFile m))⟩:=by intro segs;unfold aV bO;rw[ab (λh=>by grind),kC,ab (by simp[g])]
  have v:bI (aq sFile m)=aq sFile m:=by rw[kC,ab (by simp[g])]
  cases k:dA base with
  |none=>simp only;have:=j (ey []) [] m n;rw[o,<-i];exact this
  |some b=>
   have F:eJ b/\b.s=sFile:=by
    cases base with
    |none=>cases k
    |some d=>
     have k:(if d.s=sFile then some d else none)=some b:=k;split at k
     .grind
     .cases k
   have J:=(F.1.2.1 (by grind)).2;have Q:=F.1.2.2.2 J;simp only;rw[v,yo sFile m D q f n];cases p:aC (bd (aq sFile m)).1 with
   |true=>
    have N:¬(m++aA q f=[]\/ax cY (m++aA q f)=true):=by
     cases m with
     |nil=>rw[(kD sFile []).2 rfl] at p;cases p
     |cons x y=>have t:=n x (by simp);simp[ax,cY,t.1,t.2]
    rw[ae ⟨N,rfl⟩,ae rfl];have:=j (ey b.t.h) [] m n;simp only;rw[o,<-i];exact this
   |false=>rw[ab (λh=>by cases h.2),ab (by simp),ab (show¬(aq sFile m).head? =some 47 from λh=>by grind[pN])];have:=yy H base b ⟨⟨sFile,ey b.t.h,⟨false,[],[]⟩,none,none⟩,m++aA q f,8,0⟩ m q f A rfl rfl n g rfl rfl rfl ⟨J,Q⟩;exact this
def dI (base:Option Adr) (s:Bs):Nat:=
 if s=sFile then 8 else if ao s=true then(if base.any (λb=>decide (b.s=s))=true then 1 else 3) else 15
def df (s:Bs):Adr:=⟨s,noAuth,⟨false,[],[]⟩,none,none⟩
def js (base:Option Adr) (s rest:Bs):Mc:=⟨df s,rest,(if s=[] then 14 else dI base s),0⟩
theorem yq (c:UInt8) (t:Bs):t=(ay c t).1++cv c (ay c t).2:=by
 have h:=kq c t;unfold ay;cases a:aN c t with
 |none=>show t=t++ [];simp
 |some p=>rw[a] at h;exact h.1
theorem JC (t:Bs):(aU t).2=(ej t).i++aA (ej t).q (ej t).f:=by have b:=yq 35 (aU t).2;have a:=yq 63 (ay 35 (aU t).2).1;show _=(ay 63 (ay 35 (aU t).2).1).1++(cv 63 (ay 63 (ay 35 (aU t).2).1).2++cv 35 (ay 35 (aU t).2).2);rw[<-eU,<-a,<-b]
theorem JD (t:Bs):∀x,(ej t).q=some x->∀b∈x,b≠35:=by intro x c b a;have d:=(pd 63 (ay 35 (aU t).2).1).2 x c b a;exact((pd 35 (aU t).2).1 b d).2
theorem JE (A:HostMarks H) (t:Bs) (base:Option Adr) (z:∀b,base=some b->eJ b):fg H base (js base (aU (dE t)).1 (aU (dE t)).2) (bL H t base):=by
 rw[JC];have K:(aU (dE t)).1=(ej (dE t)).s:=rfl;have i:=JD (dE t);have g:=(Fx (dE t)).2;rw[K];unfold bL;generalize ej (dE t)=k at*;obtain⟨s,m,q,f⟩:=k;simp only at i g⊢;have g:cT m:=g;have M:∀(s:Bs) (a:Auth) (w:Way),fh ⟨s,a,w,none,none⟩ q f=⟨s,a,w,q.map (ah (bE s)),f.map (ah 1)⟩:=by intro s a w;unfold fh;cases q<;>cases f<;>rfl
 unfold js iu;simp only;by_cases E:s=[]
 .subst E
  rw[ae rfl,ab (by simp)];refine gD H base _ _ (by simp) rfl ?_;have e:ap H base ⟨df [],m++aA q f,14,0⟩=gi base ⟨df [],m++aA q f,14,0⟩:=by simp[ap]
  rw[e];unfold gi;cases base with
  |none=>simp[pO]
  |some b=>
   have r:=z b rfl;simp only;cases o:b.w.o with
   |true=>
    simp only[true_and,eV];by_cases c:m=[]/\q=none/\f.isSome=true
    .obtain⟨rfl,rfl,G⟩:=c
     obtain⟨y,rfl⟩:∃y,f=some y:=by cases f with|none=>cases G|some y=>simp
     rw[ab (by simp[aA,cv]),ae ⟨rfl,rfl,rfl⟩];have:=kB H (some b) ⟨{df [] with s:=b.s,w:=b.w,q:=b.q},aA none (some y),14,0⟩ none (some y) rfl rfl (λx c=>by cases c);have L:=r.1 (r.2.2.1 o).1;have F:({b with f:=Option.map (ah 1) (some y)}:Adr)=fh {df [] with s:=b.s,w:=b.w,q:=b.q} none (some y):=by unfold fh df;simp only[kd,L]
     rw[F];exact this
    .rw[ab (show¬(m=[]/\q=none/\f.isSome=true) from c)]
     rw[ae]
     .simp[pO]
     .intro h
      apply c;cases m with
      |cons x y=>grind
      |nil=>
       rcases sG q f with B|⟨l,B,_⟩|⟨l,B,I⟩
       .grind
       .grind
       .subst I
        refine⟨rfl,rfl,?_⟩;cases f with
        |none=>cases B
        |some y=>rfl
   |false=>
    simp only[ge,false_and,fO];unfold eB dS;by_cases d:b.s=sFile
    .rw[ae d,ae d]
     have C:dA (some b)=some b:=(by unfold dA;simp[d]);have:=yp H (some b) z ⟨df sFile,m++aA q f,8,0⟩ m q f i rfl rfl rfl g rfl;rw[C] at this;rw[d];cases c:ez H (aq sFile m) (q.map (ah (bE sFile))) (some b) with
     |error n=>rwa[c] at this
     |ok p=>rwa[c] at this
    .rw[ab d,ab d]
     have:=yz H A b ⟨df b.s,m++aA q f,1,0⟩ m q f i rfl rfl rfl g rfl rfl rfl ⟨o,r.2.2.2 o⟩;simp only;have this:fg H (some b) ⟨df b.s,m++aA q f,1,0⟩ (match eA H b.s (aq b.s m) (q.map (ah (bE b.s))) b with| .error e=>.error e| .ok (a,w,q2)=>.ok ⟨b.s,a,w,q2,f.map (ah 1)⟩):=this;cases c:eA H b.s (aq b.s m) (q.map (ah (bE b.s))) b with
     |error n=>rwa[c] at this
     |ok p=>rwa[c] at this
 .rw[ab E,ae E]
  unfold eB dS;by_cases d:s=sFile
  .subst d
   have j:dI base sFile=8:=(by unfold dI;rw[ae rfl]);rw[j,ae rfl];have C:(base.bind λb=>if b.s=sFile/\ao sFile=true then some b else none)=dA base:=by
    unfold dA;cases base with
    |none=>rfl
    |some b=>simp[Fq]
   rw[C];have:=yp H base z ⟨df sFile,m++aA q f,8,0⟩ m q f i rfl rfl rfl g rfl;cases c:ez H (aq sFile m) (q.map (ah (bE sFile))) (dA base) with
   |error n=>grind
   |ok p=>grind
  .rw[ab d]
   cases u:ao s with
   |true=>
    cases D:base.any (λb=>decide (b.s=s)) with
    |true=>
     obtain⟨b,rfl,J⟩:∃b,base=some b/\b.s=s:=by
      cases base with
      |none=>cases D
      |some b=>grind
     have j:dI (some b) s=1:=(by unfold dI;rw[ab d,ae u,ae D]);have r:=z b rfl;have o:=(r.2.1 (by grind)).2;rw[j];have v:(Option.bind (some b) λb=>if b.s=s/\true=true then some b else none)=some b:=(by simp[J]);rw[v];simp only;have this:=yz H A b ⟨df s,m++aA q f,1,0⟩ m q f i rfl rfl rfl g rfl rfl rfl ⟨o,r.2.2.2 o⟩;have this:fg H (some b) ⟨df s,m++aA q f,1,0⟩ (match eA H s (aq s m) (q.map (ah (bE s))) b with| .error e=>.error e| .ok (a,w,q2)=>.ok ⟨s,a,w,q2,f.map (ah 1)⟩):=this;cases c:eA H s (aq s m) (q.map (ah (bE s))) b with
     |error n=>grind
     |ok p=>grind
    |false=>
     have j:dI base s=3:=(by unfold dI;rw[ab d,ae u,ab (by simp[D])]);have v:(base.bind λb=>if b.s=s/\true=true then some b else none)=none:=by
      cases base with
      |none=>rfl
      |some b=>grind
     rw[j,v];simp only[eV];have this:=yv H A base ⟨df s,m++aA q f,3,0⟩ m q f i rfl rfl rfl g rfl;have this:fg H base ⟨df s,m++aA q f,3,0⟩ (match cu H s (cW (aq s m)) with| .error e=>.error e| .ok (a,w)=>.ok (fh ⟨s,a,w,none,none⟩ q f)):=this;cases c:cu H s (cW (aq s m)) with
     |error n=>grind
     |ok p=>grind
   |false=>
    have j:dI base s=15:=(by unfold dI;rw[ab d,ab (by simp[u])]);have v:(base.bind λb=>if b.s=s/\false=true then some b else none)=none:=by
     cases base with
     |none=>rfl
     |some b=>simp
    rw[j,v,yw s m u];simp only[ge,fO];have this:=JI H A base ⟨df s,m++aA q f,15,0⟩ m q f i rfl rfl rfl g rfl rfl u;have this:fg H base ⟨df s,m++aA q f,15,0⟩ (match dR H s m with| .error e=>.error e| .ok (a,w)=>.ok (fh ⟨s,a,w,none,none⟩ q f)):=this;cases c:dR H s m with
    |error n=>grind
    |ok p=>grind
end
def aS (t:Bs):Nat:=match aN 58 t with|some (n,_)=>if cw n=true then n.length+1 else 0|none=>0
theorem nT (t:Bs):aU t=if aS t=0 then([],t) else(Lib.toLowerA (t.take (aS t- 1)),t.drop (aS t)):=by
 have a:=kq 58 t;unfold aU aS;cases b:aN 58 t with
 |none=>rfl
 |some p=>
  obtain⟨n,r⟩:=p;rw[b] at a;simp only at a⊢;cases c:cw n with
  |false=>rfl
  |true=>simp_all
theorem JW (v:Bs):(aU (v++ [58])).1=if aS v≠0 then Lib.toLowerA (v.take (aS v- 1)) else if aS (v++ [58])=0 then [] else Lib.toLowerA (v.take (aS (v++ [58])- 1)):=by
 rcases jR 58 v with f|⟨a,b,rfl,d⟩
 .have c:aS v=0:=by unfold aS;rw[jo 58 v f]
  have e:aS (v++ [58])=if cw v=true then v.length+1 else 0:=by unfold aS;rw[hJ 58 [] v f]
  rw[c,ab (by simp),nT];cases g:cw v with
  |false=>grind
  |true=>grind
 .have c:aS (a++58::b)=if cw a=true then a.length+1 else 0:=by
   unfold aS;rw[hJ 58 b a d]
  have e:aS (a++58::b++ [58])=if cw a=true then a.length+1 else 0:=by unfold aS;rw[show a++58::b++ [58]=a++58::(b++ [58]) from by simp,hJ 58 _ a d]
  rw[nT,c,e];cases g:cw a with
  |false=>simp
  |true=>simp
def eK (c:UInt8):Bs:=if c=63 then [37,51,70] else if c=35 then [37,50,51] else [c]
def bq (v:Bs):Bs:=v.flatMap eK
theorem jv (c:UInt8) (v:Bs):bq (c::v)=eK c++bq v:=rfl
theorem sR:∀v:Bs,cT (bq v)
 | [],c,h=>by cases h
 |d::v,c,h=>by
  rw[jv] at h;rcases fm.1 h with h|h
  .unfold eK at h
   split at h
   .grind
   .grind
  .exact sR v c h
theorem sS (v:Bs) (h:cT v):bq v=v:=by
 induction v with
 |nil=>rfl
 |cons c v b=>have a:=h c (by simp);rw[jv,b (λx d=>h x (by simp[d]))];simp[eK,a.1,a.2]
theorem sT:∀v:Bs,¬cT v->51∈bq v
 | [],h=>absurd (λc e=>by cases e) h
 |c::v,h=>by
  rw[jv];by_cases d:c=63
  .subst d;simp[eK]
  .by_cases b:c=35
   .subst b;simp[eK]
   .refine List.mem_append_right _ (sT v λf=>h λx a=>?_)
    rcases cM.1 a with rfl|a
    .exact⟨b,d⟩
    .exact f x a
theorem sU:∀(n:Nat) (l:Bs),l.length<=n->∀c∈l,c∈be l\/c=69
 |_,[],_,c,h=>by cases h
 |0,d::l,hn,c,h=>by simp at hn
 |n+1,d::l,hn,c,h=>by
  by_cases a:pE.isPrefixOf (d::l)=false
  .rw[rj d l a]
   rcases cM.1 h with rfl|h
   .exact Or.inl (by simp)
   .rcases sU n l (by simpa using hn) c h with h|h
    .exact Or.inl (by simp[h])
    .exact Or.inr h
  .have a:pE.isPrefixOf (d::l)=true:=by simpa using a
   obtain⟨t,b⟩:=Bq.1 a;rw[<-b] at h⊢;have e:t.length<=n:=by have:=aB List.length b;simp[pE] at this;simp at hn;omega
   show c∈37::50::101::be t\/c=69;rcases fm.1 h with h|h
   .simp only[pE,cM,mT,mV] at h
    rcases h with rfl|rfl|rfl
    .simp
    .simp
    .exact Or.inr rfl
   .rcases sU n t e c h with h|h
    .exact Or.inl (by simp[h])
    .exact Or.inr h
theorem yQ (p:Bs) (h:bG p≠0):∀c∈p,c=46\/c=37\/c=50\/c=101\/c=69:=by
 intro c d;have b:=sU p.length p (aG _) c d;rcases b with b|b
 .unfold bG at h
  simp only at h;split at h
  .grind
  .split at h
   .rename_i a
    rcases a with a|a|a|a<;>rw[a] at b<;>simp only[cM,mT,mV] at b<;>(grind)
   .omega
 .grind
theorem JX (p:Bs):bG (bq p)=bG p:=by
 by_cases a:cT p
 .grind[sS]
 .have e:bG (bq p)=0:=by
   apply uB;intro h;have:=yQ _ h 51 (sT p a);revert this;decide
  have d:bG p=0:=by apply uB;intro h;apply a;intro c b;have:=yQ _ h c b;rcases this with rfl|rfl|rfl|rfl|rfl<;>decide
  rw[e,d]
theorem yR:∀p:Bs,ah 4 (bq p)=ah 4 p
 | []=>rfl
 |c::p=>by
  rw[jv,EA,yR p];show ah 4 (eK c)++ah 4 p=gR 4 c++ah 4 p;congr 1;unfold eK;split
  .rename_i h;subst h;decide+kernel
  .split
   .rename_i h;subst h;decide+kernel
   .show gR 4 c++ []=gR 4 c
    simp
theorem yS (p:Bs) (h:aC p=true):cT p:=by
 match p,h with
 | [a,b],h=>
  simp[aC] at h;intro c d;simp only[cM,mT,mV] at d;rcases d with rfl|rfl
  .refine⟨?_,?_⟩<;>rintro rfl<;>exact absurd h.1 (by decide)
  .grind
theorem JY (p:Bs):aC (bq p)=aC p:=by
 by_cases d:cT p
 .grind[sS]
 .have e:aC p=false:=by
   cases h:aC p with
   |false=>rfl
   |true=>grind[yS]
  rw[e];cases h:aC (bq p) with
  |false=>rfl
  |true=>
   have c:=sT p d;match hx:bq p,h with
   | [a,b],h=>
    rw[hx] at c;simp[aC] at h;simp only[cM,mT,mV] at c;rcases c with rfl|rfl
    .exact absurd h.1 (by decide)
    .grind
theorem JZ (s p:Bs) (first:Bool):fR s (bq p) first=fR s p first:=by simp_all[fR,JY,yR,sS,yS]
theorem sV (s:Bs):∀(ps segs:List Bs),bU s segs (ps.map bq)=bU s segs ps
 | [],segs=>rfl
 |p::ps,segs=>by
  show bU s segs (bq p::ps.map bq)=_;rw[bU,bU,JX,JZ,sV s ps,sV s ps];have:(ps.map bq).isEmpty=ps.isEmpty:=by cases ps<;>rfl
  rw[this]
theorem sW (c d:UInt8) (l:Bs) (h:d≠c):∃x a,ar c l=x::a/\ar c (d::l)=(d::x)::a:=by
 cases b:ar c l with
 |nil=>grind[hO]
 |cons x a=>simp_all[ar]
theorem yT (c:UInt8) (l:Bs):∀p:Bs,(∀x∈p,x≠c)->∀x a,ar c l=x::a->ar c (p++l)=(p++x)::a
 | [],_,x,a,h=>h
 |d::p,hp,x,a,h=>by
  have g:=yT c l p (λy e=>hp y (by simp[e])) x a h;obtain⟨y,i,b,f⟩:=sW c d (p++l) (hp d (by simp));rw[g] at b;injection b with h3 h4;show ar c (d::(p++l))=_;rw[f,<-h3,<-h4];rfl
theorem sX:∀l:Bs,ar 47 (bq l)=(ar 47 l).map bq
 | []=>rfl
 |c::l=>by
  by_cases a:c=47
  .subst a
   rw[ar,ae rfl];show ar 47 (47::bq l)=_;rw[ar,ae rfl,sX l];rfl
  .obtain⟨x,g,f,e⟩:=sW 47 c l a
   rw[e,jv];have d:=sX l;rw[f] at d;refine yT 47 (bq l) (eK c) ?_ _ _ d;intro y b;unfold eK at b;split at b
   .grind
   .grind
theorem Ka (s:Bs):∀l:Bs,aq s (bq l)=bq (aq s l):=by
 intro l;unfold aq;split
 .induction l with
  |nil=>rfl
  |cons c l a=>
   rw[jv,kg,a,mM,jv];congr 1;by_cases b:c=63
   .subst b;decide
   .grind[eK]
 .rfl
theorem Kb (l:Bs):bI (bq l)=bq (bI l):=by
 cases l with
 |nil=>rfl
 |cons c l=>
  by_cases a:c=47
  .subst a;rfl
  .have b:bI (c::l)=c::l:=by
    unfold bI;split
    .grind
    .rfl
   rw[b,jv];unfold eK;split
   .rfl
   .split
    .rfl
    .simp_all[bI]
theorem Kc (l:Bs):bq l=[]↔l=[]:=by
 cases l with
 |nil=>simp[bq]
 |cons c l=>grind[jv,eK]
theorem Kd (s v:Bs):aV s [] (aq s (bq v))=aV s [] (aq s v):=by
 unfold aV bO;rw[Ka,Kb,sX,sV];congr 1;by_cases h:aq s v=[]
 .rw[h];rfl
 .simp[Kc]
section
variable (H : Bs → Bool → Option Bs)
theorem Ke (base:Option Adr) (a:Adr) (v:Bs):fg H base ⟨{a with w:=⟨false,[],[]⟩},bq v,5,0⟩ (.ok {a with w:=aV a.s [] (aq a.s v)}):=by have:=nO H base ⟨{a with w:=⟨false,[],[]⟩},bq v,5,0⟩ (bq v) none none (λx b=>by cases b) rfl rfl (by simp[aA,cv]) (sR v) rfl;rwa[Kd] at this
end
theorem pf (c:UInt8) (g:¬aw c.toNat<16) (i:c≠37):∀(n:Nat) (l:Bs),l.length<=n->c∈l->c∈aQ l
 |_,[],_,h=>by cases h
 |0,d::l,hn,_=>by simp at hn
 |n+1,d::l,hn,h=>by
  have f:l.length<=n:=by simpa using hn
  by_cases j:d=37
  .subst j
   have h:c∈l:=by
    rcases cM.1 h with h|h
    .grind
    .exact h
   cases e:fX l with
   |false=>rw[rZ _ e];exact oc _ (pf c g i n l f h)
   |true=>
    match l,e,f,h with
    |a::b::r,e,f,h=>
     rw[rY a b r e];simp only[fX,fx,kX] at e;rcases cM.1 h with rfl|h
     .omega
     .rcases cM.1 h with rfl|h
      .exact absurd e.2 g
      .exact oc _ (pf c g i n r (by simp at f;omega) h)
  .rw[pD d l j]
   rcases cM.1 h with rfl|h
   .simp
   .exact oc _ (pf c g i n l f h)
theorem nB (c:UInt8):∀(l:Bs) (b:UInt8),b∈l->b=c\/∃x∈ar c l,b∈x
 | [],b,h=>by cases h
 |d::l,b,h=>by
  by_cases f:d=c
  .rw[ar,ae f]
   rcases cM.1 h with rfl|h
   .exact Or.inl f
   .rcases nB c l b h with h|⟨x,i,a⟩
    .exact Or.inl h
    .exact Or.inr ⟨x,by simp[i],a⟩
  .obtain⟨x,k,j,g⟩:=sW c d l f
   rw[g];rcases cM.1 h with rfl|h
   .exact Or.inr ⟨b::x,by simp,by simp⟩
   .rcases nB c l b h with h|⟨y,e,a⟩
    .exact Or.inl h
    .rw[j] at e
     rcases cM.1 e with rfl|e
     .exact Or.inr ⟨d::y,by simp,by simp[a]⟩
     .exact Or.inr ⟨y,by simp[e],a⟩
theorem pg (base b:Int):∀(l:Bs) (n m:Int),bJ base b n l=some m->∀c∈l,aw c.toNat<base
 | [],n,m,_,c,a=>by cases a
 |d::l,n,m,h,c,a=>by
  rw[bJ] at h;split at h
  .rename_i e
   split at h
   .rcases cM.1 a with rfl|a
    .exact e
    .exact pg base b l _ m h c a
   .cases h
  .cases h
def nC (c:UInt8):Prop:=aw c.toNat<16\/c=58\/c=46
theorem ph:∀(l:List Bs) (e d:List Int),eG e l=some d->∀x∈l,∀c∈x,aw c.toNat<16
 | [],e,d,_,x,a=>by cases a
 |y::l,e,d,h,x,a=>by
  rw[eG] at h;cases b:cA y with
  |none=>grind
  |some n=>
   rw[b] at h;rcases cM.1 a with rfl|a
   .unfold cA at b
    split at b
    .cases b
    .exact pg 16 65535 x 0 n b
   .exact ph l _ d h x a
theorem rI:∀(l:List Bs) (a m:Int),dZ a l=some m->∀x∈l,∀c∈x,aw c.toNat<16
 | [],a,m,_,x,d=>by cases d
 |y::l,a,m,h,x,d=>by
  rw[dZ] at h;cases b:dY y with
  |none=>grind
  |some n=>
   rw[b] at h;rcases cM.1 d with rfl|d
   .unfold dY at b
    split at b
    .cases b
    .split at b
     .cases b
     .intro c e
      have:=pg 10 255 x 0 n b c e;omega
   .exact rI l _ m h x d
theorem wV (l:List Bs) (f:List Int) (h:dh l=some f):∀x∈l,∀c∈x,nC c:=by
 unfold dh at h;cases e:l.getLast? with
 |none=>grind
 |some y=>
  rw[e] at h;simp only at h;obtain⟨p,g⟩:=List.getLast?_eq_some_iff.1 e;split at h
  .cases j:cK l.dropLast with
   |none=>grind[gT]
   |some o=>
    cases d:cB y with
    |none=>grind[gT]
    |some n=>
     have k:=ph _ _ _ j;have m:∀c∈y,nC c:=by
      unfold cB at d;split at d
      .intro c b
       rcases nB 46 y c b with h|⟨x,a,i⟩
       .exact .inr (.inr h)
       .exact .inl (rI _ _ _ d x a c i)
      .cases d
     intro x a c b;rw[g] at a;obtain a|a:=fm.1 a
     .exact .inl (k x (by grind) c b)
     .grind
  .exact λx a c b=>.inl (ph _ _ _ h x a c b)
theorem rJ (l:Bs) (b:UInt8) (h:b∈l):b=58\/∃x∈ds l,b∈x:=by unfold ds;rw[ab (λe=>by grind)];exact nB 58 l b h
theorem rK:∀l:Bs,dK l=true->∃p r,l=p++58::58::r/\dK (p++ [58])=false:=by
 intro l;induction l with
 |nil=>intro h;cases h
 |cons c l e=>
  intro h;by_cases a:(c==58&&l.head? ==some 58)=true
  .simp only[fx,dM] at a
   cases l with
   |nil=>cases a.2
   |cons d l=>simp at a;refine⟨[],l,by grind,by decide⟩
  .have f:dK l=true:=by
    cases l with
    |nil=>grind[dK]
    |cons d l=>have h:((c==58&&(d::l).head? ==some 58)||dK (d::l))=true:=h;have b:(c==58&&(d::l).head? ==some 58)=false:=(by simpa using a);rwa[b,Bool.false_or] at h
   obtain⟨p,r,g,i⟩:=e f;refine⟨c::p,r,by rw[g];rfl,?_⟩;cases p with
   |nil=>grind[dK]
   |cons d p=>simp_all[dK]
theorem FK (l a b:Bs) (h:Lib.cut l [58,58]=(a,b,true)):l=a++58::58::b:=by
 by_cases d:dK l=false
 .grind[tn]
 .obtain⟨p,r,rfl,c⟩:=rK l (by simpa using d)
  rw[qa p r c] at h;simp only[mL,and_true] at h;rw[h.1,h.2]
theorem wW (s:Bool) (f g:Option (List Int)) (a:List Int) (h:gE s f g=some a):f.isSome=true/\g.isSome=true:=by
 cases f with
 |none=>cases h
 |some x=>
  cases g with
  |none=>cases h
  |some y=>simp
theorem FL (l:Bs) (o:List Int) (h:fw l=some o):∀c∈l,nC c:=by
 unfold fw at h;split at h
 .rename_i a b n
  have k:=wW _ _ _ _ h;have m:=FK l a b n;intro c d;rw[m] at d;obtain d|d:=fm.1 d
  .rcases rJ a c d with e|⟨x,f,g⟩
   .exact .inr (.inl e)
   .cases i:cK (ds a) with
    |none=>grind
    |some j=>exact .inl (ph _ _ _ i x f c g)
  .obtain rfl|d:=cM.1 d
   .exact .inr (.inl rfl)
   .obtain rfl|d:=cM.1 d
    .exact .inr (.inl rfl)
    .rcases rJ b c d with e|⟨x,f,g⟩
     .exact .inr (.inl e)
     .cases i:dh (ds b) with
      |none=>grind
      |some j=>grind[wV]
 .have k:=wW _ _ _ _ h
  intro c d;rcases rJ l c d with e|⟨x,f,g⟩
  .exact .inr (.inl e)
  .cases i:dh (ds l) with
   |none=>grind
   |some j=>grind[wV]
theorem FM (l:Bs) (h:91∈l):gc l=none:=by
 unfold gc;split
 .rename_i b
  cases c:fw (Lib.trimSuffix l [93]) with
  |none=>rfl
  |some g=>
   have d:∃p,l=p++ [93]:=(by obtain⟨t,a⟩:=BH.1 b;exact⟨t,a.symm⟩);obtain⟨p,rfl⟩:=d;have a:Lib.trimSuffix (p++ [93]) [93]=p:=(by unfold Lib.trimSuffix;rw[ae b];simp);rw[a] at c;have e:(91:UInt8)∈p:=by
    obtain h|h:=fm.1 h
    .exact h
    .grind
   have f:=FL p g c 91 e;have i:¬nC 91:=(by unfold nC;decide);exact absurd f i
 .rfl
theorem FN:HostMarks hostTell:=by
 refine⟨?_,?_,by decide+kernel⟩
 .intro a b d k
  obtain⟨c,a,rfl⟩:∃c r,a=c::r:=by
   cases a with
   |nil=>grind
   |cons c r=>simp
  unfold hostTell;split
  .simp[FM]
  .have e:(91:UInt8)∈c::a++91::b:=by simp
   cases d with
   |true=>
    simp only[eV];have f:=pf 91 (by decide) (by decide) _ _ .refl e;unfold fU;split
    .rfl
    .rw[ae]
     rw[qQ];exact⟨91,f,by decide+kernel⟩
   |false=>simp only[ge,fO];unfold ie;rw[ae];rw[qQ];exact⟨91,e,by decide+kernel⟩
 .intro x d j h
  unfold hostTell;rw[ae ((FJ x).2 j)];unfold gc;rw[ab];intro g;obtain⟨t,l⟩:=BH.1 g;have:(93:UInt8)∈x:=List.mem_of_mem_drop (i:=1) (by grind);exact h 93 this rfl
def bA:Nat->Bs->Bs
 |0,_=>[]
 |_,[]=>[]
 |k+1,c::l=>if aw c.toNat<16 then c::bA k l else []
theorem nP:∀(k:Nat) (l:Bs),∃r,l=bA k l++r/\(∀c∈bA k l,aw c.toNat<16)/\(bA k l).length<=k/\((bA k l).length<k->∀c y,r=c::y->¬aw c.toNat<16)
 |0,l=>⟨l,rfl,λc a=>(by cases a),aG _,λh=>(by omega)⟩
 |k+1,[]=>⟨[],rfl,λc a=>(by cases a),aR _,λ_ c y h=>(by cases h)⟩
 |k+1,c::l=>by
  by_cases a:aw c.toNat<16
  .obtain⟨r,f,d,g,e⟩:=nP k l
   refine⟨r,?_,?_,?_,?_⟩
   .rw[bA,ae a,iL,<-f]
   .rw[bA,ae a]
    intro x b;rcases cM.1 b with rfl|b
    .exact a
    .exact d x b
   .rw[bA,ae a];simp;omega
   .rw[bA,ae a]
    intro h;exact e (by simp at h;omega)
  .simp_all[bA,ab]
def eF:Int->Bs->Int
 |v,[]=>v
 |v,c::l=>eF (16*v+aw c.toNat) l
def bM:Nat->Bs->List Int->Option Nat->Option (List Int×Option Nat)
 |0,_,_,_=>none
 |_+1,[],ps,short=>some (ps,short)
 |n+1,c::r,ps,short=>if ps.length=8 then none
  else if c=58 then(if short.isSome then none else bM n r (ps++ [0]) (some (ps.length+1)))
  else if((c::r).drop (bA 4 (c::r)).length).head? =some 46 then(match cB (c::r) with|some a=>if ps.length<=6 then some (ps++ [a/65536,a%65536],short) else none|none=>none)
  else if bA 4 (c::r)=[] then none
  else match(c::r).drop (bA 4 (c::r)).length with
   | []=>some (ps++ [eF 0 (bA 4 (c::r))],short)
   |d::y=>if d≠58\/y=[] then none else bM n y (ps++ [eF 0 (bA 4 (c::r))]) short
def fu:Option (List Int×Option Nat)->Option (List Int)
 |none=>none
 |some (ps,none)=>if ps.length=8 then some ps else none
 |some (ps,some k)=>some (ps.take k++(List.replicate (8- ps.length) 0++ps.drop k))
def ms (l:Bs):Option (List Int):=
 match l with
 |58::58::r=>fu (bM (l.length+1) r [0] (some 1))
 |58::_=>none
 |_=>fu (bM (l.length+1) l [] none)
theorem yF:∀(l:Bs) (v:Int),(∀c∈l,aw c.toNat<16)->0<=v->v<65536/16^l.length->l.length<=4->bJ 16 65535 v l=some (eF v l)
 | [],v,_,_,_,_=>rfl
 |c::l,v,h,h0,h1,h4=>by
  have d:=h c (by simp);have i:=gy (c.toNat:Int);have g:l.length<=3:=by simpa using h4
  rw[bJ,ae d,eF,Int.mul_comm 16 v];have b:v*16+aw c.toNat<65536/16^l.length:=by have a:l.length=0\/l.length=1\/l.length=2\/l.length=3:=(by omega);simp only[dL] at h1;rcases a with a|a|a|a<;>rw[a] at h1⊢<;>simp at h1⊢<;>omega
  have e:v*16+aw c.toNat<=65535:=by have a:l.length=0\/l.length=1\/l.length=2\/l.length=3:=(by omega);rcases a with a|a|a|a<;>rw[a] at b<;>simp at b<;>omega
  rw[ae e];exact yF l _ (λx f=>h x (by simp[f])) (by omega) b (by omega)
theorem yG (x:Bs) (h:∀c∈x,aw c.toNat<16) (b:x.length<=4) (d:x≠[]):cA x=some (eF 0 x):=by
 unfold cA;have:=iK.2 d;rw[ab (by omega)];refine yF x 0 h (by omega) ?_ b;have a:x.length=1\/x.length=2\/x.length=3\/x.length=4:=by omega
 rcases a with a|a|a|a<;>rw[a]<;>decide
theorem JM (b:UInt8) (l:Bs) (v:Int) (h:26<=v):bJ 10 255 v (b::l)=none:=by
 have:=gy (b.toNat:Int);rw[bJ];split
 .grind
 .rfl
theorem yH (b:UInt8) (l:Bs) (v k:Int) (a:k<=v) (h:∀u,10*k<=u->bJ 10 255 u l=none):bJ 10 255 v (b::l)=none:=by
 have:=gy (b.toNat:Int);rw[bJ];split
 .grind
 .rfl
theorem JN:∀k:Fin 256,aw k.val=0->k.val=48:=by decide+kernel
theorem JO (a b c d:UInt8) (p:Bs):dY (a::b::c::d::p)=none:=by
 unfold dY;rw[ab (by simp)];split
 .rfl
 .rename_i e
  have i:=gy (a.toNat:Int);have j:aw a.toNat≠0:=by intro f;refine e ⟨?_,by simp⟩;rw[FB a 48 (JN ⟨a.toNat,a.toNat_lt⟩ f)];rfl
  rw[bJ];split
  .split
   .refine yH b _ _ 1 (by omega) λu g=>yH c _ u 10 g λv h=>JM d _ v (by omega)
   .rfl
  .rfl
theorem nQ (c:UInt8) (l x:Bs) (d:List Bs) (h:ar c l=x::d):(d=[]/\l=x/\∀b∈x,b≠c)\/∃r,l=x++c::r/\ar c r=d/\∀b∈x,b≠c:=by
 rcases jR c l with f|⟨a,b,rfl,e⟩
 .grind[nD]
 .grind[ks]
theorem sJ (c:UInt8) (h:aw c.toNat<16):c≠58/\c≠46:=by refine⟨?_,?_⟩<;>rintro rfl<;>exact absurd h (by decide)
theorem JP (l:Bs) (c:UInt8):0<=Lib.indexByte l c↔c∈l:=by grind[ll]
theorem sK:∀(l:List Bs) (a:List Int),eG a l=(cK l).map (a++ ·)
 | [],a=>by simp[cK,eG]
 |x::l,a=>by
  unfold cK;rw[eG,eG];cases cA x with
  |none=>rfl
  |some n=>show eG (a++ [n]) l=Option.map (a++ ·) (eG ([]++ [n]) l);rw[sK l (a++ [n]),sK l ([]++ [n]),uA];congr 1;funext y;simp
theorem nR (x:Bs) (l:List Bs):cK (x::l)=match cA x with|some n=>(cK l).map (n:: ·)|none=>none:=by grind[cK,eG,sK]
theorem pQ (x y:Bs) (l:List Bs):dh (x::y::l)=match cA x with|some n=>(dh (y::l)).map (n:: ·)|none=>none:=by
 unfold dh;have c:(x::y::l).getLast? =(y::l).getLast?:=by simp[List.getLast?_cons]
 rw[c];cases d:(y::l).getLast? with
 |none=>simp at d
 |some z=>
  simp only;have b:(x::y::l).dropLast=x::(y::l).dropLast:=rfl;rw[b,nR,nR];cases cA x with
  |none=>simp[gT]
  |some n=>
   split
   .cases cK (y::l).dropLast with
    |none=>simp[gT]
    |some e=>
     cases cB z with
     |none=>simp[gT]
     |some a=>simp[gT]
   .rfl
theorem sL (x:Bs):dh [x]=if 46∈x then(cB x).map (λa=>[a/65536,a%65536]) else(cA x).map λn=>[n]:=by
 unfold dh;simp only[List.getLast?_singleton,JP];split
 .cases cB x with
  |none=>rfl
  |some a=>rfl
 .rw[nR]
  cases cA x with
  |none=>rfl
  |some n=>rfl
theorem yI (x:Bs) (c:UInt8) (b:c∈x) (h:¬aw c.toNat<16):cA x=none:=by
 cases a:cA x with
 |none=>rfl
 |some n=>
  unfold cA at a;split at a
  .cases a
  .exact absurd (pg 16 65535 x 0 n a c b) h
theorem yJ (x:Bs) (h:4<x.length):cA x=none:=by simp_all[cA]
theorem sM (l:Bs) (c:UInt8) (d:c∈l) (h:¬aw c.toNat<16) (g:c≠46):cB l=none:=by
 cases b:cB l with
 |none=>rfl
 |some a=>
  unfold cB at b;split at b
  .rcases nB 46 l c d with i|⟨x,e,f⟩
   .grind
   .exact absurd (rI _ _ _ b x e c f) h
  .cases b
def kE (n:Nat) (xs:List Bs) (r:Bs) (ps:List Int) (short:Option Nat):Option (List Int×Option Nat):=if xs=[] then some (ps,short) else if r=[] then none else bM n r ps short
theorem pR (n:Nat) (l x:Bs) (m:List Bs) (r:Bs) (N:ar 58 l=x::m) (V:(m=[]/\l=x/\r=[])\/(l=x++58::r/\ar 58 r=m)) (a3:x≠[]) (i:List Int) (h8:i.length<8) (w:Option Nat):bM (n+1) l i w=if m=[]/\46∈x then(match cB x with|some a=>if i.length<=6 then some (i++ [a/65536,a%65536],w) else none|none=>none) else match cA x with|some v=>kE n m r (i++ [v]) w|none=>none:=by
 have B:∀b∈x,b≠58:=by
  obtain⟨_,_,h⟩|⟨_,_,_,h⟩:=nQ 58 l x m N
  .exact h
  .exact h
 obtain⟨c,g,rfl⟩:∃c g,x=c::g:=by
  cases x with
  |nil=>grind
  |cons c g=>simp
 have a2:=B c (by simp);obtain⟨M,D⟩:∃M,l=c::M:=by grind
 obtain⟨t,f,z,H,J⟩:=nP 4 l;have Z:l.drop (bA 4 l).length=t:=by have:=aB (List.drop (bA 4 l).length) f;rwa[qX] at this
 rw[D,bM,ab (by omega),ab a2,<-D,Z];generalize hh:bA 4 l=e at*;obtain⟨rfl,j,rfl⟩|⟨j,X⟩:=V
 .
  rw[<-j] at B⊢;have a6:l≠[]:=by rw[D];simp
  clear N j;cases t with
  |nil=>rw[dl] at f;have G:¬(46∈l):=λh=>(sJ 46 (z 46 (by rw[<-f];exact h))).2 rfl;rw[ab (by simp),ab (by grind),ab (λh=>G h.2)];have L:=yG e z H (by grind);rw[f,L];simp only[kE,eV]
  |cons d y=>
   by_cases u:d=46
   .grind
   .rw[ab (by simpa using u)]
    have P:=B d (by rw[f];simp);have I:=λh=>J h d y rfl;have E:cA l=none:=by
     by_cases A:e.length<4
     .exact yI l d (by rw[f];simp) (I A)
     .grind[yJ]
    have Y:(if([]:List Bs)=[]/\46∈l then(match cB l with|some a=>if i.length<=6 then some (i++ [a/65536,a%65536],w) else none|none=>none) else match cA l with|some v=>kE n [] [] (i++ [v]) w|none=>none)=none:=by
     rw[E];split
     .have:cB l=none:=by
       by_cases A:e.length<4
       .exact sM l d (by rw[f];simp) (I A) u
       .have U:e.length=4:=by omega
        by_cases S:aw d.toNat<16
        .
         cases s:cB l with
         |none=>rfl
         |some a=>
          unfold cB at s;split at s
          .rcases jR 46 y with hn|⟨p,q,rfl,L⟩
           .have G:¬(46∈l):=by
             rw[f];intro h;obtain h|h:=fm.1 h
             .exact(sJ 46 (z 46 h)).2 rfl
             .grind
            rename_i Q _;exact absurd Q.2 G
           .have T:ar 46 l=(e++d::p)::ar 46 q:=by
             rw[f,show e++d::(p++46::q)=(e++d::p)++46::q from by simp];refine ks 46 q _ ?_;intro b F;obtain F|F:=fm.1 F
             .grind[sJ]
             .grind
            rw[T,dZ] at s;have:dY (e++d::p)=none:=by
             match e,U with
             | [a1,b1,c1,o],_=>simp[JO]
            rw[this] at s;cases s
          .cases s
        .exact sM l d (by rw[f];simp) S u
      rw[this]
     .rfl
    rw[Y];split
    .rfl
    .grind
 .have K:m≠[]:=λh=>hO 58 r (by rw[X,h])
  rw[ab (show¬(m=[]/\46∈c::g) from λh=>K h.1)];obtain a4|a0|a5:=Nat.lt_trichotomy e.length (c::g).length
  .
   have R:∃d C,c::g=e++d::C/\t=d::(C++58::r):=by
    have o:e=(c::g).take e.length:=(by have:=aB (List.take e.length) (f.symm.trans j);rwa[ke,PM (by omega)] at this);have e2:t=(c::g).drop e.length++58::r:=(by have:=aB (List.drop e.length) (f.symm.trans j);rwa[qX,PP (by omega)] at this);cases u:(c::g).drop e.length with
    |nil=>grind
    |cons d C=>grind[List.take_append_drop]
   obtain⟨d,C,O,rfl⟩:=R;have P:=B d (by rw[O];simp);have E:cA (c::g)=none:=by
    by_cases A:e.length<4
    .exact yI _ d (by rw[O];simp) (J A d _ rfl)
    .grind[yJ]
   rw[E];simp only;by_cases u:d=46
   .subst u
    rw[ae (by rfl),sM l 58 (by rw[j];simp) (by decide) (by decide)]
   .grind
  .have o:e=c::g/\t=58::r:=by
    have:=f.symm.trans j;exact List.append_inj this a0
   obtain⟨o,rfl⟩:=o;subst o;rw[ab (by simp),ab (by simp),yG _ z H (by simp)];simp only[kE];rw[ab K];by_cases a7:r=[]
   .simp
   .simp
  .
   have:(58:UInt8)∈e:=by have o:e=(c::g++58::r).take e.length:=(by have:=aB (List.take e.length) (f.symm.trans j);rwa[ke] at this);rw[o,List.take_append];refine List.mem_append_right _ ?_;obtain⟨k,W⟩:∃k,e.length-(c::g).length=k+1:=⟨e.length-(c::g).length- 1,by omega⟩;rw[W];simp
   exact absurd (z 58 this) (by decide)
def jT (ps:List Int) (short:Option Nat) (o:Option (List Int)):Option (List Int×Option Nat):=
 match o with
 |some qs=>if ps.length+qs.length<=8 then some (ps++qs,short) else none
 |none=>none
theorem JQ (x:Bs) (c:List Bs) (d:List Int) (h:dh (x::c)=some d):d≠[]:=by
 cases c with
 |nil=>
  rw[sL] at h;split at h
  .cases b:cB x with
   |none=>grind
   |some a=>grind
  .cases b:cA x with
   |none=>grind
   |some a=>grind
 |cons y l=>
  rw[pQ] at h;cases b:cA x with
  |none=>grind
  |some n=>
   rw[b] at h;simp only at h;cases e:dh (y::l) with
   |none=>grind
   |some zs=>grind
theorem pS:cA []=none:=by decide
theorem nS (l:Bs) (h:l≠[]):ds l=ar 58 l:=by simp_all[ds]
theorem JR (a l:Bs) (h:dK (a++l)=false):dK l=false:=by
 induction a with
 |nil=>exact h
 |cons c a b=>grind[dK]
theorem yK (a r:Bs) (h:dK (a++58::r)=false):dK r=false/\r.head?≠some 58:=by have b:=JR a _ h;have b:(((58:UInt8)==58&&r.head? ==some 58)||dK r)=false:=b;rw[ov] at b;refine⟨b.2,λe=>?_⟩;rw[e] at b;exact absurd b.1 (by decide)
theorem pT:∀(n:Nat) (l:Bs) (ps:List Int) (short:Option Nat),l.length<n->ps.length<=8->(short.isSome=true\/(dK l=false/\l.head?≠some 58))->bM n l ps short=jT ps short (dh (ds l))
 |0,l,ps,short,hn,_,_=>by omega
 |n+1,[],ps,short,_,h8,_=>by
  rw[bM];show _=if ps.length+0<=8 then some (ps++ [],short) else none;rw[ae (by omega),dl]
 |n+1,c::l',ps,short,hn,h8,hs=>by
  obtain⟨x,xs,hx⟩:∃x xs,ar 58 (c::l')=x::xs:=by
   cases hx:ar 58 (c::l') with
   |nil=>grind[hO]
   |cons x xs=>simp
  rw[nS _ (by simp),hx];by_cases he:ps.length=8
  .have hl:bM (n+1) (c::l') ps short=none:=by rw[bM,ae he]
   rw[hl];unfold jT;cases hq:dh (x::xs) with
   |none=>rfl
   |some qs=>have:=iK.2 (JQ x xs qs hq);simp only;rw[ab (by omega)]
  .by_cases hxe:x=[]
   .subst hxe
    rcases nQ 58 _ _ _ hx with⟨_,h,_⟩|⟨r,h,h2,_⟩
    .cases h
    .injection h with hc hl
     subst hc;have hss:short.isSome=true:=by
      rcases hs with hs|hs
      .exact hs
      .grind
     rw[bM,ab he,ae rfl,ae hss];cases xs with
     |nil=>rfl
     |cons y ys=>rw[pQ,pS];rfl
   .rcases nQ 58 _ _ _ hx with⟨rfl,hlx,_⟩|⟨r,hlx,h2,_⟩
    .rw[pR n _ x [] [] hx (Or.inl ⟨rfl,hlx,rfl⟩) hxe ps (by omega) short,sL]
     by_cases h46:46∈x
     .rw[ae ⟨rfl,h46⟩,ae h46]
      cases cB x with
      |none=>rfl
      |some a=>simp[jT]
     .rw[ab (λh=>h46 h.2),ab h46]
      cases cA x with
      |none=>rfl
      |some v=>simp only[kd,jT,dL,gK,kE,eV];rw[ae (by omega)]
    .have hxs:xs≠[]:=λh=>hO 58 r (by rw[h2,h])
     rw[pR n _ x xs r hx (Or.inr ⟨hlx,h2⟩) hxe ps (by omega) short,ab (λh=>hxs h.1)];obtain⟨y,ys,rfl⟩:∃y ys,xs=y::ys:=by
      cases xs with
      |nil=>grind
      |cons y ys=>simp
     rw[pQ];cases cA x with
     |none=>rfl
     |some v=>
      simp only[kE];rw[ab hxs];by_cases hr:r=[]
      .subst hr
       have h3:(y::ys:List Bs)=[[]]:=h2.symm;rw[ae rfl,h3,sL,pS];rfl
      .rw[ab hr]
       have hlen:r.length<n:=(by have:=aB List.length hlx;simp at this hn;omega);rw[pT n r (ps++ [v]) short hlen (by simp;omega) (by
        grind[yK]),nS r hr,h2]
       unfold jT;cases dh (y::ys) with
       |none=>rfl
       |some qs=>grind
theorem yL (b:Bs):∀(n:Nat) (a:Bs) (ps:List Int),a.length+b.length+2<n->ps.length<=8->a≠[]->a.head?≠some 58->dK (a++ [58])=false->bM n (a++58::58::b) ps none=match cK (ar 58 a) with
   |some fs=>if ps.length+fs.length<8 then jT (ps++fs++ [0]) (some (ps.length+fs.length+1)) (dh (ds b)) else none
   |none=>none
 |0,a,ps,hn,_,_,_,_=>by omega
 |n+1,a,ps,hn,h8,hne,hh,hcc=>by
  obtain⟨x,xs,hx⟩:∃x xs,ar 58 a=x::xs:=by
   cases hx:ar 58 a with
   |nil=>grind[hO]
   |cons x xs=>simp
  obtain⟨c,a',rfl⟩:∃c a',a=c::a':=by
   cases a with
   |nil=>grind
   |cons c a'=>simp
  have hxe:x≠[]:=by
   rintro rfl;rcases nQ 58 _ _ _ hx with⟨_,h,_⟩|⟨r,h,_,_⟩
   .cases h
   .grind
  rw[hx,nR];by_cases he:ps.length=8
  .have hl:bM (n+1) (c::a'++58::58::b) ps none=none:=by rw[iL,bM,ae he]
   rw[hl];cases cA x with
   |none=>rfl
   |some v=>grind
  .rcases nQ 58 _ _ _ hx with⟨rfl,hax,hno⟩|⟨r,hax,h2,hno⟩
   .
    have hsp:ar 58 (c::a'++58::58::b)=x::ar 58 (58::b):=(by rw[hax];exact ks 58 _ x hno);have hsn:ar 58 (58::b)≠[]:=hO 58 _;rw[pR n _ x _ (58::b) hsp (Or.inr ⟨by rw[hax],rfl⟩) hxe ps (by omega) none,ab (λh=>hsn h.1)];cases cA x with
    |none=>rfl
    |some v=>
     simp only[kE];rw[ab hsn,ab (by simp)];match n,hn with
     |0,hn=>omega
     |n+1,hn=>
      show bM (n+1) (58::b) (ps++ [v]) none=_;rw[bM];have e0:cK []=some []:=rfl;simp only[e0,kd,cC,dL,gK];by_cases h7:ps.length+(0+1)=8
      .grind
      .rw[ab h7,ae trivial,ab (by simp),ae (by omega)]
       rw[pT n b _ _ (by omega) (by simp;omega) (Or.inl rfl)]
   .have hsp:ar 58 (c::a'++58::58::b)=x::ar 58 (r++58::58::b):=by
     rw[hax,eU];exact ks 58 _ x hno
    have hsn:ar 58 (r++58::58::b)≠[]:=hO 58 _;rw[pR n _ x _ (r++58::58::b) hsp (Or.inr ⟨by rw[hax];simp,rfl⟩) hxe ps (by omega) none,ab (λh=>hsn h.1)];have hcc2:=hcc;rw[hax,eU] at hcc2;have hnx:dK (r++ [58])=false/\(r++ [58]).head?≠some 58:=yK x (r++ [58]) hcc2;have hr0:r≠[]:=(by rintro rfl;exact hnx.2 rfl);have hrh:r.head?≠some 58:=by
     cases r with
     |nil=>simp
     |cons d y=>exact hnx.2
    cases cA x with
    |none=>rfl
    |some v=>
     simp only[kE];rw[ab hsn,ab (by simp)];have hlen:r.length+b.length+2<n:=by have:=aB List.length hax;simp at this hn;omega
     rw[yL b n r (ps++ [v]) hlen (by simp;omega) hr0 hrh hnx.1,h2];cases cK xs with
     |none=>rfl
     |some fs=>grind
theorem yM (f g:List Int) (h:f.length+1+g.length<=8):fu (some (f++ [0]++g,some (f.length+1)))=gE true (some f) (some g):=by
 unfold fu gE;have d:decide ((f.length:Int)+(g.length:Int)<8)=true:=dC (by omega);simp only[d,eV];have b:(f++ [0]++g).take (f.length+1)=f++ [0]:=by rw[show f.length+1=(f++ [(0:Int)]).length from by simp,ke]
 have a:(f++ [0]++g).drop (f.length+1)=g:=by rw[show f.length+1=(f++ [(0:Int)]).length from by simp,qX]
 have i:(f++ [0]++g).length=f.length+1+g.length:=by simp;omega
 rw[b,a,i];obtain⟨k,c⟩:∃k,8- f.length- g.length=k+1:=⟨8- f.length- g.length- 1,by omega⟩;have e:8-(f.length+1+g.length)=k:=by omega
 rw[c,e,uu];simp
theorem sN (f g:List Int) (h:¬f.length+1+g.length<=8):gE true (some f) (some g)=none:=by grind[gE]
theorem JS (l:Bs):ms l=fw l:=by
 unfold ms;split
 .rename_i r
  have hcut:Lib.cut (58::58::r) [58,58]=([],r,true):=qa [] r (by decide);rw[pT _ r [0] (some 1) (by simp;omega) (by simp) (.inl rfl)];unfold fw;rw[hcut];simp only;have j:cK (ds [])=some []:=rfl;rw[j];cases s:dh (ds r) with
  |none=>rfl
  |some a=>
   unfold jT;by_cases e:1+a.length<=8
   .simp only[dL,gK]
    rw[ae (by omega)];exact yM [] a (by simp;omega)
   .simp only[dL,gK]
    rw[ab (by omega)];exact(sN [] a (by simp;omega)).symm
 .rename_i r u
  have u:r.head?≠some 58:=by
   cases r with
   |nil=>simp
   |cons d y=>simp_all
  show none=fw (58::r);have n:∀q:Bs,∃y f,ar 58 (58::q)=[]::y::f:=by
   intro q;cases s:ar 58 q with
   |nil=>grind[hO]
   |cons y f=>simp_all[ar]
  unfold fw;by_cases b:dK (58::r)=false
  .rw[tn _ b]
   simp only;obtain⟨y,f,h⟩:=n r;rw[nS (58::r) (by simp),h,pQ,pS];rfl
  .obtain⟨p,q,k,g⟩:=rK _ (by simpa using b)
   rw[k,qa p q g];simp only;cases p with
   |nil=>grind
   |cons d p=>injection k with hd _;rw[<-hd];obtain⟨y,f,h⟩:=n p;rw[nS (58::p) (by simp),h,nR,pS];rfl
 .rename_i w v
  have i:l.head?≠some 58:=by
   cases l with
   |nil=>simp
   |cons d y=>simp_all
  unfold fw;by_cases b:dK l=false
  .rw[tn _ b,pT _ l [] none (by omega) (by simp) (.inr ⟨b,i⟩)]
   simp only;have j:cK (ds [])=some []:=rfl;rw[j];cases dh (ds l) with
   |none=>rfl
   |some a=>
    unfold jT gE;simp only[gK,fP,gn,ge,fO];by_cases e:a.length=8
    .simp_all[fu]
    .rw[ab (show¬((((0:Nat):Int)+(a.length:Int)==8)=true) from by simp;omega)]
     split
     .grind[fu]
     .rfl
  .obtain⟨p,q,rfl,g⟩:=rK _ (by simpa using b)
   have m:p≠[]:=(by rintro rfl;exact i rfl);have t:p.head?≠some 58:=by
    cases p with
    |nil=>simp
    |cons d y=>exact i
   rw[qa p q g,yL q _ p [] (by simp;omega) (by simp) m t g];simp only;rw[nS p m];cases cK (ar 58 p) with
   |none=>rfl
   |some c=>
    simp only[gK,fP,gn];by_cases o:c.length<8
    .rw[ae o]
     cases dh (ds q) with
     |none=>rfl
     |some a=>
      unfold jT;simp only[cC,dL,gK];by_cases e:c.length+1+a.length<=8
      .rw[ae (by omega)]
       exact yM c a e
      .rw[ab (by omega)]
       exact(sN c a e).symm
    .rw[ab o]
     cases dh (ds q) with
     |none=>rfl
     |some a=>exact(sN c a (by omega)).symm
end Go.Moor
