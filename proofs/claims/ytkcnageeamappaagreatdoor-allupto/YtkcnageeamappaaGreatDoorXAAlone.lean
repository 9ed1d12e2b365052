import Derived.Test.YtkcnageeamappaaGreatDoorXU15v
import Derived.Test.YtkcnageeamappaaGreatDoorXU17
set_option maxHeartbeats 32000000
set_option maxRecDepth 8000
set_option linter.unusedSimpArgs false
namespace Go.Proofs
open Go.RowKit Go.Moor Go.Proofs.Tryz Go.Moor
theorem LB {B R k j:Nat} {c:Value} {s:ByteArray} {w0:World} {u:Adr} {A:Value} (a:Nat) {w:World} {base:Option Adr} (l:Mem B R k j c s w0 u A (a:Nat) 9 0 w) (h:iY B w0 c base) (m:∀b,base=some b->ao b.s=true->b.w.o=false) (g:u.w.o=false) (f:a<=s.size) (n:s.size<=1000000) (D:u.w.g.length<=1000000):Calls prog 183 #[.pointer (some ⟨k,0,none⟩)] w λe w'=>e=.returned (.tuple #[])/\bl B R k j c s w0 (dJ base ⟨u,s.data.toList.drop a,9,0⟩) w':=by
 by_cases i:∃b x r,base=some b/\b.w.g=x::r/\b.s=sFile/\ax (ak u.s) (s.L.drop a)=false/\dr (s.L.drop a)=false/\ek x=true
 .obtain⟨b,x,r,rfl,G,d,v,z,q⟩:=i
  obtain⟨J,K,rfl,E⟩:=h;have p:=m b rfl (by rw[d];decide);have F:dA (some b)=some b:=by unfold dA;simp[d]
  exact LA a l E d F G q v z p g f n D
 .exact Lz a l h m g f n (λb x r t o y H C I=>i ⟨b,x,r,t,o,y,H,C,I⟩)
theorem Nu (c:UInt8):ex c=(ct c||(refDigit c||((((c.toNat:Int)==43)||((c.toNat:Int)==45))||((c.toNat:Int)==46)))):=by
 have a:∀k:Nat,k<256->(c==UInt8.ofNat k)=((c.toNat:Int)==(k:Int)):=by intro k e;rw[ki,dM,dM];exact dt c k e
 have d:(c==43)=((c.toNat:Int)==43):=a 43 (by decide);have b:(c==45)=((c.toNat:Int)==45):=a 45 (by decide);have f:(c==46)=((c.toNat:Int)==46):=a 46 (by decide);unfold ex;rw[d,b,f,Ar];unfold fS;simp only[Bool.or_assoc]
theorem Nv:∀D x y z:Bool,(false||(D||((x||y)||z)))=true->D=true\/(D=false/\(!x)=false)\/(D=false/\(!x)=true/\(!y)=false)\/(D=false/\(!x)=true/\(!y)=true/\(!z)=false):=by decide
theorem Nw:∀D x y z:Bool,(false||(D||((x||y)||z)))=false->D=false/\(!x)=true/\(!y)=true/\(!z)=true:=by decide
theorem qm (l:Bs) (k:Nat) (h:k<l.length):l=l.take k++l[k]::l.drop (k+1):=by simp
theorem tK (l:Bs) (w:World) (hs:l.length<=35184372088832):Calls prog 122 #[.string ⟨l.toArray⟩] w fun e w'=>e=.returned (.int .i64 (aS l))/\w'=w:=by
 have P:=hI fun c f=>nI c f;have O:=hI fun c f=>zB c f;obtain⟨s,I⟩:∃s:ByteArray,s=⟨l.toArray⟩:=⟨_,rfl⟩;have a7:l.length=s.size:=by rw[I,al]
 have Q:Hid (∀(k:Nat) (h:k<s.size) (n:k<l.length),l[k]=s[k]):=by intro k h n;subst I;rfl
 rw[<-I];clear I;obtain⟨C,R⟩:=am ((aS l:Nat):Int);have E:=hI R;rw[<-R];clear R;go_enter func122,ntmps122;go_wp2_with fail;go_loopw [3] (fun i wr=>∃k:Nat,k<=s.size/\i=Iv (k:Nat)/\(∀x∈l.take k,ex x=true)/\(0<k->li l=true)/\wr=w) (fun i _=>s.size-(intOf i).toNat)
 case atStart=>exact⟨0,aR _,rfl,by simp,by simp,rfl⟩
 case round=>
  obtain⟨k,hk,rfl,X,Z,a1⟩:=hrel;subst a1;have u:=hI X;have H:=hI Z;clear X Z;by_cases a2:k<s.size
  .have n:k<l.length:=by omega
   have F:=Q k a2 n;have r:Hid _:=O s[k];have t:Hid _:=P s[k];have J:=qm l k n;have g:Hid _:=Nu s[k];have p:Hid (0<k->(s[k].toNat:Int)=58->C=(k:Int)+1):=by
    intro d b;rw[E.out];rw[J,F,(dt s[k] 58 (by decide)).2 b];have a0:cw (l.take k)=true:=by
     unfold cw;rw[fx];refine⟨?_,gI.2 u⟩;have hb:=H d;cases l with
     |nil=>simp at n
     |cons x y=>
      match k,d with
      |k+1,_=>exact hb
    have:=Nl (l.take k) (l.drop (k+1)) a0;rw[show(UInt8.ofNat 58::l.drop (k+1):Bs)=58::l.drop (k+1) from rfl,this,cL,BY (by omega)];omega
   have m:Hid ((k=0->ct s[k]=false)->(0<k->ex s[k]=false/\¬(s[k].toNat:Int)=58)->C=0):=by
    intro d v;rw[E.out,J,F];rw[Nn (l.take k) (l.drop (k+1)) s[k] u (fun h=>d (by
     have:=aB List.length h;rw[cL] at this;simp at this;obtain this|this:=this
     .exact this
     .rw[this] at n;simp at n)) (fun h=>by
     have a5:0<k:=by
      obtain hz|hz:=oB k
      .rw[hz] at h;exact absurd rfl h
      .exact hz
     have:=v a5;exact⟨this.1,fun e=>this.2 ((dt s[k] 58 (by decide)).1 e)⟩)]
    rfl
   have j:Hid (ex s[k]=true->(k=0->ct s[k]=true)->(∀x∈l.take (k+1),ex x=true)/\(0<k+1->li l=true)):=by
    intro v d;refine⟨?_,fun _=>?_⟩
    .intro x B
     rw[iz l k n,fm] at B;obtain B|B:=B
     .exact u x B
     .rw[kZ.1 B,F]
      exact v
    .obtain hz|hz:=oB k
     .subst hz
      cases l with
      |nil=>simp at n
      |cons x y=>have:x=s[0]:=F;show ct x=true;rw[this];exact d rfl
     .exact H hz
   clear E u H J F Q O P;generalize hL:ct s[k]=L at*;generalize hD:refDigit s[k]=D at*;clear hL hD;by_cases b:(s[k].toNat:Int)=58
   .have M:((s[k].toNat:Int)==43)=false:=by rw[b];rfl
    have T:((s[k].toNat:Int)==45)=false:=(by rw[b];rfl);have N:((s[k].toNat:Int)==46)=false:=(by rw[b];rfl);have S:Hid ((s[k].toNat:Int)=58):=b;by_cases d:k=0
    .cases L with
     |true=>
      have U:=j.out (by rw[g.out];rfl) (fun _=>rfl);have q:Hid _:=U;have Y:¬(0:Int)<(k:Int):=(by omega);clear p m g j U M T N b d;go_wp2_with fail;refine af (r.out _) ?_;rintro e f ⟨rfl,a⟩;have a:=a.symm;subst a;go_wp2_with fail;refine af (t.out _) ?_;rintro e f ⟨rfl,a⟩;have a:=a.symm;subst a;have b:=S.out;go_wp2;go_roundw
      case rel=>exact⟨k+1,by omega,by go_num,q.out.1,q.out.2,trivial⟩
      case measure=>(simp[intOf];try omega)
     |false=>have o:Hid (C=0):=m.out (fun _=>rfl) (fun h=>by omega);have Y:¬(0:Int)<(k:Int):=(by omega);have W:((k:Int)==0)=true:=(by rw[d];rfl);clear p m g j M T N b d;go_wp2_with fail;refine af (r.out _) ?_;rintro e f ⟨rfl,a⟩;have a:=a.symm;subst a;go_wp2_with fail;refine af (t.out _) ?_;rintro e f ⟨rfl,a⟩;have a:=a.symm;subst a;have b:=S.out;go_wp2;go_ret;rw[o.out];exact⟨rfl,rfl⟩
    .have o:Hid (C=(k:Int)+1):=p.out (by omega) b
     have Y:(0:Int)<(k:Int):=(by omega);clear p m g j M T N b;go_wp2_with fail;refine mR (r _) fun f a=>?_;obtain rfl:=a.symm;go_wp2_with fail;refine mR (t _) fun f a=>?_;obtain rfl:=a.symm;have b:=S;go_wp2;go_ret;rw[o.out];exact⟨rfl,rfl⟩
   .have a6:((s[k].toNat:Int)==58)=false:=by simpa using b
    cases L with
    |true=>
     have q:Hid _:=j (by rw[g.out];rfl) (fun _=>rfl);clear p m g j b;go_wp2_with fail;refine mR (r _) fun f a=>?_;obtain rfl:=a.symm;go_wp2_with fail;refine mR (t _) fun f a=>?_;obtain rfl:=a.symm;go_wp2;go_roundw
     case rel=>exact⟨k+1,by omega,by go_num,q.out.1,q.out.2,trivial⟩
     case measure=>(simp[intOf];try omega)
    |false=>
     by_cases d:k=0
     .have o:=hI (m (fun _=>rfl) (fun h=>by omega))
      have W:((k:Int)==0)=true:=(by rw[d];rfl);clear p m g j b d;go_wp2_with fail;refine mR (r _) fun f a=>?_;obtain rfl:=a.symm;go_wp2_with fail;refine mR (t _) fun f a=>?_;obtain rfl:=a.symm;go_wp2;go_ret;rw[o.out];exact⟨rfl,rfl⟩
     .have W:((k:Int)==0)=false:=by simpa using d
      by_cases z:ex s[k]=true
      .have q:Hid _:=j z (fun h=>absurd h d)
       have a3:D=true\/(D=false/\((s[k].toNat:Int) !=43)=false)\/(D=false/\((s[k].toNat:Int) !=43)=true/\((s[k].toNat:Int) !=45)=false)\/(D=false/\((s[k].toNat:Int) !=43)=true/\((s[k].toNat:Int) !=45)=true/\((s[k].toNat:Int) !=46)=false):=(by rw[g.out] at z;exact Nv D _ _ _ z);clear p m g j b z;rcases a3 with A|⟨A,K⟩|⟨A,K,V⟩|⟨A,K,V,q4⟩;all_goals
        subst A;go_wp2_with fail;refine mR (r _) fun f a=>?_;obtain rfl:=a.symm;go_wp2_with fail;refine mR (t _) fun f a=>?_;obtain rfl:=a.symm;go_wp2;go_roundw
        case rel=>exact⟨k+1,by omega,by go_num,q.out.1,q.out.2,trivial⟩
        case measure=>(simp[intOf];try omega)
      .have G:ex s[k]=false:=by simpa using z
       have o:=hI (m (fun h=>absurd h d) (fun _=>⟨G,b⟩));have a4:D=false/\((s[k].toNat:Int) !=43)=true/\((s[k].toNat:Int) !=45)=true/\((s[k].toNat:Int) !=46)=true:=(by rw[g.out] at G;exact Nw D _ _ _ G);obtain⟨A,K,V,q4⟩:=a4;subst A;clear p m g j b z G;go_wp2_with fail;refine mR (r _) fun f a=>?_;obtain rfl:=a.symm;go_wp2_with fail;refine m0 (t _) ?_;go_wp2;go_ret;rw[o.out];exact⟨rfl,rfl⟩
  .have o:Hid (C=0):=by
    show _=_;have v:=u;rw[cg (by omega)] at v;rw[E.out,Nm l v];rfl
   clear E u H Q O P;go_wp2;go_ret;rw[o.out];exact⟨rfl,rfl⟩
def qn:Value->Nat
 | .string b=>b.size
 |_=>0
theorem Nx (l:Bs):dE l=gU (fp blankB l):=rfl
theorem qo (c:UInt8):blankB c=decide ((c.toNat:Int)<=32):=by unfold blankB;apply decide_eq_decide.2;omega
theorem At (m l:Bs) (h:(m.reverse.dropWhile blankB).reverse=fp blankB l) (a:m=[]\/∃x y,m=x++ [y]/\blankB y=false):m=fp blankB l:=by
 rw[<-h];rcases a with rfl|⟨x,y,rfl,b⟩
 .rfl
 .rw[qN]
  simp[b]
theorem Ny (m l:Bs) (h:m.dropWhile blankB=l.dropWhile blankB) (a:m=[]\/∃y x,m=y::x/\blankB y=false):(m.reverse.dropWhile blankB).reverse=fp blankB l:=by
 unfold fp;rw[<-h];rcases a with rfl|⟨y,x,rfl,b⟩
 .rfl
 .simp[b]
theorem Nz (l:Bs) (w:World) (hs:l.length<=35184372088832):Calls prog 121 #[.string ⟨l.toArray⟩] w fun e w'=>e=.returned (.string ⟨(dE l).toArray⟩)/\∃nd,w'=w.drewN nd:=by
 have HBA:Hid (∀(m:Bs) (mb:ByteArray) W,mb=(Bv m)->m.length<=35184372088832->CN 75 #[.string mb] W (Sv (gU m))):=by intro m mb W h hm;rw[h];exact zC (Bv m) W (by rw[al];exact hm)
 rw[Nx];go_enter func121,ntmps121;go_wp2_with fail;go_loopw [0] (fun x wr=>∃m:Bs,x=.string ⟨m.toArray⟩/\m.length<=35184372088832/\m.dropWhile blankB=l.dropWhile blankB/\wr=w) (fun x _=>qn x)
 case atStart=>exact⟨l,rfl,hs,rfl,rfl⟩
 case round=>
  obtain⟨m,rfl,hml,hmd,hwr⟩:=hrel;obtain rfl:=hwr.symm;have HMD:=hI hmd;clear hmd;obtain⟨mb,hmb⟩:∃mb:ByteArray,mb=⟨m.toArray⟩:=⟨_,rfl⟩;have hsz:mb.size=m.length:=by rw[hmb,al]
  have HG:Hid (∀(k:Nat) (h:k<mb.size) (h2:k<m.length),m[k]=mb[k]):=by intro k h h2;subst hmb;rfl
  have HXT:Hid (∀i j:Nat,mb.extract i j=⟨((m.drop i).take (j- i)).toArray⟩):=by intro i j;rw[hmb];exact fJ _ i j
  rw[<-hmb];clear hmb;have hcase:(∃h0:0<mb.size,((mb[0]'h0).toNat:Int)<=32)\/(mb.size=0\/∃h0:0<mb.size,¬((mb[0]'h0).toNat:Int)<=32):=by
   obtain h|h:=oB mb.size
   .exact .inr (.inl h)
   .grind
  rcases hcase with⟨h0,hb0⟩|hex
  .have hm0:0<m.length:=by omega
   have hsp:=qm m 0 hm0;have HN:Hid ((m.drop 1).dropWhile blankB=l.dropWhile blankB):=by
    show _=_;rw[<-HMD.out];conv=>rhs;rw[hsp]
    rw[oA,gn,oC,HG.out 0 h0 hm0,qo,dC hb0];rfl
   have hx:mb.extract 1 mb.size=(Bv (m.drop 1)):=(by rw[HXT.out,cg (by rw[cm];omega)]);have HL:Hid ((m.drop 1).length<=35184372088832/\(m.drop 1).length<mb.size):=(by rw[cm];exact⟨by omega,by omega⟩);generalize m.drop 1=m2 at*;have h1i:(1:Int)<=(mb.size:Int):=(by omega);clear HMD HG HXT hsp hsz;go_wp2;go_roundw
   case rel=>exact⟨m2,rfl,HL.out.1,HN,trivial⟩
   case measure=>(simp only[qn,al];exact HL.out.2)
  .have HST:Hid ((m.reverse.dropWhile blankB).reverse=fp blankB l):=by
    refine Ny m l HMD ?_;rcases hex with h|⟨h0,hb0⟩
    .grind
    .right
     have hm0:0<m.length:=(by omega);refine⟨m[0],m.drop 1,qm m 0 hm0,?_⟩;rw[HG.out 0 h0 hm0,qo,ee hb0]
   have HMB:Hid (mb=⟨m.toArray⟩/\m.length<=35184372088832):=⟨by
    have:=HXT 0 mb.size;rw[mQ,cg (by omega)] at this;rw[<-this];simp,hml⟩
   clear HMD HG HXT;rcases hex with h|⟨h0,hb0⟩;all_goals
    go_wp2_with fail;go_loopw [0] (fun x wr=>∃m:Bs,x=.string ⟨m.toArray⟩/\m.length<=35184372088832/\(m.reverse.dropWhile blankB).reverse=fp blankB l/\wr=w) (fun x _=>qn x)
    case atStart=>exact⟨m,aB Value.string HMB.out.1,HMB.out.2,HST,rfl⟩
    case round=>
     clear HST HMB;obtain⟨m3,rfl,hml3,hmd3,hwr⟩:=hrel;have hwr:=hwr.symm;subst hwr;have HMD3:Hid ((m3.reverse.dropWhile blankB).reverse=fp blankB l):=hmd3;clear hmd3;obtain⟨mc,hmc⟩:∃mc:ByteArray,mc=⟨m3.toArray⟩:=⟨_,rfl⟩;have HMC:=hI hmc;have hsz3:mc.size=m3.length:=(by rw[hmc,al]);have HG3:Hid (∀(k:Nat) (h:k<mc.size) (h2:k<m3.length),m3[k]=mc[k]):=by intro k h h2;subst hmc;rfl
     have HXT3:Hid (∀i j:Nat,mc.extract i j=(Bv ((m3.drop i).take (j- i)))):=(by intro i j;rw[hmc];exact fJ _ i j);rw[<-hmc];clear hmc;obtain hz|hz:=oB mc.size
     .have HF:=hI (At m3 l HMD3 (.inl (oy.1 (by omega))))
      have HB2:Hid _:=fun W=>HBA m3 mc W HMC hml3;rw[HF.out] at HB2;clear HG3 HXT3 HMD3 HMC HF;go_wp2_with fail;refine mR (HB2 _) ?_;rintro w1 ⟨nd,rfl⟩;go_wp2;go_ret;exact⟨rfl,_,rfl⟩
     .obtain⟨n,hn⟩:∃n,mc.size=n+1:=⟨mc.size- 1,by omega⟩
      have hnl:n<mc.size:=(by omega);have hn3:n<m3.length:=(by omega);have hsp:=qm m3 n hn3;rw[im (by omega)] at hsp;by_cases hb:((mc[n]'hnl).toNat:Int)<=32
      .have HN:Hid (((m3.take n).reverse.dropWhile blankB).reverse=fp blankB l):=by
        show _=_;rw[<-HMD3.out];conv=>rhs;rw[hsp]
        rw[qN,List.reverse_singleton,List.singleton_append,oC,HG3.out n hnl hn3,qo,dC hb];rfl
       have hx:mc.extract 0 n=(Bv (m3.take n)):=(by rw[HXT3.out,mQ,Nat.sub_zero]);have HL:Hid ((m3.take n).length<=35184372088832/\(m3.take n).length<n+1):=(by rw[cL];exact⟨by omega,by omega⟩);generalize m3.take n=m4 at*;have HSN:=hI hn;clear HMD3 HG3 HXT3 hsp hsz3 HMC;go_wp2;go_roundw
       case rel=>exact⟨m4,rfl,HL.out.1,HN,trivial⟩
       case measure=>(simp only[qn,al,HSN.out];exact HL.out.2)
      .have HF:=hI (At m3 l HMD3 (.inr ⟨m3.take n,m3[n],hsp,by rw[HG3.out n hnl hn3,qo,ee hb]⟩))
       have HB2:Hid _:=fun W=>HBA m3 mc W HMC hml3;rw[HF.out] at HB2;have hnb:n<=35184372088832:=(by omega);clear HG3 HXT3 HMD3 HMC HF hsp hsz3 hn3 hml3;go_wp2_with fail;refine mR (HB2 _) ?_;rintro w1 ⟨nd,rfl⟩;go_wp2;go_ret;exact⟨rfl,_,rfl⟩
def tA (w:World) (res:Except Int Adr) (e:Ending) (w':World):Prop:=
 Below w.heap.size w w'/\match res with
 | .ok u=>∃pv,e=.returned (.tuple #[.pointer (some ⟨w.heap.size,0,none⟩),.int .i64 0])/\Tryz.UBase w'.heap.size w' u w.heap.size pv/\Tryz.UAt w' w.heap.size u pv
 | .error er=>e=.returned (.tuple #[.pointer none,.int .i64 er])/\er≠0
theorem Mz (base:Option Adr) (c:∀b,base=some b->eJ b):∀b,base=some b->ao b.s=true->b.w.o=false:=λb a d=>((c b a).2.1 d).2
theorem tB (base:Option Adr) (n:Nat) (c f:Mc) (h:gm hostTell base n c=some f) (a:c.st=13\/c.err≠0):f=c:=by
 cases n with
 |zero=>simp_all[gm]
 |succ n=>simp_all[gm]
theorem Aa (base:Option Adr) (n:Nat) (c f:Mc) (h:gm hostTell base n c=some f) (a:¬(c.st=13\/c.err≠0)):∃m,m<n/\gm hostTell base m (ap hostTell base c)=some f:=by
 cases n with
 |zero=>simp_all[gm]
 |succ n=>unfold gm at h;rw[ab a] at h;exact⟨n,Nat.lt_succ_self _,h⟩
theorem tC (t:Bs) (bv:Value) (base:Option Adr) (w:World) (D:iY w.heap.size w bv base) (hg:∀b,base=some b->eJ b) (e1:gV base<=400000) (ht:t.length<=2000):Calls prog 68 #[.string ⟨t.toArray⟩,bv] w fun e w'=>tA w (bL hostTell t base) e w':=by
 have M:=Mz base hg;have d2:∃p,bv=.pointer p:=by
  cases base with
  |none=>exact⟨none,D⟩
  |some b=>obtain⟨bj,d9,P,_⟩:=D;exact⟨_,P⟩
 obtain⟨k,rfl⟩:=d2;have c9:=bu (rq t) ht;obtain⟨nr,f,r,c6⟩:=JE hostTell FN t base hg;have G:Hid (∀e w',Bl w w'->(f.err≠0->e=.returned (.tuple #[.pointer none,Iv f.err]))->(f.err=0->∃v,e=.returned (.tuple #[Pt w.heap.size,Iv 0])/\UBase w'.heap.size w' f.u w.heap.size v/\UAt w' w.heap.size f.u v)->tA w (bL hostTell t base) e w'):=by
  intro e w' T P h2;refine⟨T,?_⟩;cases H:bL hostTell t base with
  |ok u=>grind
  |error er=>grind
 clear c6;have F:=hI fun W=>Nz t W (by omega);obtain⟨l,hl⟩:=am (dE t);rw[<-hl] at F c9 r;have a8:=hI fun W=>tK l W (by omega);obtain⟨s,N⟩:∃s:ByteArray,s=⟨l.toArray⟩:=⟨_,rfl⟩;have e2:l.length=s.size:=by rw[N,al]
 have b7:s.data.toList=l:=by rw[N]
 have HX:Hid (∀q:Nat,s.extract 0 q=⟨(l.take q).toArray⟩):=by intro q;rw[N];exact tw l q
 rw[<-N] at F a8;have a2:Hid (∀(x:Bs) W,x.length<=2000->CB 118 #[Sv x] W (Sv (Lib.toLowerA x))):=fun x W hx=>sr (Bv x) W (by grind[al]);have c4:(aU l).2.length+(2+gV base)<=410000:=by
  have P:(aU l).2.length<=l.length:=by
   rw[nT];split
   .simp
   .simp
  omega
 obtain⟨a9,I,a1⟩:=MD base M (aU l).1 (aU l).2 410000 c4;obtain⟨U,b6⟩:=am (js base (aU l).1 (aU l).2);rw[<-b6] at r a9 I a1;have S:Hid (∀c W,bl w.heap.size (w.heap.size+2) (w.heap.size+1) w.heap.size (.pointer k) s w c W->Inv base 410000 c->iG c->c.st≠13->c.err=0->CQ 124 #[Pt (w.heap.size+1)] W (.tuple #[]) (iD w.heap.size (w.heap.size+2) (w.heap.size+1) w.heap.size (.pointer k) s w (ap hostTell base c))):=by intro c W H B A o i;exact MK D M (by omega) (by omega) (fun u v a C d ha hu hp=>LJ a d hu hp ha (by omega)) (fun u v a C d ha ho c8=>LB a d D M ho ha (by omega) c8) c W H B A o i
 have b2:Hid (∀(u:Adr) v (a z er:Int) W,Mem w.heap.size (w.heap.size+2) (w.heap.size+1) w.heap.size (.pointer k) s w u v a z er W->CN 123 #[Pt (w.heap.size+1)] W (Iv (dI base u.s:Nat))):=fun u v a z er W d=>Ld d D;have K:=hI fun nd=>ML w nd (.pointer k) s;have a0:Hid (aS l=0->U=⟨df [],l,14,0⟩):=fun h=>by grind[MB]
 have V:Hid (aS l≠0->U=⟨df (Lib.toLowerA (l.take (aS l- 1))),l.drop (aS l),dI base (Lib.toLowerA (l.take (aS l- 1))),0⟩):=fun h=>by grind[MC]
 have d8:=Ab l;have b4:=hI b7;have a6:=hI r;have a5:=hI a9;have a4:=hI I;have a3:=hI a1;have Q:Hid (∀c,Inv base 410000 c->Inv base 410000 (ap hostTell base c)):=fun c h=>AA hostTell M c h;have L:Hid (∀c,iG c->iG (ap hostTell base c)):=fun c h=>ND hostTell c h;clear D hg M b6 hl N b7 r a9 I a1 c4;generalize aS l=n at*;go_enter func68,ntmps68;go_wp2_with fail;refine mR (F _) ?_;rintro J ⟨nd,rfl⟩;go_upto_region 3 with fail;go_name_world W1 hW1;have Y:Mem w.heap.size (w.heap.size+2) (w.heap.size+1) w.heap.size (.pointer k) s w (df []) (.slice none 0 0) 0 0 0 W1:=by rw[<-hW1];exact K nd
 have c5:Hid _:=Y;have R:=Y.y4;have x4:=Y.f 4;clear hW1 Y K F;go_wp2_with fail;refine m0 (a8 _) ?_;go_upto_if 22 with fail
 go_name_world C hW2;have b0:Mem w.heap.size (w.heap.size+2) (w.heap.size+1) w.heap.size (.pointer k) s w (df []) (.slice none 0 0) 0 14 0 C:=by rw[<-hW2];exact c5.out.set_st 14
 have Z:Hid _:=b0;have y0:=b0.y0;clear hW2 b0 c5 R x4;go_cut [] from 21 to 42 (fun wx=>bl w.heap.size (w.heap.size+2) (w.heap.size+1) w.heap.size (.pointer k) s w U wx)
 case first=>
  clear G S a6 a5 a4 a3 Q L;by_cases I:n=0
  .subst I
   have O:Hid _:=a0 rfl;clear a0 V;go_wp2;go_meet
   case rel=>(rw[O.out];exact bN (a:=0) Z (aR _) _ (by rw[b4.out];rfl))
  .have O:Hid _:=V I
   have d6:(0:Int)<(n:Int):=(by omega);obtain⟨m,d⟩:=am (n- 1);have q6:IntKind.i64.wrap ((n:Int)- 1)=(m:Int):=(by rw[lc];unfold wrap64;omega);have q2:(m:Int)<=(s.size:Int):=(by omega);rw[<-d] at O;have hx:=HX m;have b8:Hid _:=fun W=>a2 (l.take m) W (by grind);obtain⟨sm,c1⟩:=am (Lib.toLowerA (l.take m));rw[<-c1] at b8 O;have F:Hid (∀j,Bl C j->Ce j (w.heap.size+1) 0 (Pt w.heap.size)/\Ce j w.heap.size 0 (Sv [])/\j.frozen? (Ad w.heap.size 0)=false/\Ce j (w.heap.size+1) 3 (Iv 0)/\j.frozen? (Ad (w.heap.size+1) 3)=false/\Ce j (w.heap.size+1) 4 (Iv 14)/\j.frozen? (Ad (w.heap.size+1) 4)=false/\Hid (Mem w.heap.size (w.heap.size+2) (w.heap.size+1) w.heap.size (.pointer k) s w (df sm) (.slice none 0 0) 0 14 0 (j.setCell (Ad w.heap.size 0) (Sv sm)))):=(by intro j h5;have y:=Z.out.off h5;exact⟨aa y.K 0,aa y.U 0,y.g 0,aa y.K 3,y.f 3,aa y.K 4,y.f 4,y.uset (u':=df sm) 0 _ rfl rfl⟩);have c7:n<=s.size:=(by omega);clear a0 V HX a2 c1 Z d;go_wp2;go_region_held3 (fun w'=>w'.cell? ⟨w.heap.size+1,0,none⟩=some (.pointer (some ⟨w.heap.size,0,none⟩))) (go_keep) (first|(go_at_call 118;refine af (b8.out _) ?_;rintro e j ⟨rfl,c2⟩;obtain⟨v0,e0,d5,v3,x3,v4,x4,b5⟩:=F.out j ((du rfl rfl rfl rfl:Below C.heap.size C C.drew).trans c2);clear c2))
   go_wp2_with fail;refine mR (b2 _ _ _ _ _ _ (b5.out.set_a (n:Int))) ?_;rintro w6 ⟨n6,rfl⟩;go_wp2;go_meet
   case rel=>(rw[O.out];exact bN (a:=n) (((b5.out.set_a (n:Int)).drewN n6).set_st _) c7 _ (by rw[b4.out]))
 case rest=>
 have b3:=hI hcut;clear hcut a0 V HX a2 Z b2 y0 a8;go_wp2_with fail;go_loopg [] nr (fun g wr=>∃c,gm hostTell base g c=some f/\iD w.heap.size (w.heap.size+2) (w.heap.size+1) w.heap.size (.pointer k) s w c wr/\Inv base 410000 c/\iG c)
 case atStart=>exact⟨U,a6,iZ b3 a3,a5,a4⟩
 case round=>
 clear a6 b3 a3 a5 a4;obtain⟨c,r,d3,B,A⟩:=hrel;obtain⟨i,H⟩|⟨i,T,x0,x1,x2,x3,z,a7⟩:=d3
 .by_cases o:c.st=13
  .have E:=tB base gk c f r (.inl o)
   obtain⟨v,a,d,_,_⟩:=H;have X:=hI (G _ wr d.below (fun h=>absurd (by grind) h) (fun _=>⟨v,rfl,by rw[E];exact d.base,by rw[E];exact d.at⟩));have z0:=d.y0;have R:Ce wr (w.heap.size+1) 4 (Iv 13):=by have:Ce wr (w.heap.size+1) 4 (Iv (c.st:Nat)):=aa d.K 4;rwa[o] at this
   have z5:Ce wr (w.heap.size+1) 5 (Iv 0):=(by have:Ce wr (w.heap.size+1) 5 (Iv c.err):=aa d.K 5;rwa[i] at this);clear d E o i r B A G S Q L;go_wp2;go_ret2;exact X
  .obtain⟨m,d1,c3⟩:=Aa base gk c f r (by omega)
   have K:Hid _:=S c wr H B A o i;have b1:Hid (∀J,iD w.heap.size (w.heap.size+2) (w.heap.size+1) w.heap.size (.pointer k) s w (ap hostTell base c) J->∃c,gm hostTell base m c=some f/\iD w.heap.size (w.heap.size+2) (w.heap.size+1) w.heap.size (.pointer k) s w c J/\Inv base 410000 c/\iG c):=fun J P=>⟨_,c3,P,Q c B,L c A⟩;obtain⟨v,a,d,_,_⟩:=H;have R:=d.y4;have z5:Ce wr (w.heap.size+1) 5 (Iv 0):=(by have:Ce wr (w.heap.size+1) 5 (Iv c.err):=aa d.K 5;rwa[i] at this);have d4:(((c.st:Nat):Int) !=13)=true:=(by rw[mY];omega);generalize((c.st:Nat):Int)=d7 at R d4;clear d o i r B A G S Q L c3;go_wp2_with fail;refine mR K fun J b9=>?_;have d0:Hid _:=b1 J b9;clear b9 b1 K;go_wp2;go_roundg m
   case measure=>exact d1
   case rel=>exact d0
 .have E:=tB base gk c f r (.inr i)
  have X:=hI (G _ wr.drew T.drew (fun _=>by rw[E]) (fun h=>absurd (by grind) i));have R:Ce wr (w.heap.size+1) 4 (Iv z):=aa a7 4;have z5:Ce wr (w.heap.size+1) 5 (Iv c.err):=aa a7 5;have e5:(c.err==0)=false:=by rw[aL];exact i
  generalize c.err=ce at*;have o:(z==13)=true\/(z==13)=false:=by cases(z==13)<;>simp
  clear a7 E i r B A G S Q L T;obtain o|o:=o
  .go_wp2
   go_region;go_wp2;go_ret2;exact X
  .go_wp2
   go_region;go_wp2;go_ret2;exact X
theorem dB (P:Program) (x y:Bs) (h:x.length+y.length<=2000000000):∀V:World,(Op.stringOp .add ⟨x.toArray⟩ ⟨y.toArray⟩).run P V=.ok (.string ⟨(x++y).toArray⟩) V:=λV=>by
 rw[bm V _ _ (by grind[al])];exact aB (λz=>Result.ok (Value.string z) V) (aP x y)
def fK (us:Bool) (a:Auth):Bs:=if us then dw a else []
def iE (us:Bool) (u:Adr):Bs:=u.s++58::(if u.t.has then 47::47::(fK us u.t++dT u.t) else [])
theorem tD (x:Bs):((⟨x.toArray⟩:ByteArray).toList.isEmpty)=x.isEmpty:=by simp
theorem Ae (j:Nat) (u:Adr) (pv:Value) (us:Bool) (w:World) (S:UAt w j u pv) (g:u.t.p= -1\/(0<=u.t.p/\u.t.p<=65535)) (M:u.s.length+u.t.e.length+u.t.d.length+u.t.h.length<=100000000):Calls prog 74 #[.pointer (some ⟨j,0,none⟩),.bool us] w fun e w'=>e=.returned (.string ⟨(iE us u).toArray⟩)/\Bl w w':=by
 have c0:w.cell? ⟨j,0,none⟩=some (.string ⟨u.s.toArray⟩):=aa S.U 0;have c1:w.cell? ⟨j,1,none⟩=some (.string ⟨u.t.e.toArray⟩):=aa S.U 1;have c2:w.cell? ⟨j,2,none⟩=some (.string ⟨u.t.d.toArray⟩):=aa S.U 2;have c3:w.cell? ⟨j,3,none⟩=some (.bool u.t.has):=aa S.U 3;have c4:w.cell? ⟨j,4,none⟩=some (.string ⟨u.t.h.toArray⟩):=aa S.U 4;have c5:Ce w j 5 (Iv u.t.p):=aa S.U 5;have P:Hid (∀n,Bl w (w.drewN n)):=fun n=>du rfl rfl rfl rfl;have B:Hid (0<=u.t.p->∀W,CB 128 #[Iv u.t.p] W (Sv (eY u.t.p))):=by
  intro h0 W;have b5:u.t.p<=65535:=by omega
  obtain⟨n,hn⟩:∃n:Nat,u.t.p=(n:Int):=⟨u.t.p.toNat,by omega⟩;have:=sv 4 n W (by omega) (by omega) (by omega);rw[nw 4 n (by omega)] at this;rw[hn];exact this
 have C:0<=u.t.p->(eY u.t.p).length<=5:=by intro h0;obtain⟨n,hn⟩:∃n:Nat,u.t.p=(n:Int):=⟨u.t.p.toNat,by omega⟩;have h1:=kp 10 4 n;rw[nw 4 n (by omega)] at h1;rw[hn];exact h1
 obtain⟨sc,⟨k,c,b4,a,b⟩,way,q,f⟩:=u;simp only at c0 c1 c2 c3 c4 c5 B g M C;clear S;obtain⟨Q,e0⟩:∃t,t=sc++ [58]:=⟨_,rfl⟩;have a0:∀V:World,(Op.stringOp .add (Bv sc) ⟨#[58]⟩).run prog V=.ok (Sv Q) V:=by rw[e0];exact dB _ sc [58] (by simp;omega)
 have l0:Q.length=sc.length+1:=by rw[e0];simp
 cases b4 with
 |false=>
  have HE:Hid (iE us ⟨sc,⟨k,c,false,a,b⟩,way,q,f⟩=Q):=by rw[e0];rfl
  rw[HE.out];clear e0 l0 B C g M HE;go_enter func74,ntmps74;go_wp2;go_ret;exact⟨rfl,ai _ _⟩
 |true=>
  have HE:Hid (iE us ⟨sc,⟨k,c,true,a,b⟩,way,q,f⟩=Q++ [47,47]++fK us ⟨k,c,true,a,b⟩++(if b= -1 then a else a++58::eY b)):=by show _=_;rw[e0];unfold iE;simp only[eV,eU,iL,gn];rfl
  rw[HE.out];clear HE e0;obtain⟨i,e1⟩:∃t,t=Q++ [47,47]:=⟨_,rfl⟩;have a1:∀V:World,(Op.stringOp .add (Bv Q) ⟨#[47,47]⟩).run prog V=.ok (Sv i) V:=by rw[e1];exact dB _ Q [47,47] (by simp;omega)
  have l1:i.length=Q.length+2:=by rw[e1];simp
  rw[<-e1];clear e1;have a9:∀V:World,(Op.stringOp .add ⟨k.toArray⟩ ⟨c.toArray⟩).run Tryz.prog V=.ok (.string ⟨(k++c).toArray⟩) V:=dB _ k c (by omega);have F:((⟨(k++c).toArray⟩:ByteArray).toList.isEmpty)=(k++c).isEmpty:=tD _;have N:((⟨c.toArray⟩:ByteArray).toList.isEmpty)=c.isEmpty:=tD _;obtain⟨ub,b2⟩:∃ub:ByteArray,ub=⟨(k++c).toArray⟩:=⟨_,rfl⟩;rw[<-b2] at a9 F;clear b2;cases us with
  |false=>
   obtain⟨l,m⟩:∃t,t=i++a:=⟨_,rfl⟩;have a6:∀V:World,(Op.stringOp .add (Bv (i)) (Bv a)).run prog V=.ok (Sv l) V:=(by rw[m];exact dB _ i a (by omega));have l6:l.length=(i).length+a.length:=(by rw[m];simp);obtain g|g:=g
   .have p:Hid (i++fK false ⟨k,c,true,a,b⟩++(if b= -1 then a else a++58::eY b)=l):=by
     show _=_;show i++ []++_=_;rw[dl];rw[ae g,m]
    have b0:¬(0:Int)<=b:=(by omega);rw[p.out];clear m B C g M p F N a9;go_enter func74,ntmps74;go_wp2;go_quiet (fail);go_wp2;go_ret;exact⟨rfl,P _⟩
   .have H:Hid _:=B g.1
    have K:=C g.1;obtain⟨v,s⟩:∃d,d=eY b:=⟨_,rfl⟩;rw[<-s] at H K;obtain⟨o,r⟩:∃t,t=l++ [58]:=⟨_,rfl⟩;obtain⟨I,A⟩:∃t,t=o++v:=⟨_,rfl⟩;have a7:∀V:World,(Op.stringOp .add (Bv l) ⟨#[58]⟩).run prog V=.ok (Sv o) V:=(by rw[r];exact dB _ l [58] (by simp;omega));have l7:o.length=l.length+1:=(by rw[r];simp);have a8:∀V:World,(Op.stringOp .add (Bv o) (Bv v)).run prog V=.ok (Sv I) V:=(by rw[A];exact dB _ o v (by omega));have p:Hid (i++fK false ⟨k,c,true,a,b⟩++(if b= -1 then a else a++58::eY b)=I):=(by show _=_;show i++ []++_=_;rw[dl];rw[ab (by omega),A,r,m,s];simp);rw[p.out];clear m r A s B C M p K F N a9;go_enter rc,rd;go_wp2;go_quiet (fail);go_wp2_with fail;refine af (H.out _) ?_;rintro e Z ⟨rfl,L⟩;have T:Hid (Below w.heap.size w Z):=(P.out _).trans L;clear L;go_wp2;go_ret;exact⟨rfl,T.out⟩
  |true=>
   by_cases D:c=[]
   .have b1:(⟨c.toArray⟩:ByteArray).toList.isEmpty=true:=by rw[N,D];rfl
    by_cases R:k=[]
    .have b3:ub.toList.isEmpty=true:=by rw[F,R,D];rfl
     obtain⟨l,m⟩:∃t,t=i++a:=⟨_,rfl⟩;have a6:∀V:World,(Op.stringOp .add ⟨(i).toArray⟩ ⟨a.toArray⟩).run Tryz.prog V=.ok (.string ⟨l.toArray⟩) V:=(by rw[m];exact dB _ i a (by omega));have l6:l.length=(i).length+a.length:=(by rw[m];simp);rcases g with g|g
     .have p:Hid (i++fK true ⟨k,c,true,a,b⟩++(if b= -1 then a else a++58::eY b)=l):=by
       show _=_;rw[show fK true ⟨k,c,true,a,b⟩=[] from by show dw _=_;unfold dw;rw[ab (fun h=>h D),ab (fun h=>h R)],dl];rw[ae g,m]
      have b0:¬(0:Int)<=b:=(by omega);rw[p.out];clear m B C g M p F N D R b1;go_enter rc,rd;go_wp2;go_quiet (fail);go_wp2;go_ret;exact⟨rfl,P.out _⟩
     .have H:Hid _:=B g.1
      have K:=C g.1;obtain⟨v,s⟩:∃d,d=eY b:=⟨_,rfl⟩;rw[<-s] at H K;obtain⟨o,r⟩:∃t,t=l++ [58]:=⟨_,rfl⟩;obtain⟨I,A⟩:∃t,t=o++v:=⟨_,rfl⟩;have a7:∀V:World,(Op.stringOp .add (Bv l) ⟨#[58]⟩).run prog V=.ok (Sv o) V:=(by rw[r];exact dB _ l [58] (by simp;omega));have l7:o.length=l.length+1:=(by rw[r];simp);have a8:∀V:World,(Op.stringOp .add (Bv o) (Bv v)).run prog V=.ok (Sv I) V:=(by rw[A];exact dB _ o v (by omega));have p:Hid (i++fK true ⟨k,c,true,a,b⟩++(if b= -1 then a else a++58::eY b)=I):=(by show _=_;rw[show fK true ⟨k,c,true,a,b⟩=[] from by show dw _=_;unfold dw;rw[ab (fun h=>h D),ab (fun h=>h R)],dl];rw[ab (by omega),A,r,m,s];simp);rw[p.out];clear m r A s B C M p K F N D R b1;go_enter func74,ntmps74;go_wp2;go_quiet (fail);go_wp2_with fail;refine mR (H _) fun Z L=>?_;have T:=hI ((P _).trans L);clear L;go_wp2;go_ret;exact⟨rfl,T⟩
    .have b3:ub.toList.isEmpty=false:=by
      rw[F];cases k with
      |nil=>grind
      |cons x y=>rfl
     obtain⟨E,G⟩:∃t,t=i++k:=⟨_,rfl⟩;have a2:∀V:World,(Op.stringOp .add (Bv i) (Bv k)).run prog V=.ok (Sv E) V:=(by rw[G];exact dB _ i k (by omega));have l2:E.length=i.length+k.length:=(by rw[G];simp);obtain⟨z,J⟩:∃t,t=E++ [64]:=⟨_,rfl⟩;have a5:∀V:World,(Op.stringOp .add (Bv E) ⟨#[64]⟩).run prog V=.ok (Sv z) V:=(by rw[J];exact dB _ E [64] (by simp;omega));have l5:z.length=E.length+1:=(by rw[J];simp);have O:Hid (i++fK true ⟨k,c,true,a,b⟩=z):=by show i++dw _=_;unfold dw;rw[ab (fun h=>h D),ae R,J,G,eU]
     obtain⟨pb,U⟩:∃pb:ByteArray,pb=⟨c.toArray⟩:=⟨_,rfl⟩;rw[<-U] at b1 c2 a9;obtain⟨l,m⟩:∃t,t=z++a:=⟨_,rfl⟩;have a6:∀V:World,(Op.stringOp .add (Bv (z)) (Bv a)).run prog V=.ok (Sv l) V:=(by rw[m];exact dB _ z a (by omega));have l6:l.length=(z).length+a.length:=(by rw[m];simp);obtain g|g:=g
     .have p:Hid (i++fK true ⟨k,c,true,a,b⟩++(if b= -1 then a else a++58::eY b)=l):=by
       show _=_;rw[O.out];rw[ae g,m]
      have b0:¬(0:Int)<=b:=(by omega);rw[p.out];clear m B C g M p F N D R G J U O;go_enter func74,ntmps74;go_wp2;go_quiet (fail);go_wp2;go_ret;exact⟨rfl,P _⟩
     .have H:Hid _:=B g.1
      have K:=C g.1;obtain⟨v,s⟩:∃d,d=eY b:=⟨_,rfl⟩;rw[<-s] at H K;obtain⟨o,r⟩:∃t,t=l++ [58]:=⟨_,rfl⟩;obtain⟨I,A⟩:∃t,t=o++v:=⟨_,rfl⟩;have a7:∀V:World,(Op.stringOp .add ⟨l.toArray⟩ ⟨#[58]⟩).run Tryz.prog V=.ok (.string ⟨o.toArray⟩) V:=(by rw[r];exact dB _ l [58] (by simp;omega));have l7:o.length=l.length+1:=(by rw[r];simp);have a8:∀V:World,(Op.stringOp .add ⟨o.toArray⟩ ⟨v.toArray⟩).run Tryz.prog V=.ok (.string ⟨I.toArray⟩) V:=(by rw[A];exact dB _ o v (by omega));have p:Hid (i++fK true ⟨k,c,true,a,b⟩++(if b= -1 then a else a++58::eY b)=I):=(by show _=_;rw[O.out];rw[ab (by omega),A,r,m,s];simp);have b0:(0:Int)<=b:=g.1;rw[p.out];clear m r A s B C M p K F N D R G J U O;go_enter rc,rd;go_wp2;go_quiet (fail);go_wp2_with fail;refine af (H.out _) ?_;rintro e Z ⟨rfl,L⟩;have T:Hid (Below w.heap.size w Z):=(P.out _).trans L;clear L;go_wp2;go_ret;exact⟨rfl,T.out⟩
   .have b1:(⟨c.toArray⟩:ByteArray).toList.isEmpty=false:=by
     rw[N];cases c with
     |nil=>exact absurd rfl D
     |cons x y=>rfl
    have b3:ub.toList.isEmpty=false:=by
     rw[F];cases k with
     |nil=>
      cases c with
      |nil=>exact absurd rfl D
      |cons x y=>rfl
     |cons x y=>rfl
    obtain⟨E,G⟩:∃t,t=i++k:=⟨_,rfl⟩;have a2:∀V:World,(Op.stringOp .add ⟨i.toArray⟩ ⟨k.toArray⟩).run Tryz.prog V=.ok (.string ⟨E.toArray⟩) V:=(by rw[G];exact dB _ i k (by omega));have l2:E.length=i.length+k.length:=(by rw[G];simp);obtain⟨Y,e3⟩:∃t,t=E++ [58]:=⟨_,rfl⟩;have a3:∀V:World,(Op.stringOp .add ⟨E.toArray⟩ ⟨#[58]⟩).run Tryz.prog V=.ok (.string ⟨Y.toArray⟩) V:=(by rw[e3];exact dB _ E [58] (by simp;omega));have l3:Y.length=E.length+1:=(by rw[e3];simp);obtain⟨X,e4⟩:∃t,t=Y++c:=⟨_,rfl⟩;have a4:∀V:World,(Op.stringOp .add ⟨Y.toArray⟩ ⟨c.toArray⟩).run Tryz.prog V=.ok (.string ⟨X.toArray⟩) V:=(by rw[e4];exact dB _ Y c (by omega));have l4:X.length=Y.length+c.length:=(by rw[e4];simp);obtain⟨z,J⟩:∃t,t=X++ [64]:=⟨_,rfl⟩;have a5:∀V:World,(Op.stringOp .add ⟨X.toArray⟩ ⟨#[64]⟩).run Tryz.prog V=.ok (.string ⟨z.toArray⟩) V:=(by rw[J];exact dB _ X [64] (by simp;omega));have l5:z.length=X.length+1:=(by rw[J];simp);have O:Hid (i++fK true ⟨k,c,true,a,b⟩=z):=by show i++dw _=_;unfold dw;rw[ae D,J,e4,e3,G];simp
    obtain⟨pb,U⟩:∃pb:ByteArray,pb=⟨c.toArray⟩:=⟨_,rfl⟩;rw[<-U] at b1 c2 a9 a4;obtain⟨l,m⟩:∃t,t=z++a:=⟨_,rfl⟩;have a6:∀V:World,(Op.stringOp .add ⟨(z).toArray⟩ ⟨a.toArray⟩).run Tryz.prog V=.ok (.string ⟨l.toArray⟩) V:=(by rw[m];exact dB _ z a (by omega));have l6:l.length=(z).length+a.length:=(by rw[m];simp);rcases g with g|g
    .have p:Hid (i++fK true ⟨k,c,true,a,b⟩++(if b= -1 then a else a++58::eY b)=l):=by
      show _=_;rw[O.out];rw[ae g,m]
     have b0:¬(0:Int)<=b:=(by omega);rw[p.out];clear m B C g M p F N D G e3 e4 J U O;go_enter rc,rd;go_wp2;go_quiet (fail);go_wp2;go_ret;exact⟨rfl,P.out _⟩
    .have H:Hid _:=B.out g.1
     have K:=C g.1;obtain⟨v,s⟩:∃d,d=eY b:=⟨_,rfl⟩;rw[<-s] at H K;obtain⟨o,r⟩:∃t,t=l++ [58]:=⟨_,rfl⟩;obtain⟨I,A⟩:∃t,t=o++v:=⟨_,rfl⟩;have a7:∀V:World,(Op.stringOp .add ⟨l.toArray⟩ ⟨#[58]⟩).run Tryz.prog V=.ok (.string ⟨o.toArray⟩) V:=(by rw[r];exact dB _ l [58] (by simp;omega));have l7:o.length=l.length+1:=(by rw[r];simp);have a8:∀V:World,(Op.stringOp .add ⟨o.toArray⟩ ⟨v.toArray⟩).run Tryz.prog V=.ok (.string ⟨I.toArray⟩) V:=(by rw[A];exact dB _ o v (by omega));have p:Hid (i++fK true ⟨k,c,true,a,b⟩++(if b= -1 then a else a++58::eY b)=I):=(by show _=_;rw[O.out];rw[ab (by omega),A,r,m,s];simp);have b0:(0:Int)<=b:=g.1;rw[p.out];clear m r A s B C M p K F N D G e3 e4 J U O;go_enter rc,rd;go_wp2;go_quiet (fail);go_wp2_with fail;refine af (H.out _) ?_;rintro e Z ⟨rfl,L⟩;have T:Hid (Below w.heap.size w Z):=(P.out _).trans L;clear L;go_wp2;go_ret;exact⟨rfl,T.out⟩
theorem qi {w:World} {g i:Nat} {v:Value} (h:w.cell? ⟨g,i,none⟩=some v):g<w.heap.size:=by grind[World.cell?]
theorem Tryz.UAt.below {w w':World} {j:Nat} {u:Adr} {f:Value} (h:UAt w j u f) (b:Bl w w'):UAt w' j u f:=by
 refine⟨(b.block j (aT.1 h.U).1).trans h.U,λe=>?_,λe=>?_,h.far⟩
 .obtain⟨l,d,c,a⟩:=h.g e
  exact⟨l,d,c,λi x m=>by obtain⟨g,n,k⟩:=a i x m;exact⟨g,n,by rw[b.cell (p:=(Ad g i)) (qi k)];exact k⟩⟩
 .obtain⟨g,d,c,a⟩:=h.text e
  exact⟨g,d,c,by rw[b.cell (p:=(Ad g 0)) (qi a)];exact a⟩
theorem MH (u:Adr):gf u=iE true u++(fT u++(dU u.w++(cv 63 u.q++cv 35 u.f))):=by simp[gf,iE,iQ,fK]
theorem MI (j:Nat) (u:Adr) (F:Value) (w:World) (M:UAt w j u F) (hp:u.t.p= -1\/(0<=u.t.p/\u.t.p<=65535)) (ho:u.w.o=true->u.w.g=[]) (hl:u.s.length+u.t.e.length+u.t.d.length+u.t.h.length<=100000000) (hw:(dU u.w).length<=100000000) (hn:u.w.g.length<=100000000) (hq:(u.q.getD []).length+(u.f.getD []).length<=100000000) (b2:(iE true u).length<=200000000):Calls prog 69 #[.pointer (some ⟨j,0,none⟩)] w fun e w'=>e=.returned (.string ⟨(gf u).toArray⟩)/\Bl w w':=by
 have I:Hid _:=Ae j u F true w M hp hl;have K:=hI fun W A=>Ac j u F W (M.below A) hw hn;have b1:Hid (∀W,Bl w W->UAt W j u F):=fun W A=>M.below A;rw[MH];obtain⟨C,e0⟩:∃t,t=iE true u:=⟨_,rfl⟩;rw[<-e0] at I b2⊢;clear e0 hp hl;obtain⟨q,y⟩:∃t,t=C++fT u:=⟨_,rfl⟩;have l1:q.length<=C.length+2:=by rw[y,cC];unfold fT;split<;>simp
 obtain⟨pt,b3⟩:∃t,t=dU u.w:=⟨_,rfl⟩;rw[<-b3] at K hw;obtain⟨m,e2⟩:∃t,t=q++pt:=⟨_,rfl⟩;have a2:∀V:World,(Op.stringOp .add ⟨q.toArray⟩ ⟨pt.toArray⟩).run prog V=.ok (.string ⟨m.toArray⟩) V:=by rw[e2];exact dB _ q pt (by omega)
 have l2:m.length=q.length+pt.length:=by rw[e2];simp
 have b5:Hid (C++(fT u++(dU u.w++(cv 63 u.q++cv 35 u.f)))=m++(cv 63 u.q++cv 35 u.f)):=by show _=_;rw[e2,y,b3];simp
 rw[b5.out];clear b5 b3 e2;have G:Hid ((q=C/\(u.t.has=true\/(u.t.has=false/\u.w.o=true)\/(u.t.has=false/\u.w.o=false/\u.w.g.length<=1)\/(u.t.has=false/\u.w.o=false/\1<u.w.g.length/\∃x,u.w.g[0]?=some x/\¬x=[])))\/(q=C++ [47,46]/\u.t.has=false/\u.w.o=false/\1<u.w.g.length/\u.w.g[0]?=some [])):=by
  rw[y];unfold fT;by_cases d:u.t.has=false
  .cases i:u.w.o with
   |true=>left;rw[ab (fun h=>by grind),dl];exact⟨rfl,Or.inr (Or.inl ⟨d,rfl⟩)⟩
   |false=>
    by_cases s:1<u.w.g.length
    .cases hs:u.w.g with
     |nil=>grind
     |cons x r=>
      rw[hs] at s;by_cases l:x=[]
      .right
       subst l;rw[ae ⟨d,s,rfl⟩];exact⟨rfl,d,rfl,s,rfl⟩
      .left
       rw[ab (fun h=>l (by grind)),dl];exact⟨rfl,Or.inr (Or.inr (Or.inr ⟨d,rfl,s,x,rfl,l⟩))⟩
    .left
     rw[ab (fun h=>s h.2.1),dl];exact⟨rfl,Or.inr (Or.inr (Or.inl ⟨d,rfl,by omega⟩))⟩
  .left
   rw[ab (fun h=>d h.1),dl];exact⟨rfl,Or.inl (by simpa using d)⟩
 clear y ho;obtain⟨L,a8⟩:∃t,t=u.q.getD []:=⟨_,rfl⟩;obtain⟨ft,a7⟩:∃t,t=u.f.getD []:=⟨_,rfl⟩;rw[<-a8,<-a7] at hq;obtain⟨J,Y⟩:∃t,t=m++ [63]:=⟨_,rfl⟩;obtain⟨U,e4⟩:∃t,t=J++L:=⟨_,rfl⟩;have a3:∀V:World,(Op.stringOp .add ⟨m.toArray⟩ ⟨#[63]⟩).run prog V=.ok (.string ⟨J.toArray⟩) V:=by rw[Y];exact dB _ m [63] (by simp;omega)
 have l3:J.length=m.length+1:=by rw[Y];simp
 have a4:∀V:World,(Op.stringOp .add ⟨J.toArray⟩ ⟨L.toArray⟩).run prog V=.ok (.string ⟨U.toArray⟩) V:=by rw[e4];exact dB _ J L (by omega)
 have l4:U.length=J.length+L.length:=by rw[e4];simp
 obtain⟨z,b0,b9⟩:∃t,t=(if u.q.isSome then U else m)/\t.length<=U.length:=by grind
 obtain⟨X,e5⟩:∃t,t=z++ [35]:=⟨_,rfl⟩;obtain⟨t6,e6⟩:∃t,t=X++ft:=⟨_,rfl⟩;have a5:∀V:World,(Op.stringOp .add ⟨z.toArray⟩ ⟨#[35]⟩).run prog V=.ok (.string ⟨X.toArray⟩) V:=by rw[e5];exact dB _ z [35] (by simp;omega)
 have l5:X.length=z.length+1:=by rw[e5];simp
 have a6:∀V:World,(Op.stringOp .add ⟨X.toArray⟩ ⟨ft.toArray⟩).run prog V=.ok (.string ⟨t6.toArray⟩) V:=by rw[e6];exact dB _ X ft (by omega)
 have b4:Hid (m++(cv 63 u.q++cv 35 u.f)=if u.f.isSome then t6 else z):=by show _=_;rw[e6,e5,b0,e4,Y,a8,a7];cases u.q<;>cases u.f<;>simp[cv]
 rw[b4.out];have S:Hid (∀W,Bl w W->Ce W j 3 (.bool u.t.has)/\Ce W j 6 (.bool u.w.o)/\Ce W j 7 F/\Ce W j 8 (.bool u.q.isSome)/\Ce W j 9 (.string ⟨L.toArray⟩)/\Ce W j 10 (.bool u.f.isSome)/\Ce W j 11 (.string ⟨ft.toArray⟩)):=by intro W A;have h:=(b1 W A).U;rw[a8,a7];exact⟨aa h 3,aa h 6,aa h 7,aa h 8,aa h 9,aa h 10,aa h 11⟩
 have p:Hid (u.w.o=false->∃B H,F=.slice B u.w.g.length H/\∀W,Bl w W->∀x,u.w.g[0]?=some x->∃g,B=some (Ad g 0)/\Ce W g 0 (.string ⟨x.toArray⟩)):=by intro i;obtain⟨B,H,v,_⟩:=M.g i;refine⟨B,H,v,fun W A x l=>?_⟩;obtain⟨c0,c1,a9,h2⟩:=(b1 W A).g i;rw[v] at a9;simp only[ul] at a9;obtain⟨rfl,_,_⟩:=a9;exact h2 0 x l
 have b6:=hI b2;clear b4 Y e4 e5 e6 a8 a7 M b1 hw hn hq b2 l1 l2 l3 l4 l5 b9;have P:(u.q.isSome=true/\z=U)\/(u.q.isSome=false/\z=m):=by rw[b0];cases u.q.isSome<;>simp
 clear b0;generalize u.q.isSome=Q at*;generalize u.f.isSome=T at*;rcases G.out with⟨rfl,d|⟨d,i⟩|⟨d,i,s⟩|⟨d,i,s,x,l,b8⟩⟩|⟨y,d,i,s,l⟩
 .clear G p
  go_enter func69,ntmps69;go_wp2_with fail;refine af I ?_;rintro e f ⟨rfl,c⟩;obtain⟨n,o,D,c8,c9,a0,Z⟩:=S f c;rw[d] at n;have k:=hI c;clear c;go_wp2_with fail;refine af (K f k) ?_;rintro e w2 ⟨rfl,E⟩;obtain rfl:=E.symm;rcases P with⟨rfl,rfl⟩|⟨rfl,rfl⟩;all_goals cases T
  all_goals
   go_wp2;go_ret;exact⟨rfl,k.out⟩
 .clear G p
  go_enter func69,ntmps69;go_wp2_with fail;refine af I ?_;rintro e f ⟨rfl,c⟩;obtain⟨n,o,D,c8,c9,a0,Z⟩:=S f c;rw[d] at n;rw[i] at o;have k:=hI c;clear c;go_wp2_with fail;refine af (K f k) ?_;rintro e w2 ⟨rfl,E⟩;obtain rfl:=E.symm;rcases P with⟨rfl,rfl⟩|⟨rfl,rfl⟩;all_goals cases T
  all_goals
   go_wp2;go_ret;exact⟨rfl,k⟩
 .obtain⟨B,H,v,_⟩:=p i
  clear G p;go_enter func69,ntmps69;go_wp2_with fail;refine af I ?_;rintro e f ⟨rfl,c⟩;obtain⟨n,o,D,c8,c9,a0,Z⟩:=S f c;rw[d] at n;rw[i] at o;rw[v] at D;generalize u.w.g.length=N at*;have k:=hI c;clear c;go_wp2_with fail;refine af (K f k) ?_;rintro e w2 ⟨rfl,E⟩;obtain rfl:=E.symm;rcases P with⟨rfl,rfl⟩|⟨rfl,rfl⟩;all_goals cases T
  all_goals
   go_wp2;go_ret;exact⟨rfl,k⟩
 .obtain⟨B,H,v,O⟩:=p i
  have R:Hid _:=O;have b7:(1:Int)<(u.w.g.length:Int):=by omega
  have c2:((⟨x.toArray⟩:ByteArray).toList.isEmpty)=false:=by
   rw[tD];cases x with
   |nil=>grind
   |cons a b=>rfl
  clear G p O b8;go_enter func69,ntmps69;go_wp2_with fail;refine af I ?_;rintro e f ⟨rfl,c⟩;obtain⟨n,o,D,c8,c9,a0,Z⟩:=S f c;rw[d] at n;rw[i] at o;rw[v] at D;obtain⟨g,rfl,hg⟩:=R f c x l;generalize(⟨x.toArray⟩:ByteArray)=xb at*;clear R l;generalize u.w.g.length=N at*;have k:=hI c;clear c;go_wp2_with fail;refine af (K f k) ?_;rintro e w2 ⟨rfl,E⟩;obtain rfl:=E.symm;rcases P with⟨rfl,rfl⟩|⟨rfl,rfl⟩;all_goals cases T
  all_goals
   go_wp2;go_ret;exact⟨rfl,k⟩
 .obtain⟨B,H,v,O⟩:=p i
  have R:Hid _:=O;have b7:(1:Int)<(u.w.g.length:Int):=by omega
  have a1:∀V:World,(Op.stringOp .add ⟨C.toArray⟩ ⟨#[47,46]⟩).run Tryz.prog V=.ok (.string ⟨q.toArray⟩) V:=by rw[y];exact dB _ C [47,46] (by have:=b6.out;simp;omega)
  clear G p O y b6;go_enter func69,ntmps69;go_wp2_with fail;refine af I ?_;rintro e f ⟨rfl,c⟩;obtain⟨n,o,D,c8,c9,a0,Z⟩:=S f c;rw[d] at n;rw[i] at o;rw[v] at D;obtain⟨g,rfl,hg⟩:=R f c [] l;clear R l;generalize u.w.g.length=N at*;have k:=hI c;clear c;go_wp2_with fail;refine af (K f k) ?_;rintro e f ⟨rfl,rfl⟩;rcases P with⟨rfl,rfl⟩|⟨rfl,rfl⟩;all_goals cases T
  all_goals
   go_wp2;go_ret;exact⟨rfl,k⟩
def da (t:Bs):Except Int Adr:=if 2000<t.length then .error 1 else bL hostTell t none
def uH (o:Except Int Adr) (e:Ending) (w':World):Prop:=
 match o with
 | .error n=>∃cs,e=.returned (.tuple #[.agg cs,.int .i64 n])/\cs.size=13/\cs.all (·.oneCell')=true
 | .ok a=>∃v,e=.returned (.tuple #[.agg (av a v),.int .i64 0])/\bh w' v a.w.g
theorem iM {w:World} {g:Nat} {b:Array Value} {t:TypeId} (h:w.heap[g]?=some (.cells b t (0,0))) (a:Array Value):(w.setRow g a).heap[g]?=some (.cells a t (0,0)):=by grind[World.setRow]
theorem re:ag.all (·.oneCell')=true:=by simp[ag,Value.oneCell']
theorem Cb {l:Bs} {o:Except Int Adr} {e:Ending} {i:World} (h:ns l o e i):∃c v n,e=.returned (.tuple #[.agg c,v])/\c.size=13/\c.all (·.oneCell')=true/\(∀b,Env b->CB 33 #[v] b (.int .i64 n))/\∀d g,i.heap[g]?=some (.cells ag 77 (0,0))->But g i d->uH o (.returned (.tuple #[.agg c,.int .i64 n])) d:=by
 cases o with
 |error n=>obtain⟨x,y,p,m,rfl⟩:=h;exact⟨_,_,n,rfl,rfl,re,λb q=>vV _ n x y p m b q,λd g _ _=>⟨_,rfl,rfl,re⟩⟩
 |ok a=>
  obtain⟨v,rfl,f⟩:=h;have j:(av a v).all (·.oneCell')=true:=by obtain⟨⟨t,s,rfl,_⟩,_⟩:=f;exact iP _ _ rfl
  exact⟨_,_,0,rfl,rfl,j,λb _=>xa b,λd g r k=>⟨v,rfl,gp f k (iO f.2 r (by decide))⟩⟩
theorem na (t:Bs) (w:World) (O:t.length<=maxLen) (H:Env2 w):Calls prog 36 #[.string ⟨t.toArray⟩] w fun e w'=>uH (da t) e w'/\Bl w w':=by
 obtain⟨W,z⟩:=am (w.alloc (.cells ag 77));have C:Bl w W:=by rw[z];exact(ai _ _).alloc .refl _
 have a7:=hI C;have f6:W.heap.size=w.heap.size+1:=by rw[z];simp
 have S:W.heap[w.heap.size]?=some (.cells ag 77 (0,0)):=by rw[z];exact cj w _ _
 by_cases Q:t.length<=2000
 .have U:=hI fun f=>lk _ f (by rw[al];exact Q)
  have M:Hid (da t=bL hostTell t none):=ab (by omega);have HR:=hI (vE t none none W (by omega) rfl (H.below C));have b8:Hid (∀f,Bl W f->Env f):=fun f D=>((H.below C).below D).env;have K:Hid (∀f,Bl W f->f.heap[w.heap.size]?=some (.cells ag 77 (0,0))):=fun f D=>(D.block w.heap.size (by omega)).trans S;clear O H C Q;go_enter func36,ntmps36;go_upto_region 1 with fail;unfold ag at z;rw[<-z];clear z;go_wp2_with fail;refine m0 (U W) ?_;go_wp2_with fail;refine af HR ?_;rintro e b ⟨hr,G⟩;obtain⟨A,v,n,rfl,I,X,a9,a3⟩:=Cb hr;have N:Hid ((b.alloc (.cells ag 77)).heap[b.heap.size]?=some (.cells ag 77 (0,0))):=cj b _ _;have a8:Hid ((prog.info? 77).map (·.size)=some A.size):=hI (by rw[I];exact cD);have Z:Hid (ag.size=A.size):=hI (by rw[I];rfl);have a2:=hI X;have b7:=G.size;obtain⟨V,J⟩:=am ((b.alloc (.cells ag 77)).setRow b.heap.size A);have d:V.heap[b.heap.size]?=some (.cells A 77 (0,0)):=by rw[J];exact iM N A
  have T:Bl b V:=by rw[J];exact aZ ((ai _ _).alloc .refl _) .refl _
  have B:=hI (G.trans (T.mono b7));have a4:=hI T;have e0:=hI a3;have e6:=hI fun f D=>a9 f (b8 f D);have a5:=hI J;have b9:=hI G;obtain⟨g,r,h,o,x,l,q,j,i,p,s,u,y,rfl,o0,o1,o2,o3,o4,o5,o6,o7,o8,o9,a0,a1,a6⟩:=vC A I X;clear hr G a3 a9 J T I X;go_wp2_with(refine aY rfl 77 _ _ rfl b.heap.size _ rfl rfl 77 ag N a8 Z a2 ?_);have R:=a5;unfold ag at R;rw[<-R];clear R;obtain⟨y0,y1,y2,y3,y4,y5,y6,y7,y8,y9,e8,f1,f5⟩:Ce V b.heap.size 0 g/\Ce V b.heap.size 1 r/\Ce V b.heap.size 2 h/\Ce V b.heap.size 3 o/\Ce V b.heap.size 4 x/\Ce V b.heap.size 5 l/\Ce V b.heap.size 6 q/\Ce V b.heap.size 7 j/\Ce V b.heap.size 8 i/\Ce V b.heap.size 9 p/\Ce V b.heap.size 10 s/\Ce V b.heap.size 11 u/\Ce V b.heap.size 12 y:=⟨aa d 0,aa d 1,aa d 2,aa d 3,aa d 4,aa d 5,aa d 6,aa d 7,aa d 8,aa d 9,aa d 10,aa d 11,aa d 12⟩;have q0:∀(W:World) (a:Go.Addr) (m:Mode),(store a g m).run prog W=stored prog W a g m:=fun W a m=>dj prog W a g m o0;have q1:∀(W:World) (a:Go.Addr) (m:Mode),(store a r m).run prog W=stored prog W a r m:=fun W a m=>dj prog W a r m o1;have q2:∀(W:World) (a:Go.Addr) (m:Mode),(store a h m).run prog W=stored prog W a h m:=fun W a m=>dj prog W a h m o2;have q3:∀(W:World) (a:Go.Addr) (m:Mode),(store a o m).run prog W=stored prog W a o m:=fun W a m=>dj prog W a o m o3;have q4:∀(W:World) (a:Go.Addr) (m:Mode),(store a x m).run prog W=stored prog W a x m:=fun W a m=>dj prog W a x m o4;have q5:∀(W:World) (a:Go.Addr) (m:Mode),(store a l m).run prog W=stored prog W a l m:=fun W a m=>dj prog W a l m o5;have q6:∀(W:World) (a:Go.Addr) (m:Mode),(store a q m).run prog W=stored prog W a q m:=fun W a m=>dj prog W a q m o6;have q7:∀(W:World) (a:Go.Addr) (m:Mode),(store a j m).run prog W=stored prog W a j m:=fun W a m=>dj prog W a j m o7;have q8:∀(W:World) (a:Go.Addr) (m:Mode),(store a i m).run prog W=stored prog W a i m:=fun W a m=>dj prog W a i m o8;have q9:∀(W:World) (a:Go.Addr) (m:Mode),(store a p m).run prog W=stored prog W a p m:=fun W a m=>dj prog W a p m o9;have f4:∀(W:World) (a:Go.Addr) (m:Mode),(store a s m).run prog W=stored prog W a s m:=fun W a m=>dj prog W a s m a0;have e9:∀(W:World) (a:Go.Addr) (m:Mode),(store a u m).run prog W=stored prog W a u m:=fun W a m=>dj prog W a u m a1;have f0:∀(W:World) (a:Go.Addr) (m:Mode),(store a y m).run prog W=stored prog W a y m:=fun W a m=>dj prog W a y m a6;have e4:Hid (∀c,Bl V c->Ce c b.heap.size 0 g/\Ce c b.heap.size 1 r/\Ce c b.heap.size 2 h/\Ce c b.heap.size 3 o/\Ce c b.heap.size 4 x/\Ce c b.heap.size 5 l/\Ce c b.heap.size 6 q/\Ce c b.heap.size 7 j/\Ce c b.heap.size 8 i/\Ce c b.heap.size 9 p/\Ce c b.heap.size 10 s/\Ce c b.heap.size 11 u/\Ce c b.heap.size 12 y):=by intro c L;have k:=(L.block b.heap.size (aT.1 d).1).trans d;exact⟨aa k 0,aa k 1,aa k 2,aa k 3,aa k 4,aa k 5,aa k 6,aa k 7,aa k 8,aa k 9,aa k 10,aa k 11,aa k 12⟩
  have b0:Hid (∀c,Bl V c->c.heap[w.heap.size]?=some (.cells ag 77 (0,0))):=fun c L=>K c (B.out.trans (L.mono B.out.size));clear d a5 N a8 Z a2 o0 o1 o2 o3 o4 o5 o6 o7 o8 o9 a0 a1 a6;go_region_with (go_at_call 33;refine af (e6 _ (by first|exact B|exact B.out.trans (du rfl rfl rfl rfl))) ?_;rintro e c ⟨rfl,Y⟩;have E:Hid (Bl V c):=(by first|exact Y|exact(du rfl rfl rfl rfl:Bl V V.drew).trans Y);clear Y;obtain⟨d0,d1,d2,d3,d4,d5,d6,d7,d8,d9,e7,f2,f3⟩:=e4 c E;obtain⟨⟨p0,p1,p2,p3,p4,p5,p6,p7,p8,p9,e3,b5,e5⟩,r0,r1,r2,r3,r4,r5,r6,r7,r8,r9,b6,e2,b1⟩:=nn (b0 c E));all_goals
   go_wp2;have F:=bQ (P:=prog) _ w.heap.size 77 77 #[g,r,h,o,x,l,q,j,i,p,s,u,y] (0,0) _ (lS (b0 c E) g r h o x l q j i p s u y) underlying77 rfl cD;have b4:=a4.out.trans (E.out.mono a4.out.size);have e1:=a7.out.trans ((B.out.trans (E.out.mono B.out.size)).mono (by omega));rw[M.out];refine aO (v:=.tuple #[.agg #[g,r,h,o,x,l,q,j,i,p,s,u,y],Iv n]) ?_ rfl ⟨e0 _ w.heap.size (K b b9) ((((((((((((((But.of_below b4).setCell 0 g).setCell 1 r).setCell 2 h).setCell 3 o).setCell 4 x).setCell 5 l).setCell 6 q).setCell 7 j).setCell 8 i).setCell 9 p).setCell 10 s).setCell 11 u).setCell 12 y),np e1 .refl g r h o x l q j i p s u y⟩;rw[bR rfl];simp[asAddr,Result.andThen,F,Act.put]
 .have U:Hid (∀f,C0 31 #[Sv t] f (.bool true)):=fun f=>mf _ f (by rw[al];omega) (by rw[al];exact O)
  have M:Hid (da t=.error 1):=ae (by omega);have K:=hI S;obtain⟨⟨p0,p1,p2,p3,p4,p5,p6,p7,p8,p9,e3,b5,e5⟩,r0,r1,r2,r3,r4,r5,r6,r7,r8,r9,b6,e2,b1⟩:=nn S;clear O H C Q;go_enter func36,ntmps36;go_upto_region 1 with fail;unfold ag at z;rw[<-z];clear z;go_wp2_with fail;refine m0 (U W) ?_;go_wp2_with fail;have F:=bQ (P:=prog) _ w.heap.size 77 77 ag (0,0) _ (lS K (Sv []) (Sv []) (Sv []) (.bool false) (Sv []) (Iv 0) (.bool false) (Sv []) (.slice none 0 0) (.bool false) (Sv []) (.bool false) (Sv [])) underlying77 rfl cD;rw[M.out];refine aO (v:=.tuple #[.agg ag,Iv 1]) ?_ rfl ⟨⟨_,rfl,rfl,re⟩,np a7 .refl (Sv []) (Sv []) (Sv []) (.bool false) (Sv []) (Iv 0) (.bool false) (Sv []) (.slice none 0 0) (.bool false) (Sv []) (.bool false) (Sv [])⟩;rw[bR rfl];simp only[ag] at F;simp[asAddr,Result.andThen,F,ag]
end Go.Proofs
