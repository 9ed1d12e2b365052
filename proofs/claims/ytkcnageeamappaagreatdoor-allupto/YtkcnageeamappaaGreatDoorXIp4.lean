import Derived.Test.YtkcnageeamappaaGreatDoorXLabels
set_option maxHeartbeats 32000000
set_option maxRecDepth 8000
set_option linter.unusedSimpArgs false
namespace Go.Proofs
open Go.RowKit Go.Moor Go.Proofs.Tryz Go.Moor
theorem FX (b:List ByteArray) (q:Nat) (x:ByteArray) (a:Int) (f:q<b.length- 1) (e:b[q]?=some x):fF a (((b.map (·.data.toList)).dropLast).drop q)=(match cd 255 x.data.toList with|some n=>fF (a*256+n) (((b.map (·.data.toList)).dropLast).drop (q+1))|none=>none):=by
 have g:((b.map (·.data.toList)).dropLast)[q]?=some x.L:=by rw[BN,ae (by simpa using f),fy,e];rfl
 obtain⟨c,d⟩:=dN.1 g;rw[ch c,d];rfl
theorem FY (s:ByteArray) (w:World) (hs:s.size<4294967281) (T:Env w):Calls prog 145 #[.string s] w fun e w'=>eO (dy (cn s.data.toList)) e/\Bl w w':=by
 obtain⟨m,hm⟩:=T.maxLen;have HM:=hI hm;have HV:=hI T;clear hm T;go_enter func145,ntmps145;go_wp2_with fail;refine(xj s m _ hs HM).mono ?_;rintro e h ⟨⟨v,rfl,o,a7,Q,b0,a9,rfl,W,b1⟩,r⟩;have g:=hI (HV.out.below r);have p:=hI Q;have HC:=hI W;have a2:1<=o.length:=by
  have:=pi s.data.toList;rw[<-Q] at this;cases o with
  |nil=>simp at this
  |cons a l=>simp
 have X:Hid (∀x∈o,x.size<=maxLen):=by intro x z;have:=rM s.data.toList x.data.toList (by rw[<-Q];exact jJ.2 ⟨x,z,rfl⟩);simp at this;unfold maxLen;omega
 clear W Q;by_cases y:4<o.length
 .obtain⟨O,N,b2⟩:=g.out.eCount
  go_wp2;go_quiet (fail);go_wp2;go_ret2;refine⟨?_,cr r _⟩;rw[<-p.out];unfold dy;rw[ae (by simpa using y)];exact⟨_,_,rfl⟩
 .obtain⟨L,hL⟩:∃L,o.length=L+1:=⟨o.length- 1,by omega⟩
  have a5:=hI hL;have a8:L<=3:=by omega
  generalize Y:fF 0 ((o.map (·.data.toList)).dropLast)=V;have A:=hI Y;have D:Hid (¬4<(cn s.data.toList).length):=by show¬_;rw[<-p.out];simpa using y
  clear Y y a2;go_wp2_with fail;go_loopw [6,27] (fun t i wr=>∃(q d:Nat) (a:Int),q<=L/\i=Iv q/\t=.int .u64 a/\0<=a/\a<256^q/\fF a (((o.map (·.data.toList)).dropLast).drop q)=V/\wr=h.drewN d) (fun _ i _=>L-(intOf i).toNat)
  case atStart=>exact⟨0,0,0,aR _,rfl,rfl,by omega,by omega,A,rfl⟩
  case round=>
   obtain⟨q,d,a,hq,rfl,rfl,M,R,Z,rfl⟩:=hrel;have S:=hI Z;have a1:=hI R;have K:a<16777216:=oq R (by
    have:q=0\/q=1\/q=2\/q=3:=by omega
    rcases this with rfl|rfl|rfl|rfl<;>decide)
   clear Z R;by_cases a4:q<L
   .obtain⟨x,z⟩:∃x,o[q]?=some x:=⟨o[q]'(by omega),by simp⟩
    have hc:=HC q x z;have u:=X x (ef z);have a0:=hI (FX o q x a (by omega) z);clear z;cases b:cd 255 x.data.toList with
    |none=>have c:=hI b;clear b;go_wp2_with fail;refine(jq x 255 _ u (by omega) (by omega) (g.out.drew d).eGreat (g.out.drew d).eEmpty).mono ?_;rw[c.out];rintro e G ⟨⟨O,N,rfl⟩,B,rfl⟩;go_wp2;go_ret2;refine⟨?_,cr r _⟩;have C:=S;rw[a0.out,c.out] at C;have f:=A;rw[<-C] at f;unfold dy;rw[ab D.out,<-p.out,f];exact⟨_,_,rfl⟩
    |some n=>
     have c:=hI b;have E:=jp 255 (by omega) _ n b;clear b;have F:Hid (bits .or .u64 (a*256) n=a*256+n):=me a n 8 256 rfl (by omega) M K E.1 (by omega);go_wp2_with fail;refine(jq x 255 _ u (by omega) (by omega) (g.out.drew d).eGreat (g.out.drew d).eEmpty).mono ?_;rw[c.out];rintro e G ⟨rfl,B,rfl⟩;go_wp2;go_roundw
     case rel=>
      refine⟨q+1,d+B,a*256+n,by omega,by go_num,by rw[F.out],by omega,?_,?_,rfl⟩
      .have C:=a1.out
       rw[ot];generalize(256:Int)^q=P at C⊢;omega
      .have C:=S
       rwa[a0.out,c.out] at C
     case measure=>simp[intOf];omega
   .have a3:q=L:=by omega
    subst a3;have J:Hid (V=some a):=by show _=_;have C:=S;rw[eW (by rw[lF,gX];omega)] at C;exact C.symm
    clear a4 hq;obtain⟨x,z⟩:∃x,o[q]?=some x:=⟨o[q]'(by omega),by simp⟩;have hc:=HC q x z;have u:=X x (ef z);have H:Hid ((cn s.data.toList).getLastD []=x.data.toList):=by show _=_;rw[<-p.out,PK,ut,qR,show o.length- 1=q by omega,z];rfl
    have I:Hid ((cn s.data.toList).length=q+1):=hI (by rw[<-p.out,gX];exact a5);clear z;have a6:q=0\/q=1\/q=2\/q=3:=(by omega);obtain rfl|rfl|rfl|rfl:=a6
    .have U:IntKind.u64.wrap (IntKind.u64.wrap 4294967296- 1)=4294967295:=by decide
     cases b:cd 4294967295 x.data.toList with
     |none=>
      have c:=hI b;clear b;go_wp2_with fail;have k:Hid (Calls prog 202 #[.string x,.int .u64 4294967295] (h.drewN (d+1)) fun e w'=>(∃t v,e=.returned (.tuple #[.int .u64 0,.iface t v]))/\∃n,w'=(h.drewN (d+1)).drewN n):=(by have:=jq x 4294967295 (h.drewN (d+1)) u (by omega) (by omega) (g.out.drew _).eGreat (g.out.drew _).eEmpty;rwa[c.out] at this);go_region_with (go_at_call 202;refine k.out.mono ?_;rintro e G ⟨⟨O,N,rfl⟩,B,rfl⟩);all_goals
       go_wp2;go_ret2;refine⟨?_,cr r _⟩;have f:=A;rw[J.out] at f;have j:cd (2^(8*(5-(0+1)))- 1) x.data.toList=none:=c;unfold dy;rw[ab D.out,I.out,H.out,<-p.out,f];simp only[j];exact⟨_,_,rfl⟩
     |some n=>
      have c:=hI b;have E:=jp 4294967295 (by omega) _ n b;clear b;have F:Hid (bits .or .u64 (a*4294967296) n=a*4294967296+n):=me a n 32 4294967296 (by decide) (by omega) M K E.1 (by omega);go_wp2_with fail;have k:Hid (CN 202 #[.string x,.int .u64 4294967295] (h.drewN (d+1)) (.tuple #[.int .u64 n,.nilIface])):=(by have:=jq x 4294967295 (h.drewN (d+1)) u (by omega) (by omega) (g.out.drew _).eGreat (g.out.drew _).eEmpty;rwa[c.out] at this);go_region_with (go_at_call 202;refine k.out.mono ?_;rintro e G ⟨rfl,B,rfl⟩);all_goals
       go_wp2;go_ret2;refine⟨?_,cr r _⟩;have f:=A;rw[J.out] at f;have j:cd (2^(8*(5-(0+1)))- 1) x.data.toList=some n:=c;unfold dy;rw[ab D.out,I.out,H.out,<-p.out,f];simp only[j];have y:(2:Int)^(8*(5-(0+1)))=4294967296:=(by decide);rw[y];show eO (some (a*4294967296+n)) (.returned (.tuple #[.int .u64 (bits .or .u64 (a*4294967296) n),.nilIface]));rw[F.out];rfl
    .have U:IntKind.u64.wrap (IntKind.u64.wrap 16777216- 1)=16777215:=by decide
     cases b:cd 16777215 x.data.toList with
     |none=>
      have c:=hI b;clear b;go_wp2_with fail;have k:Hid (Calls prog 202 #[.string x,.int .u64 16777215] (h.drewN (d+1)) fun e w'=>(∃t v,e=.returned (.tuple #[.int .u64 0,.iface t v]))/\∃n,w'=(h.drewN (d+1)).drewN n):=(by have:=jq x 16777215 (h.drewN (d+1)) u (by omega) (by omega) (g.out.drew _).eGreat (g.out.drew _).eEmpty;rwa[c.out] at this);go_region_with (go_at_call 202;refine k.out.mono ?_;rintro e G ⟨⟨O,N,rfl⟩,B,rfl⟩);all_goals
       go_wp2;go_ret2;refine⟨?_,cr r _⟩;have f:=A;rw[J.out] at f;have j:cd (2^(8*(5-(1+1)))- 1) x.data.toList=none:=c;unfold dy;rw[ab D.out,I.out,H.out,<-p.out,f];simp only[j];exact⟨_,_,rfl⟩
     |some n=>
      have c:=hI b;have E:=jp 16777215 (by omega) _ n b;clear b;have F:Hid (bits .or .u64 (a*16777216) n=a*16777216+n):=me a n 24 16777216 (by decide) (by omega) M K E.1 (by omega);go_wp2_with fail;have k:Hid (CN 202 #[.string x,.int .u64 16777215] (h.drewN (d+1)) (.tuple #[.int .u64 n,.nilIface])):=(by have:=jq x 16777215 (h.drewN (d+1)) u (by omega) (by omega) (g.out.drew _).eGreat (g.out.drew _).eEmpty;rwa[c.out] at this);go_region_with (go_at_call 202;refine k.out.mono ?_;rintro e G ⟨rfl,B,rfl⟩);all_goals
       go_wp2;go_ret2;refine⟨?_,cr r _⟩;have f:=A;rw[J.out] at f;have j:cd (2^(8*(5-(1+1)))- 1) x.data.toList=some n:=c;unfold dy;rw[ab D.out,I.out,H.out,<-p.out,f];simp only[j];have y:(2:Int)^(8*(5-(1+1)))=16777216:=(by decide);rw[y];show eO (some (a*16777216+n)) (.returned (.tuple #[.int .u64 (bits .or .u64 (a*16777216) n),.nilIface]));rw[F.out];rfl
    .have U:IntKind.u64.wrap (IntKind.u64.wrap 65536- 1)=65535:=by decide
     cases b:cd 65535 x.data.toList with
     |none=>
      have c:=hI b;clear b;go_wp2_with fail;have k:Hid (Calls prog 202 #[.string x,.int .u64 65535] (h.drewN (d+1)) fun e w'=>(∃t v,e=.returned (.tuple #[.int .u64 0,.iface t v]))/\∃n,w'=(h.drewN (d+1)).drewN n):=(by have:=jq x 65535 (h.drewN (d+1)) u (by omega) (by omega) (g.out.drew _).eGreat (g.out.drew _).eEmpty;rwa[c.out] at this);go_region_with (go_at_call 202;refine k.out.mono ?_;rintro e G ⟨⟨O,N,rfl⟩,B,rfl⟩);all_goals
       go_wp2;go_ret2;refine⟨?_,cr r _⟩;have f:=A;rw[J.out] at f;have j:cd (2^(8*(5-(2+1)))- 1) x.data.toList=none:=c;unfold dy;rw[ab D.out,I.out,H.out,<-p.out,f];simp only[j];exact⟨_,_,rfl⟩
     |some n=>
      have c:=hI b;have E:=jp 65535 (by omega) _ n b;clear b;have F:Hid (bits .or .u64 (a*65536) n=a*65536+n):=me a n 16 65536 (by decide) (by omega) M K E.1 (by omega);go_wp2_with fail;have k:Hid (CN 202 #[.string x,.int .u64 65535] (h.drewN (d+1)) (.tuple #[.int .u64 n,.nilIface])):=(by have:=jq x 65535 (h.drewN (d+1)) u (by omega) (by omega) (g.out.drew _).eGreat (g.out.drew _).eEmpty;rwa[c.out] at this);go_region_with (go_at_call 202;refine k.out.mono ?_;rintro e G ⟨rfl,B,rfl⟩);all_goals
       go_wp2;go_ret2;refine⟨?_,cr r _⟩;have f:=A;rw[J.out] at f;have j:cd (2^(8*(5-(2+1)))- 1) x.data.toList=some n:=c;unfold dy;rw[ab D.out,I.out,H.out,<-p.out,f];simp only[j];have y:(2:Int)^(8*(5-(2+1)))=65536:=(by decide);rw[y];show eO (some (a*65536+n)) (.returned (.tuple #[.int .u64 (bits .or .u64 (a*65536) n),.nilIface]));rw[F.out];rfl
    .have U:IntKind.u64.wrap (IntKind.u64.wrap 256- 1)=255:=by decide
     cases b:cd 255 x.data.toList with
     |none=>
      have c:=hI b;clear b;go_wp2_with fail;have k:Hid (Calls prog 202 #[.string x,.int .u64 255] (h.drewN (d+1)) fun e w'=>(∃t v,e=.returned (.tuple #[.int .u64 0,.iface t v]))/\∃n,w'=(h.drewN (d+1)).drewN n):=(by have:=jq x 255 (h.drewN (d+1)) u (by omega) (by omega) (g.out.drew _).eGreat (g.out.drew _).eEmpty;rwa[c.out] at this);go_region_with (go_at_call 202;refine k.out.mono ?_;rintro e G ⟨⟨O,N,rfl⟩,B,rfl⟩);all_goals
       go_wp2;go_ret2;refine⟨?_,cr r _⟩;have f:=A;rw[J.out] at f;have j:cd (2^(8*(5-(3+1)))- 1) x.data.toList=none:=c;unfold dy;rw[ab D.out,I.out,H.out,<-p.out,f];simp only[j];exact⟨_,_,rfl⟩
     |some n=>
      have c:=hI b;have E:=jp 255 (by omega) _ n b;clear b;have F:Hid (bits .or .u64 (a*256) n=a*256+n):=me a n 8 256 (by decide) (by omega) M K E.1 (by omega);go_wp2_with fail;have k:Hid (CN 202 #[.string x,.int .u64 255] (h.drewN (d+1)) (.tuple #[.int .u64 n,.nilIface])):=(by have:=jq x 255 (h.drewN (d+1)) u (by omega) (by omega) (g.out.drew _).eGreat (g.out.drew _).eEmpty;rwa[c.out] at this);go_region_with (go_at_call 202;refine k.out.mono ?_;rintro e G ⟨rfl,B,rfl⟩);all_goals
       go_wp2;go_ret2;refine⟨?_,cr r _⟩;have f:=A;rw[J.out] at f;have j:cd (2^(8*(5-(3+1)))- 1) x.data.toList=some n:=c;unfold dy;rw[ab D.out,I.out,H.out,<-p.out,f];simp only[j];have y:(2:Int)^(8*(5-(3+1)))=256:=(by decide);rw[y];show eO (some (a*256+n)) (.returned (.tuple #[.int .u64 (bits .or .u64 (a*256) n),.nilIface]));rw[F.out];rfl
end Go.Proofs
