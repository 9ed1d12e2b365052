import Derived.Test.YtkcnageeamappaaGreatDoorXAs2
set_option maxHeartbeats 32000000
set_option maxRecDepth 8000
set_option linter.unusedSimpArgs false
namespace Go.Proofs
open Go.RowKit Go.Moor Go.Proofs.Tryz Go.Moor
theorem xa (w:World):Calls prog 33 #[.nilIface] w fun e w'=>e=.returned (.int .i64 0)/\Bl w w':=by go_enter func33,ntmps33;go_wp2_with(go_at_call 56;refine(ER _ _).mono ?_;rintro e w' ⟨rfl,rfl⟩);go_ret;exact⟨rfl,(ai _ _).alloc .refl _⟩
theorem xc (n:Int) (x y:ByteArray) (t:TypeId) (v:Value) (w:World) (henv:Tryz.Env w):Calls Tryz.prog 33 #[.iface 96 (.agg #[.int .i64 n,.string x,.string y,.iface t v])] w λe w'=>e=.returned (.int .i64 n)/\Below w.heap.size w w':=by
 have HV:Hid (Tryz.Env (w.alloc (.cells #[.int .i64 0,.string ⟨#[]⟩,.string ⟨#[]⟩,.nilIface] 96))):=henv.below ((ai _ _).alloc (aG _) _);have hgz:=henv.size;have HC:Hid (Calls Tryz.prog 56 #[.iface 96 (.agg #[.int .i64 n,.string x,.string y,.iface t v]),.iface 98 (.pointer (some ⟨w.heap.size,0,none⟩))] (w.alloc (.cells #[.int .i64 0,.string ⟨#[]⟩,.string ⟨#[]⟩,.nilIface] 96)) λev w'=>ev=.returned (.bool true)/\w'.cell? ⟨w.heap.size,0,none⟩=some (.int .i64 n)/\Below w.heap.size (w.alloc (.cells #[.int .i64 0,.string ⟨#[]⟩,.string ⟨#[]⟩,.nilIface] 96)) w'):=
  EZ w.heap.size n x y ⟨#[]⟩ ⟨#[]⟩ t v .nilIface 0 _ HV.out.errType (by first|(simp;done)|(simp;omega)) (by simp) (by simp) (by simp) (by simp) (by simp) (by simp) (by simp) (by simp) (by simp)
 clear henv hgz;go_enter Tryz.func33,Tryz.ntmps33;go_wp2_with(go_at_call 56;refine HC.out.mono ?_);rintro e W1 ⟨rfl,hc,hb⟩;go_wp2;go_ret;exact⟨rfl,((ai _ _).alloc (aG _) _).trans hb⟩
theorem FU (s:ByteArray) (w:World) (o:s.size<4294967281) (g:Lib.hasPrefix s.data.toList (⟨#[91]⟩:ByteArray).data.toList=false) (d:Env w):Calls prog 55 #[.string s,.bool true] w fun e w'=>iC (fU (aQ s.data.toList)) e/\Bl w w':=by
 obtain⟨m,h⟩:=d.maxLen;have hz:=d.size;have p:=hI d;have q:=hI h;have j:=hI g;have t:(aQ s.L).length<=s.size:=by have:=mn s.L.length s.L .refl;simpa using this
 clear d h g;go_enter func55,ntmps55;go_wp2_with(go_at_call 82;refine(mg _ _ _ j).mono ?_;rintro e w' ⟨rfl,rfl⟩);refine mR (tS s m _ o q (by omega)) fun r a=>?_;have k:=hI (p.out.below a);have i:=
  hI (KX (Bv (aQ s.L)) r (by grind[al]) k)
 cases c:fU (aQ s.L) with
 |none=>have b:=hI c;clear c;go_wp21;refine i.out.mono ?_;rw[b.out];rintro e n ⟨⟨v,u,rfl⟩,f⟩;go_wp2;go_ret2;rw[b.out];exact⟨⟨_,_,rfl⟩,a.trans (f.mono a.size)⟩
 |some l=>have b:=hI c;clear c;go_wp21;refine i.out.mono ?_;rw[b.out];rintro e n ⟨rfl,f⟩;go_wp2;go_ret2;rw[b.out];exact⟨rfl,a.trans (f.mono a.size)⟩
def pr (s:ByteArray) (o:Option (List UInt8)) (e:Ending):Prop:=
 match o with
 |some l=>e=.returned (.tuple #[.string ⟨l.toArray⟩,.nilIface])
 |none=>∃t v,e=.returned (.tuple #[.string ⟨#[]⟩,.iface 96 (.agg #[.int .i64 4,.string ⟨#[104,111,115,116]⟩,.string s,.iface t v])])
theorem xd (s:ByteArray) (b:Bool) (o:Option (List UInt8)) (w:World) (c:CP 55 #[.string s,.bool b] w (iC o)):Calls prog 32 #[.string s,.bool b] w fun e w'=>pr s o e/\Bl w w':=by
 have f:=hI c;clear c;cases d:o with
 |none=>subst d;go_enter func32,ntmps32;go_wp21;refine f.out.mono ?_;rintro e g ⟨⟨i,h,rfl⟩,a⟩;go_wp2;go_ret2;exact⟨⟨_,_,rfl⟩,a⟩
 |some l=>subst d;go_enter func32,ntmps32;go_wp21;refine mR f.out fun g a=>?_;go_wp2;go_ret2;exact⟨rfl,a⟩
def xe (o:Option (List UInt8)):Ending:=
 match o with
 |some l=>.returned (.tuple #[.string ⟨l.toArray⟩,.int .i64 0])
 |none=>.returned (.tuple #[.string ⟨#[]⟩,.int .i64 4])
theorem lk (s:ByteArray) (w:World) (a:s.size<=2000):Calls prog 31 #[.string s] w fun e w'=>e=.returned (.bool false)/\w'=w:=by go_enter func31,ntmps31;go_wp2;go_ret;refine⟨?_,rfl⟩;simp;omega
theorem mf (s:ByteArray) (w:World) (b:2000<s.size) (a:s.size<=maxLen):Calls prog 31 #[.string s] w fun e w'=>e=.returned (.bool true)/\w'=w:=by unfold maxLen at a;go_enter func31,ntmps31;go_wp2;go_ret;refine⟨?_,rfl⟩;simp;omega
theorem FV (s:ByteArray) (b:Bool) (o:Option (List UInt8)) (w:World) (f:Env w) (d:s.size<=2000) (k:CP 55 #[.string s,.bool b] w (iC o)):Calls prog 18 #[.string s,.bool b] w fun e w'=>e=xe o/\Bl w w':=by
 have h:=hI (xd s b o w k);have n:=hI f;clear f;cases g:o with
 |none=>subst g;go_enter func18,ntmps18;go_wp21;refine m0 (lk s w d) ?_;go_wp21;refine h.out.mono ?_;rintro e q ⟨⟨p,m,rfl⟩,a⟩;have j:=hI (n.out.below a);go_wp21;refine mR (xc 4 _ _ p m _ j) fun i c=>?_;go_wp2;go_ret2;exact⟨rfl,a.trans (c.mono a.size)⟩
 |some l=>subst g;go_enter func18,ntmps18;go_wp21;refine m0 (lk s w d) ?_;go_wp21;refine mR h.out fun q a=>?_;go_wp21;refine mR (xa _) fun i c=>?_;go_wp2;go_ret2;exact⟨rfl,a.trans (c.mono a.size)⟩
theorem FW (s:ByteArray) (a:Bool) (w:World) (b:2000<s.size) (c:s.size<=maxLen):Calls prog 18 #[.string s,.bool a] w fun e w'=>e=.returned (.tuple #[.string ⟨#[]⟩,.int .i64 1])/\w'=w:=by go_enter func18,ntmps18;go_wp21;refine m0 (mf s w b c) ?_;go_wp2;go_ret2;exact⟨rfl,rfl⟩
theorem aP (l m:List UInt8):(⟨l.toArray⟩:ByteArray)++⟨m.toArray⟩=⟨(l++m).toArray⟩:=by rfl
def rE:ByteArray:=⟨#[48,49,50,51,52,53,54,55,56,57,97,98,99,100,101,102]⟩
theorem Fi:∀n:Fin 16,(rE.extract n.val (n.val+1)).data.toList=[dm n.val]:=by decide+kernel
theorem wI (n:Nat) (h:n<16):rE.extract n (n+1)=⟨[dm n].toArray⟩:=by apply AK;exact Fi ⟨n,h⟩
theorem jP (x:Int) (a:0<=x) (b:x<4294967297):IntKind.i64.wrap x=x:=by grind[IntKind.wrap,IntKind.bits]
def qL:List UInt8:=[32,34,35,60,62]
def pL:List UInt8:=[63,94,96,123,125]
def uL:List UInt8:=[47,58,59,61,64,91,92,93,124]
def fL:List UInt8:=[32,34,60,62,96]
def kL:List UInt8:=[36,37,38,43,44]
def so (s:Nat) (c:UInt8):Bool:=
 match s with
 |0=>false
 |1=>fL.contains c
 |2=>qL.contains c
 |3=>qL.contains c||c==39
 |4=>qL.contains c||pL.contains c
 |5=>qL.contains c||pL.contains c||uL.contains c
 |_=>qL.contains c||pL.contains c||uL.contains c||kL.contains c
theorem IR:∀s:Fin 7,∀c:Fin 256,cI s.val c.val=if c.val<32\/126<c.val then true else so s.val c.val.toUInt8:=by decide+kernel
theorem IS (s:Nat) (a:s<7) (c:UInt8):cI s c.toNat=if c.toNat<32\/126<c.toNat then true else so s c:=by
 have h:=IR ⟨s,a⟩ ⟨c.toNat,c.toNat_lt⟩;simp only at h;have e:c.toNat.toUInt8=c:=by simp
 rwa[e] at h
theorem IT (c:UInt8) (s:Nat) (H:s<7) (w:World):Calls prog 63 #[.int .u8 c.toNat,.int .i64 (s:Int)] w fun e w'=>e=.returned (.bool (cI s c.toNat))/\w'=w:=by
 have b:=IS s H c;by_cases I:(c.toNat:Int)<32
 .have g:Hid (cI s c.toNat=true):=hI (by rw[b,ae (by omega)])
  rw[g.out];go_enter func63,ntmps63;go_wp2;go_ret;exact⟨rfl,rfl⟩
 .by_cases z:(126:Int)<(c.toNat:Int)
  .have g:Hid (cI s c.toNat=true):=hI (by rw[b,ae (by omega)])
   rw[g.out];go_enter func63,ntmps63;go_wp2;go_ret;exact⟨rfl,rfl⟩
  .rw[ab (by omega)] at b
   rw[b];have B:Hid (C0 110 #[.string ⟨#[32,34,35,60,62]⟩,.int .u8 c.toNat] w (.bool (qL.contains c))):=kv ⟨#[32,34,35,60,62]⟩ c w (by decide);have C:Hid (C0 110 #[.string ⟨#[63,94,96,123,125]⟩,.int .u8 c.toNat] w (.bool (pL.contains c))):=kv ⟨#[63,94,96,123,125]⟩ c w (by decide);have D:Hid (C0 110 #[.string ⟨#[47,58,59,61,64,91,92,93,124]⟩,.int .u8 c.toNat] w (.bool (uL.contains c))):=kv ⟨#[47,58,59,61,64,91,92,93,124]⟩ c w (by decide);have G:Hid (C0 110 #[.string ⟨#[32,34,60,62,96]⟩,.int .u8 c.toNat] w (.bool (fL.contains c))):=kv ⟨#[32,34,60,62,96]⟩ c w (by decide);have F:Hid (C0 110 #[.string ⟨#[36,37,38,43,44]⟩,.int .u8 c.toNat] w (.bool (kL.contains c))):=kv ⟨#[36,37,38,43,44]⟩ c w (by decide);have J:((c.toNat:Int)==39)=(c==39):=by
    by_cases h:c=39
    .rw[h];rfl
    .have z:¬(c.toNat:Int)=39:=fun e=>h (cU.1 (by grind))
     rw[aL.2 h,aL.2 z]
   unfold so;generalize qL.contains c=q at*;generalize pL.contains c=p at*;generalize uL.contains c=u at*;generalize fL.contains c=f at*;generalize kL.contains c=k at*;generalize(c==39)=t at*;generalize(c.toNat:Int)=n at*;obtain⟨d,v⟩:=am (q||p);simp only[<-v];obtain⟨A,r⟩:=am (d||u);simp only[<-r];have l:=hI v;have i:=hI r;clear v r;go_enter func63,ntmps63;go_wp21;refine mR B.out fun j a=>?_;obtain rfl:=a.symm;go_upto_region 4 with fail;go_cut [6] (fun x o=>x=.bool d/\o=w)
   case first=>
    as_aux_lemma=>
     cases q with
     |true=>go_wp21;go_meet;exact⟨by rw[l.out];rfl,rfl⟩
     |false=>go_wp21;refine mR C.out fun j a=>?_;obtain rfl:=a.symm;go_wp21;go_meet;exact⟨by rw[l.out];rfl,rfl⟩
   case rest=>
   obtain⟨y,m⟩:=hcut;subst y;obtain rfl:=m.symm;go_upto_region 5 with fail;go_cut [7] (fun x o=>x=.bool A/\o=w)
   case first=>
    as_aux_lemma=>
     cases d with
     |true=>go_wp21;go_meet;exact⟨by rw[i.out];rfl,rfl⟩
     |false=>go_wp21;refine mR D.out fun j a=>?_;obtain rfl:=a.symm;go_wp21;go_meet;exact⟨by rw[i.out];rfl,rfl⟩
   case rest=>
   obtain⟨y,m⟩:=hcut;subst y;obtain rfl:=m.symm;have E:s=0\/s=1\/s=2\/s=3\/s=4\/s=5\/s=6:=(by omega);obtain rfl|rfl|rfl|rfl|rfl|rfl|rfl:=E
   .go_wp21
    go_ret;exact⟨rfl,rfl⟩
   .go_wp21
    refine mR G.out fun j a=>?_;obtain rfl:=a.symm;go_wp21;go_ret;exact⟨rfl,rfl⟩
   .go_wp21
    go_ret;exact⟨rfl,rfl⟩
   .clear l
    cases q with
    |true=>go_wp21;go_ret;exact⟨rfl,rfl⟩
    |false=>go_wp21;go_ret;exact⟨rfl,rfl⟩
   .go_wp21
    go_ret;exact⟨rfl,rfl⟩
   .go_wp21
    go_ret;exact⟨rfl,rfl⟩
   .clear i
    cases A with
    |true=>go_wp21;go_ret;exact⟨rfl,rfl⟩
    |false=>go_wp21;refine m0 F.out ?_;go_wp21;go_ret;exact⟨rfl,rfl⟩
theorem pI (w:World) (a b c:Value) (t:TypeId) (i:Nat):(w.alloc (.cells #[a,b,c] t)).cell? ⟨w.heap.size,i,none⟩=(#[a,b,c]:Array Value)[i]?:=ew w #[a,b,c] t i
theorem yd (c:UInt8) (w:World):Calls prog 64 #[.int .u8 c.toNat] w fun e w'=>e=.returned (.string ⟨#[37,bC (c.toNat/16),bC (c.toNat%16)]⟩)/\Bl w w':=by
 have m:=c.toNat_lt;have f:Hid (C0 111 #[.int .u8 ((c.toNat/16:Nat):Int)] w (.int .u8 (bC (c.toNat/16)).toNat)):=xJ _ (by omega) w;have d:Hid (C0 111 #[.int .u8 ((c.toNat%16:Nat):Int)] w (.int .u8 (bC (c.toNat%16)).toNat)):=xJ _ (by omega) w;generalize bC (c.toNat/16)=a at*;generalize bC (c.toNat%16)=b at*;have p:(convert 47 9 (.slice (some (Ad w.heap.size 0)) 3 3)).run prog (w.alloc (.cells #[.int .u8 37,.int .u8 a.toNat,.int .u8 b.toNat] 5))=.ok (.string ⟨#[37,a,b]⟩) (w.alloc (.cells #[.int .u8 37,.int .u8 a.toNat,.int .u8 b.toNat] 5)):=
  oo _ 47 9 5 (Ad w.heap.size 0) 3 [37,a,b] underlying47 underlying5 underlying9 (fun i o=>by
   match i,o with
   |0,_=>exact pI w _ _ _ _ 0
   |1,_=>exact pI w _ _ _ _ 1
   |2,_=>exact pI w _ _ _ _ 2)
 obtain⟨n,h⟩:=am (c.toNat:Nat);rw[<-h] at f d m⊢;have j:((n/16:Nat):Int)=(n:Int)/16:=by omega
 have g:((n%16:Nat):Int)=(n:Int)%16:=by omega
 rw[j] at f;rw[g] at d;clear j g;clear h;go_enter func64,ntmps64;go_wp2_with fail;refine f.out.mono ?_;rintro e l ⟨rfl,k⟩;obtain rfl:=k.symm;go_wp2_with fail;refine d.out.mono ?_;rintro e l ⟨rfl,rfl⟩;go_wp2_with fail;go_ret;exact⟨rfl,(ai _ _).alloc (aG _) _⟩
theorem iz (l:List UInt8) (k:Nat) (h:k<l.length):l.take (k+1)=l.take k++ [l[k]]:=by simp
theorem IU (s:Int) (l:List UInt8) (k:Nat) (h:k<l.length):ah s (l.take (k+1))=ah s (l.take k)++gR s l[k]:=by grind[iz,ah]
theorem IV (s:Int) (l:List UInt8):(ah s l).length<=3*l.length:=by
 induction l with
 |nil=>simp[ah]
 |cons c l a=>grind[gR,ah]
theorem ky (s:ByteArray) (k:Nat) (h:k<s.size):s.extract k (k+1)=⟨#[s[k]]⟩:=by
 apply BV;apply qT;have a:k<s.L.length:=by rw[bT];exact h
 rw[ByteArray.data_extract,Array.toList_extract,PN,show k+1- k=1 by omega,ch a];rfl
theorem hZ (s:ByteArray) (a:Int) (w:World) (U:s.size<=35184372088832):Calls prog 40 #[.string s,.int .i64 a] w fun e w'=>e=.returned (.string ⟨(ah a s.data.toList).toArray⟩)/\Bl w w':=by
 obtain⟨l,t⟩:=am s.data.toList;have S:l.length=s.size:=by rw[t,bT];rfl
 have C:Hid (∀(k:Nat) (h:k<s.size) (p:k<l.length),l[k]=s[k]):=by intro k h p;subst t;simp;rfl
 rw[<-t];have K:Hid (∀(c:UInt8) z,0<=a->a<=6->C0 63 #[.int .u8 c.toNat,Iv a] z (.bool (cI a c.toNat))):=by intro c z y G;obtain⟨n,rfl⟩:∃n:Nat,a=n:=⟨a.toNat,by omega⟩;exact IT c n (by omega) z
 have R:Hid (¬(0<=a/\a<=6)->∀c:UInt8,cI a c.toNat=false):=by
  intro h c;unfold cI;rw[Bool.and_eq_false_iff];left;rw[Bool.and_eq_false_iff];by_cases y:0<=a
  .grind
  .grind
 have B:Hid (∀k,(ah a (l.take k)).length<=3*s.size):=by
  intro k;have Y:=IV a (l.take k);have p:(l.take k).length<=l.length:=by rw[cL];omega
  omega
 clear t;go_enter func40,ntmps40;go_wp2_with fail;go_loopw [5,6] (fun o i wr=>∃k:Nat,k<=s.size/\i=Iv k/\o=.string ⟨(ah a (l.take k)).toArray⟩/\Bl w wr) (fun _ i _=>s.size-(intOf i).toNat)
 case atStart=>exact⟨0,aR _,rfl,rfl,ai _ _⟩
 case round=>
  obtain⟨k,T,rfl,rfl,(g:Hid _)⟩:=hrel;by_cases H:k<s.size
  .have p:k<l.length:=by omega
   have D:=C k H p;have x:Hid (ah a (l.take (k+1))=ah a (l.take k)++gR a s[k]):=(by show _=_;rw[IU a l k p,D]);have J:=B k;have O:(⟨(ah a (l.take k)).toArray⟩:ByteArray).size=(ah a (l.take k)).length:=al _;have A:=K s[k] wr;have m:Hid _:=A;have L:=hI (yd s[k] wr);have v:=hI (ky s k H);have j:=hI fun h=>R h s[k];have q:Hid (cI a s[k].toNat=true->(⟨(ah a (l.take k)).toArray⟩:ByteArray)++⟨#[37,bC (s[k].toNat/16),bC (s[k].toNat%16)]⟩=⟨(ah a (l.take (k+1))).toArray⟩):=(by intro h;rw[x.out];unfold gR;rw[ae h];exact aP _ [37,bC (s[k].toNat/16),bC (s[k].toNat%16)]);have d:Hid (cI a s[k].toNat=false->(⟨(ah a (l.take k)).toArray⟩:ByteArray)++s.extract k (k+1)=⟨(ah a (l.take (k+1))).toArray⟩):=(by intro h;rw[x.out,v.out];unfold gR;rw[ab (by simp[h])];exact aP _ [s[k]]);have P:(s.extract k (k+1)).size=1:=(by rw[v.out];rfl);have Q:(⟨#[37,bC (s[k].toNat/16),bC (s[k].toNat%16)]⟩:ByteArray).size=3:=rfl;generalize(⟨#[37,bC (s[k].toNat/16),bC (s[k].toNat%16)]⟩:ByteArray)=E at*;generalize(⟨(ah a (l.take k)).toArray⟩:ByteArray)=r at*;have g1:∀W:World,(Op.stringOp .add r E).run prog W=.ok (.string (r++E)) W:=fun W=>bm W _ _ (by omega);have V:∀W:World,(Op.stringOp .add r (s.extract k (k+1))).run prog W=.ok (.string (r++s.extract k (k+1))) W:=fun W=>bm W _ _ (by omega);clear D J O A P Q C x B v;have Z:(0:Int)<=(k:Int):=(by omega);have a0:(k:Int)<(s.size:Int):=(by omega);by_cases y:0<=a
   .by_cases G:a<=6
    .have u:Hid _:=m y G
     cases f:cI a s[k].toNat with
     |true=>
      have b:Hid _:=q f;rw[f] at u;clear q d m j f;go_wp2_with fail;refine af u ?_;rintro e X ⟨rfl,M⟩;obtain rfl:=M.symm;go_wp2_with fail;refine L.out.mono ?_;rintro e w2 ⟨rfl,F⟩;have N:=hI (g.out.trans (F.mono g.out.size));clear F;go_wp2;go_roundw
      case rel=>exact⟨k+1,by omega,by go_num,aB Value.string b,N⟩
      case measure=>grind[intOf]
     |false=>
      have b:Hid _:=d f;rw[f] at u;clear q d m j f;go_wp2_with fail;refine af u ?_;rintro e w ⟨rfl,rfl⟩;go_wp2;go_roundw
      case rel=>exact⟨k+1,by omega,by go_num,aB Value.string b,g⟩
      case measure=>grind[intOf]
    .have b:Hid _:=d (j (by omega))
     clear q d m j;go_wp2;go_roundw
     case rel=>exact⟨k+1,by omega,by go_num,aB Value.string b,g⟩
     case measure=>grind[intOf]
   .have b:Hid _:=d (j (by omega))
    clear q d m j;go_wp2;go_roundw
    case rel=>exact⟨k+1,by omega,by go_num,aB Value.string b,g⟩
    case measure=>(simp[intOf];try omega)
  .have I:Hid (l.take k=l):=cg (by omega)
   rw[I.out];go_wp2;go_ret;exact⟨rfl,g⟩
theorem ln (c:UInt8) (h:aw c.toNat<16):cR c=aw c.toNat/\0<=cR c/\cR c<=15:=by have:=gy c.toNat;unfold cR;rw[ae h];omega
theorem pJ (c:UInt8) (h:¬aw c.toNat<16):cR c= -1:=by simp_all[cR,ab]
theorem IW (a b:UInt8) (f:aw a.toNat<16) (c:aw b.toNat<16):((hY a b).toNat:Int)=16*cR a+cR b:=by have g:=ln a f;have d:=ln b c;rw[g.1,d.1];unfold hY;have e:(16*(aw a.toNat).toNat+(aw b.toNat).toNat).toUInt8.toNat=(16*(aw a.toNat).toNat+(aw b.toNat).toNat)%256:=rfl;rw[e];omega
theorem IX (l:List UInt8) (k:Nat) (h:k<l.length):l.drop k=l[k]::l.drop (k+1):=ch h
theorem ye (c a b:UInt8) (r:List UInt8):aQ (c::a::b::r)=if c=37 then(if fX (a::b::r) then hY a b::aQ r else 37::aQ (a::b::r)) else c::aQ (a::b::r):=by rw[aQ]
theorem IY (c a b:UInt8) (r:List UInt8) (f:c=37) (e:aw a.toNat<16) (d:aw b.toNat<16):aQ (c::a::b::r)=hY a b::aQ r:=by simp_all[fX,ye]
theorem IZ (c a b:UInt8) (r:List UInt8) (h:¬(aw a.toNat<16/\aw b.toNat<16)):aQ (c::a::b::r)=c::aQ (a::b::r):=by simp_all[fX,ye,ab]
theorem yf (c:UInt8) (l:List UInt8) (h:c≠37\/l.length<2):aQ (c::l)=c::aQ l:=by
 obtain h|h:=h
 .grind[pD]
 .match l,h with
  | [],_=>rfl
  | [a],_=>rfl
theorem Ja (w:World) (a:Value) (t:TypeId) (i:Nat):(w.alloc (.cells #[a] t)).cell? ⟨w.heap.size,i,none⟩=(#[a]:Array Value)[i]?:=ew w #[a] t i
theorem pK (x:UInt8) (n:Int) (b:(x.toNat:Int)=n) (w:World):(convert 47 9 (.slice (some ⟨w.heap.size,0,none⟩) 1 1)).run prog (w.alloc (.cells #[.int .u8 n] 5))=.ok (.string ⟨#[x]⟩) (w.alloc (.cells #[.int .u8 n] 5)):=
 oo _ 47 9 5 (Ad w.hz 0) 1 [x] underlying47 underlying5 underlying9 (λi a=>by
  match i,a with
  |0,_=>
   refine(Ja w _ _ 0).trans ?_;show some (Value.int .u8 n)=some (Value.int .u8 (x.toNat:Int));rw[b])
theorem sq (s:ByteArray) (w:World) (hs:s.size<=35184372088832):Calls prog 42 #[.string s] w fun e w'=>e=.returned (.string ⟨(aQ s.data.toList).toArray⟩)/\Bl w w':=by
 obtain⟨l,p⟩:=am s.data.toList;have N:l.length=s.size:=by rw[p,bT];rfl
 have y:Hid (∀(k:Nat) (h:k<s.size),l.drop k=s[k]::l.drop (k+1)):=by intro k h;subst p;rw[IX _ k (by rw[bT];exact h)];rfl
 have M:=hI N;rw[<-p];have O:=hI fun c w1=>pF c w1;clear p N;go_enter func42,ntmps42;go_wp2_with fail;go_loopw [3,4] (fun o i wr=>∃(k:Nat) (a:List UInt8),k<=s.size/\i=Iv k/\o=Sv a/\a.length<=k/\a++aQ (l.drop k)=aQ l/\Bl w wr) (fun _ i _=>s.size-(intOf i).toNat)
 case atStart=>exact⟨0,[],aR _,rfl,rfl,by simp,rfl,ai _ _⟩
 case round=>
  obtain⟨k,a,hk,rfl,rfl,b2,P,C⟩:=hrel;have f:=hI C;have v:=hI P;clear C P;by_cases H:k<s.size
  .have G:=hI (y k H)
   have J:=hI (ky s k H);have t:Hid ((Bv a)++s.extract k (k+1)=(Bv (a++ [s[k]]))):=hI (by rw[J.out];exact aP a [s[k]]);have n:Hid (aQ (s[k]::l.drop (k+1))=s[k]::aQ (l.drop (k+1))->(a++ [s[k]])++aQ (l.drop (k+1))=aQ l):=(by intro h;rw[<-v.out,G.out,h];simp);have g:(Bv a).size=a.length:=al _;have r:(s.extract k (k+1)).size=1:=(by rw[J.out];rfl);have g2:∀W:World,(Op.stringOp .add (Bv a) (s.extract k (k+1))).run prog W=.ok (.string ((Bv a)++s.extract k (k+1))) W:=fun W=>bm W _ _ (by omega);have b3:(0:Int)<=(k:Int):=(by omega);have a9:(k:Int)<(s.size:Int):=(by omega);by_cases b:s[k]=37
   .have a2:((s[k].toNat:Int)==37)=true:=by rw[b];rfl
    by_cases S:k+2<s.size
    .have Y:(k:Int)+2<(s.size:Int):=by omega
     have L:=hI (y (k+1) (by omega));have Q:=hI (y (k+2) S);have A:Hid (C0 66 #[.int .u8 s[k+1].toNat] wr (Iv (cR s[k+1]))):=O _ wr;have I:Hid (C0 66 #[.int .u8 s[k+2].toNat] wr (Iv (cR s[k+2]))):=O _ wr;have a7:wrap64 ((k:Int)+1)=(k:Int)+1:=(by unfold wrap64;omega);have b1:wrap64 ((k:Int)+2)=(k:Int)+2:=(by unfold wrap64;omega);by_cases z:aw s[k+1].toNat<16/\aw s[k+2].toNat<16
     .obtain⟨j,q⟩:=z
      have B:=(ln _ j).2;have u:=(ln _ q).2;have K:=IW s[k+1] s[k+2] j q;have V:Hid ((a++ [hY s[k+1] s[k+2]])++aQ (l.drop (k+3))=aQ l):=(by show _=_;rw[<-v.out,G.out,L.out,Q.out,IY _ _ _ _ b j q];simp);have T:=hI (aP a [hY s[k+1] s[k+2]]);generalize hY s[k+1] s[k+2]=x at*;generalize cR s[k+1]=E at*;generalize cR s[k+2]=F at*;have a3:Hid _:=pK x (16*E+F) K wr;have X:Hid (∀W:World,(Op.stringOp .add (Bv a) ⟨#[x]⟩).run prog W=.ok (.string ((Bv a)++⟨#[x]⟩)) W):=fun W=>bm W _ _ (by rw[g];show _+1<=_;omega);have U:=hI B;have a1:=hI u;clear B u;clear g r b j q n t;clear K;go_wp2_with fail;refine mR A.out fun D d=>?_;obtain rfl:=d.symm;go_wp2_with fail;refine I.out.mono ?_;rintro e D ⟨rfl,d⟩;have d:=d.symm;subst d;obtain⟨a4,b0⟩:=U.out;obtain⟨a8,a5⟩:=a1.out;have a6:=a3.out;have g1:=X.out;go_wp2;go_roundw
      case rel=>exact⟨k+3,a++ [x],by omega,by go_num,aB Value.string T.out,by simp;omega,V.out,f.out.alloc f.out.size _⟩
      case measure=>(simp[intOf];try omega)
     .have m:Hid _:=n (by rw[L.out,Q.out];exact IZ _ _ _ _ z)
      have a0:¬0<=cR s[k+1]\/(0<=cR s[k+1]/\¬0<=cR s[k+2]):=by
       by_cases j:aw s[k+1].toNat<16
       .grind[pJ]
       .grind[pJ]
      generalize cR s[k+1]=E at*;generalize cR s[k+2]=F at*;clear g r b z n;rcases a0 with Z|⟨Z,u⟩;all_goals
       go_wp2_with fail;refine mR A.out fun D d=>?_;obtain rfl:=d.symm;go_wp2_with fail;refine m0 I.out ?_;go_wp2;go_roundw
       case rel=>exact⟨k+1,a++ [s[k]],by omega,by go_num,aB Value.string t,by simp;omega,m,f⟩
       case measure=>(simp[intOf];try omega)
    .have Y:¬(k:Int)+2<(s.size:Int):=by omega
     have m:Hid _:=n.out (yf _ _ (Or.inr (by have:=M.out;rw[cm];omega)));clear g r b;go_wp2;go_roundw
     case rel=>exact⟨k+1,a++ [s[k]],by omega,by go_num,aB Value.string t,by simp;omega,m,f⟩
     case measure=>(simp[intOf];try omega)
   .have a2:((s[k].toNat:Int)==37)=false:=by
     rw[aL];intro h;exact b (cU.1 (by show s[k].toNat=37;omega))
    have m:Hid _:=n (yf _ _ (.inl b));clear g r;go_wp2;go_roundw
    case rel=>exact⟨k+1,a++ [s[k]],by omega,by go_num,aB Value.string t,by simp;omega,m,f⟩
    case measure=>(simp[intOf];try omega)
  .have R:Hid (a=aQ l):=by
    show _=_;have h:=v.out;rw[eW (by have:=M.out;omega)] at h;simpa[aQ] using h
   go_wp2;go_ret;rw[<-R.out];exact⟨rfl,f⟩
theorem gt (s:ByteArray) (l:List UInt8) (h:¬s.data.toList=l):(s.toList==l)=false:=by grind[Lib.toList_data]
theorem iv (s:ByteArray) (l:List UInt8) (h:s.data.toList=l):s=⟨l.toArray⟩:=by rw[<-h]
theorem rr (s:ByteArray) (w:World):Calls prog 185 #[.string s] w fun e w'=>e=.returned (.tuple #[.int .i64 (cE s.data.toList).1,.bool (cE s.data.toList).2])/\w'=w:=by
 by_cases g:s.L=oS
 .rw[iv s _ g]
  go_enter func185,ntmps185;go_wp2;go_ret2;exact⟨rfl,rfl⟩
 by_cases a:s.L=oU
 .rw[iv s _ a]
  go_enter func185,ntmps185;go_wp2;go_ret2;exact⟨rfl,rfl⟩
 by_cases f:s.L=oT
 .rw[iv s _ f]
  go_enter func185,ntmps185;go_wp2;go_ret2;exact⟨rfl,rfl⟩
 by_cases b:s.L=oV
 .rw[iv s _ b]
  go_enter func185,ntmps185;go_wp2;go_ret2;exact⟨rfl,rfl⟩
 by_cases d:s.L=oW
 .rw[iv s _ d]
  go_enter func185,ntmps185;go_wp2;go_ret2;exact⟨rfl,rfl⟩
 by_cases c:s.L=sFile
 .rw[iv s _ c]
  go_enter func185,ntmps185;go_wp2;go_ret2;exact⟨rfl,rfl⟩
 have h:Hid (cE s.L=(-1,false)):=by show _=_;unfold cE;rw[ab (by simp[g,a]),ab (by simp[f,b]),ab d,ab c]
 have j:(s.toList==[104,116,116,112])=false:=gt s _ g;have i:(s.toList==[119,115])=false:=gt s _ a;have n:(s.toList==[104,116,116,112,115])=false:=gt s _ f;have l:(s.toList==[119,115,115])=false:=gt s _ b;have k:(s.toList==[102,116,112])=false:=gt s _ d;have m:(s.toList==[102,105,108,101])=false:=gt s _ c;go_enter func185,ntmps185;go_wp2;go_ret2;rw[h.out];exact⟨rfl,rfl⟩
theorem iw (s:ByteArray) (w:World):Calls prog 126 #[.string s] w fun e w'=>e=.returned (.bool (ao s.data.toList))/\w'=w:=by go_enter func126,ntmps126;go_wp21;refine m0 (rr s _) ?_;go_wp2;go_ret;exact⟨rfl,rfl⟩
theorem vL (s:ByteArray) (w:World):Calls prog 104 #[.string s] w fun e w'=>e=.returned (.int .i64 (bE s.data.toList))/\w'=w:=by
 cases h:ao s.L with
 |true=>have a:Hid (bE s.L=3):=hI (by unfold bE;rw[ae h]);go_enter func104,ntmps104;go_wp21;refine(iw s _).mono ?_;rw[h];rintro e w' ⟨rfl,rfl⟩;go_wp2;go_ret;rw[a.out];exact⟨rfl,rfl⟩
 |false=>have a:Hid (bE s.L=2):=hI (by unfold bE;rw[ab (by simp[h])]);go_enter func104,ntmps104;go_wp21;refine(iw s _).mono ?_;rw[h];rintro e w' ⟨rfl,rfl⟩;go_wp2;go_ret;rw[a.out];exact⟨rfl,rfl⟩
def ru:List UInt8:=[65,66,67,68,69,70,71,72,73,74,75,76,77,78,79,80,81,82,83,84,85,86,87,88,89,90,97,98,99,100,101,102,103,104,105,106,107,108,109,110,111,112,113,114,115,116,117,118,119,120,121,122]
theorem DH:∀c:Fin 256,decide (0<=Lib.indexByte ru c.val.toUInt8)=ct c.val.toUInt8:=by decide+kernel
theorem vM (c:UInt8):decide (0<=Lib.indexByte ru c)=ct c:=by have:=DH ⟨c.toNat,c.toNat_lt⟩;simpa using this
theorem vN (s:ByteArray) (w:World):Calls prog 240 #[.string s] w fun e w'=>e=.returned (.bool (li s.data.toList))/\w'=w:=by
 by_cases a:s.size=0
 .have g:s.toList.isEmpty=true:=by
   rw[cG];have:s.data.toList=[]:=uk (by rw[<-iJ];exact a);rw[this];rfl
  have b:Hid (li s.data.toList=false):=by have:s.data.toList=[]:=uk (by rw[<-iJ];exact a);show _=_;rw[this];rfl
  clear a;go_enter func240,ntmps240;go_wp2;go_ret;rw[b.out];exact⟨rfl,rfl⟩
 .have g:s.toList.isEmpty=false:=by
   rw[cG];cases h:s.data.toList with
   |nil=>grind[Lib.size_eq]
   |cons c r=>rfl
  have k:0<s.size:=by omega
  have b:Hid (li s.data.toList=ct s[0]):=by
   show _=_;have e:s.data.toList[0]?=some s[0]:=by rw[bY (by simp_all)];rfl
   cases h:s.data.toList with
   |nil=>grind
   |cons c r=>rw[h] at e;simp at e;rw[<-e];rfl
  clear a;by_cases d:(0:Int)<=Lib.indexByte ru s[0]
  .have f:Hid (ct s[0]=true):=hI (by rw[<-vM,dC d])
   go_enter func240,ntmps240;go_wp2_with(go_at_call 141;refine(tl _ _ _ d).mono ?_;rintro e w' ⟨⟨i,j,rfl⟩,rfl⟩);go_ret;rw[b.out,f.out];exact⟨rfl,rfl⟩
  .have f:Hid (ct s[0]=false):=hI (by rw[<-vM,ee d])
   go_enter func240,ntmps240;go_wp2_with(go_at_call 141;refine(pZ _ _ _ d).mono ?_;rintro e w' ⟨⟨i,j,rfl⟩,rfl⟩);go_ret;rw[b.out,f.out];refine⟨?_,rfl⟩;simp;omega
theorem ko (k:Nat) (w:World) (n:Nat):Below k w (w.drewN n):=⟨rfl,rfl,rfl,.refl,λ_ _=>rfl⟩
theorem nv {k:Nat} {w w':World} (h:Below k w w') (n:Nat):Below k w (w'.drewN n):=h.trans (ko _ _ _)
def lj:List UInt8:=[65,66,67,68,69,70,71,72,73,74,75,76,77,78,79,80,81,82,83,84,85,86,87,88,89,90,97,98,99,100,101,102,103,104,105,106,107,108,109,110,111,112,113,114,115,116,117,118,119,120,121,122,48,49,50,51,52,53,54,55,56,57,43,45,46]
theorem DI:∀c:Fin 256,lj.contains c.val.toUInt8=ex c.val.toUInt8:=by decide+kernel
theorem DJ (c:UInt8):lj.contains c=ex c:=by have:=DI ⟨c.toNat,c.toNat_lt⟩;simpa using this
theorem DK:∀(j:Nat) b,(⟨lj.toArray⟩:ByteArray).data.toList[j]?=some b->b.toNat<128:=by
 intro j b h;have a:∀b∈lj,b.toNat<128:=by decide+kernel
 exact a b (ef h)
theorem DL (s:ByteArray) (w:World) (b:s.size<4294967281):Calls prog 241 #[.string s,.string ⟨lj.toArray⟩] w fun e w'=>(∃r:ByteArray,r.toList.isEmpty=(s.data.toList.all ex)/\e=.returned (.string r))/\Bl w w':=by refine mR (Any.strings_Trim_laid PR (by kernel_rfl) s (Bv lj) w (by omega) (by decide+kernel) DK) fun w' a=>?_;refine⟨⟨_,?_,rfl⟩,a⟩;rw[cG];show(Lib.trimS s.L lj).isEmpty=_;rw[Cy];congr 1;funext c;exact DJ c
theorem DM (s:ByteArray) (w:World) (h:s.size<4294967281):Calls prog 204 #[.string s] w fun e w'=>e=.returned (.bool (cw s.data.toList))/\Bl w w':=by
 have b:=hI (vN s w);have f:=hI (DL s w h);cases a:li s.L with
 |false=>have c:Hid (cw s.L=false):=hI (by unfold cw;rw[a];rfl);rw[a] at b;go_enter func204,ntmps204;go_wp21;refine mR b.out fun w' k=>?_;obtain rfl:=k.symm;go_wp2;go_ret;rw[c.out];exact⟨rfl,ai _ _⟩
 |true=>
  cases d:s.L.all ex with
  |true=>have c:Hid (cw s.L=true):=hI (by unfold cw;rw[a,d];rfl);rw[a] at b;rw[d] at f;go_enter func204,ntmps204;go_wp21;refine m0 b.out ?_;go_wp21;refine f.out.mono ?_;rintro e i ⟨⟨r,j,rfl⟩,g⟩;go_wp2;go_ret;rw[c.out];exact⟨rfl,g⟩
  |false=>have c:Hid (cw s.L=false):=hI (by unfold cw;rw[a,d];rfl);rw[a] at b;rw[d] at f;go_enter func204,ntmps204;go_wp21;refine m0 b.out ?_;go_wp21;refine f.out.mono ?_;rintro e i ⟨⟨r,j,rfl⟩,g⟩;go_wp2;go_ret;rw[c.out];exact⟨rfl,g⟩
theorem nt (s:ByteArray) (c:UInt8) (m:Int) (w:World) (b:s.size<4294967281) (d:Ce w 16 0 (.int .i64 m)):Calls prog 112 #[.string s,.string ⟨#[c]⟩] w λe w'=>e=.returned (.tuple #[.string ⟨(ay c s.data.toList).1.toArray⟩,.string ⟨((ay c s.data.toList).2.getD []).toArray⟩,.bool (ay c s.data.toList).2.isSome])/\∃n,w'=w.drewN n:=by refine mR (strings_Cut s ⟨#[c]⟩ m w b d) ?_;rintro w' ⟨n,rfl⟩;refine⟨?_,n,rfl⟩;have a:=va c s.L;rw[a]
theorem cutB_parts (c:UInt8):∀(l a b:Bs),aN c l=some (a,b)->l=a++c::b
 | [],a,b,h=>by simp[aN] at h
 |x::l,a,b,h=>by
  rw[aN] at h;split at h
  .rename_i f
   cases h
   rw[f];rfl
  .cases d:aN c l with
   |none=>rw[d] at h;simp at h
   |some p=>rw[d] at h;simp at h;obtain⟨g,e⟩:=h;have:=cutB_parts c l p.1 p.2 d;rw[<-g,<-e,this];rfl
theorem cutOpt_len (c:UInt8) (l:Bs):(ay c l).1.length<=l.length/\((ay c l).2.getD []).length<=l.length:=by
 unfold ay;cases h:aN c l with
 |none=>simp
 |some p=>
  have:=cutB_parts c l p.1 p.2 h;have a:l.length=p.1.length+(p.2.length+1):=by rw[this];simp
  simp;omega
theorem DN (l:Bs) (h:cw l=true):∀(j:Nat) (b:UInt8),l[j]?=some b->b.toNat<128:=by
 intro j b a;unfold cw at h;rw[fx] at h;have d:=gI.1 h.2 b (ef a);have e:∀c:Fin 256,ex c.val.toUInt8=true->c.val<128:=by decide+kernel
 have:=e ⟨b.toNat,b.toNat_lt⟩;simp at this;exact this d
theorem vO (s:ByteArray) (w:World) (q:s.size<4294967281) (r:Env w):Calls prog 151 #[.string s] w fun e w'=>e=.returned (.tuple #[.string ⟨(aU s.data.toList).1.toArray⟩,.string ⟨(aU s.data.toList).2.toArray⟩])/\Bl w w':=by
 obtain⟨m,o⟩:=r.maxLen;have a:=hI (nt s 58 m w q o);have i:=cutOpt_len 58 s.L;rw[<-iJ] at i;cases d:aN 58 s.L with
 |none=>
  have b:Hid (aU s.L=([],s.L)):=hI (by unfold aU;rw[d]);have e:ay 58 s.L=(s.L,none):=by unfold ay;rw[d]
  rw[e] at a;go_enter func151,ntmps151;go_wp21;refine mR a.out ?_;rintro j ⟨n,rfl⟩;go_wp2;go_ret2;rw[b.out];exact⟨rfl,ko _ _ _⟩
 |some p=>
  have e:ay 58 s.L=(p.1,some p.2):=by unfold ay;rw[d]
  rw[e] at a i;obtain⟨k,l⟩:=i;obtain⟨c,v⟩:=p;simp only at k l a;have g:=hI fun W=>DM (Bv c) W (by grind[al]);cases f:cw c with
  |false=>have b:Hid (aU s.L=([],s.L)):=hI (by unfold aU;rw[d];simp[f]);rw[f] at g;go_enter func151,ntmps151;go_wp21;refine mR a.out ?_;rintro j ⟨n,rfl⟩;go_wp21;refine mR (g _) fun x h=>?_;go_wp2;go_ret2;rw[b.out];exact⟨rfl,(ko _ _ n).trans h⟩
  |true=>have b:Hid (aU s.L=(Lib.toLowerA c,v)):=hI (by unfold aU;rw[d];simp[f]);have t:=hI fun W=>strings_ToLower_ascii (Bv c) W (by grind[al]) (DN c f);rw[f] at g;go_enter func151,ntmps151;go_wp21;refine mR a.out ?_;rintro j ⟨n,rfl⟩;go_wp21;refine mR (g _) fun x h=>?_;go_wp21;refine mR (t _) fun y u=>?_;go_wp2;go_ret2;rw[b.out];exact⟨rfl,((ko _ _ n).trans h).trans (u.mono h.size)⟩
theorem zf (s:ByteArray) (w:World) (b:s.size<=maxLen) (c:Err 23 w) (l:Err 18 w):Calls prog 229 #[.string s] w fun e w'=>eO (cA s.data.toList) e/\∃n,w'=w.drewN n:=by
 have j:s.L.length=s.size:=by simp
 unfold cA;rw[j];have i:=hI c;obtain⟨p,o,r⟩:=l;have g:=b;unfold maxLen at b;clear c;by_cases h:s.size<1
 .rw[ae (.inl h)]
  go_enter func229,ntmps229;go_wp2;go_quiet (fail);go_wp2;go_ret2;exact⟨⟨_,_,rfl⟩,_,rfl⟩
 .by_cases k:4<s.size
  .rw[ae (.inr k)]
   go_enter func229,ntmps229;go_wp2;go_quiet (fail);go_wp2;go_ret2;exact⟨⟨_,_,rfl⟩,_,rfl⟩
  .rw[ab (by omega)]
   go_enter func229,ntmps229;go_wp21;refine(nE s 16 65535 _ g (by omega) (by omega) (by omega) (by omega) i).mono ?_;rintro e t ⟨a,f,rfl⟩;obtain⟨q,m,rfl,a⟩:=nF a;have d:=hI a;clear a;go_wp2;go_ret2;exact⟨d,f,rfl⟩
theorem KC (s:ByteArray) (w:World) (b:s.toList.isEmpty=true) (a:Err 5 w):Calls prog 294 #[.string s] w fun e w'=>eO none e/\∃n,w'=w.drewN n:=by obtain⟨f,c,d⟩:=a;go_enter func294,ntmps294;go_wp2;go_quiet (fail);go_wp2;go_ret2;exact⟨⟨_,_,rfl⟩,_,rfl⟩
theorem KD (s:ByteArray) (w:World) (a:s.size<=maxLen) (d:s.toList.isEmpty=false) (c:1<s.size) (f:((s[0].toNat:Int)==48)=true) (b:Err 24 w):Calls prog 294 #[.string s] w fun e w'=>eO none e/\∃n,w'=w.drewN n:=by unfold maxLen at a;obtain⟨i,g,h⟩:=b;go_enter func294,ntmps294;go_wp2;go_quiet (fail);go_wp2;go_ret2;exact⟨⟨_,_,rfl⟩,_,rfl⟩
theorem zh (s:ByteArray) (w:World) (c:s.size<=maxLen) (k:s.toList.isEmpty=false) (p:0<s.size) (b:((s[0].toNat:Int)==48)=false\/(((s[0].toNat:Int)==48)=true/\s.size<2)) (d:Err 23 w):Calls prog 294 #[.string s] w fun e w'=>eO (bJ 10 255 0 s.data.toList) e/\∃n,w'=w.drewN n:=by
 have g:=hI d;have f:=c;unfold maxLen at c;clear d;rcases b with b|⟨b,l⟩;all_goals
  go_enter func294,ntmps294;go_wp21;refine(nE s 10 255 _ f (by omega) (by omega) (by omega) (by omega) g).mono ?_;rintro e o ⟨a,i,rfl⟩;obtain⟨m,j,rfl,a⟩:=nF a;have h:=hI a;clear a;go_wp2;go_ret2;exact⟨h,i,rfl⟩
theorem zi (s:ByteArray) (w:World) (d:s.size<=maxLen) (i:Err 23 w) (o:Err 5 w) (m:Err 24 w):Calls prog 294 #[.string s] w λe w'=>eO (dY s.data.toList) e/\∃n,w'=w.drewN n:=by
 have k:s.data.toList.length=s.size:=by simp
 match hl:s.data.toList with
 | []=>exact KC s w (by grind[Lib.toList_data]) o
 |a::l=>
  have c:s.toList.isEmpty=false:=by rw[cG,hl];rfl
  have f:0<s.size:=by rw[<-k,hl];simp
  have h:=xo s a l hl f;unfold dY;rw[ab (by simp)];by_cases b:a=48
  .have g:((s[0].toNat:Int)==48)=true:=by rw[h,b];decide
   by_cases j:1<s.size
   .rw[ae ⟨by simp[b],by grind⟩]
    exact KD s w d c j g m
   .rw[ab (by grind),<-hl]
    exact zh s w d c f (.inr ⟨g,by omega⟩) i
  .rw[ab (by simp[b]),<-hl]
   refine zh s w d c f (.inl ?_) i;rw[h];have:(a.toNat:Int)≠48:=λe=>b (by
    apply cU.1;show a.toNat=48;omega)
   simpa using this
theorem zj (s:ByteArray) (w:World) (d:s.size<=maxLen) (i:Err 23 w) (j:Err 5 w) (f:Err 24 w):Calls prog 265 #[.string s] w fun e w'=>eO (dY s.data.toList) e/\∃n,w'=w.drewN n:=by
 have h:=hI i;have g:=hI j;have k:=hI f;clear i j f;cases a:dY s.L with
 |none=>have b:=hI a;clear a;go_enter func265,ntmps265;go_wp21;refine(zi s _ d h g k).mono ?_;rw[b.out];rintro e l ⟨⟨t,v,rfl⟩,c,rfl⟩;go_wp2;go_ret2;exact⟨⟨_,_,rfl⟩,c,rfl⟩
 |some n=>have b:=hI a;clear a;go_enter func265,ntmps265;go_wp21;refine(zi s _ d h g k).mono ?_;rw[b.out];rintro e l ⟨rfl,c,rfl⟩;go_wp2;go_ret2;exact⟨rfl,c,rfl⟩
theorem KE (k:Int) (b:Bool) (w:World):Calls prog 194 #[.int .i64 k,.bool b] w fun e w'=>e=.returned (.bool (if b then decide (k<8) else k==8))/\w'=w:=by
 cases b
 all_goals
  go_enter func194,ntmps194;go_wp2;go_ret;exact⟨rfl,rfl⟩
theorem KF (s:ByteArray) (w:World) (a:s.toList.isEmpty=true):Calls prog 192 #[.string s] w fun e w'=>e=.returned (.slice none 0 0)/\w'=w:=by go_enter func192,ntmps192;go_wp2;go_ret;exact⟨rfl,rfl⟩
theorem zk:(prog.info? 151).map (λi=>(i.zero,i.size,i.bytes))=some (some (.int .u64 0),1,8):=by kernel_rfl
def kH (B:Nat) (o:Option (List Int)) (e:Ending) (w':World):Prop:=
 match o with
 |some ps=>∃v,e=.returned (.tuple #[v,.nilIface])/\w'.ownsRow B 151 1 v ps.length (ps.map (Value.int .u64))
 |none=>∃t v,e=.returned (.tuple #[.slice none 0 0,.iface t v])
theorem zl (w:World):Calls prog 191 #[.slice none 0 0] w fun e w'=>e=.returned (.tuple #[.slice none 0 0,.nilIface])/\w'=w:=by
 go_enter func191,ntmps191;go_wp2;go_loop [4,11] (fun v i=>v=.slice none 0 0/\i=Iv 0) (fun _ _=>0)
 case atStart=>simp
 case round=>obtain⟨rfl,rfl⟩:=hrel;go_wp2;go_ret2;exact⟨rfl,rfl⟩
theorem tg (b cap:Nat) (xs:List ByteArray) (w:World) (hb:b<w.heap.size) (hcap:xs.length<=cap) (hcap2:cap<=4294967282) (hs:∀x∈xs,x.size<=maxLen) (hcl:∀(j:Nat) x,xs[j]?=some x->Ce w b j (.string x)) (henv:Env w):Calls prog 191 #[.slice (some ⟨b,0,none⟩) xs.length cap] w fun e w'=>kH w.heap.size (cK (xs.map (·.data.toList))) e w'/\Bl w w':=by
 have HC:=hI hcl;have HS:=hI hs;have HV:=hI henv;obtain⟨i0,hi,hz0,hz1,hz2⟩:=fA zk;generalize hgo:cK (xs.map (·.data.toList))=goal;have HG:Hid (eG [] (xs.map (·.data.toList))=goal):=hgo;clear hcl hs henv hgo;go_enter func191,ntmps191;go_wp2;go_loopw [4,11] (fun v i wr=>∃(q:Nat) (ps:List Int),q<=xs.length/\i=Iv q/\ps.length=q/\wr.ownsRow w.heap.size 151 1 v ps.length (ps.map (Value.int .u64))/\eG ps ((xs.map (·.data.toList)).drop q)=goal/\Bl w wr) (fun _ i _=>xs.length-(intOf i).toNat)
 case atStart=>exact⟨0,[],aR _,rfl,rfl,mP _ _ _ _,HG,ai _ _⟩
 case round=>
  obtain⟨q,ps,hq,rfl,hpl,hown,hrest,hbw⟩:=hrel;have HR:=hI hrest;have HB:=hI hbw;have HO:=hI hown;have hwz:=hbw.size;clear hrest hbw hown;by_cases hlt:q<xs.length
  .obtain⟨x,hx⟩:∃x,xs[q]?=some x:=⟨xs[q]'hlt,by simp⟩
   have hc:=(HB.out.cell (by exact hb)).trans (HC q x hx);have hxm:=HS x (ef hx);have HST:Hid (eG ps ((xs.map (·.data.toList)).drop q)=(match cA x.data.toList with|some n=>eG (ps++ [n]) ((xs.map (·.data.toList)).drop (q+1))|none=>none)):=KH xs q x ps hx;have HVr:=hI (HV.out.below HB);clear hx;cases ho:cA x.data.toList with
   |none=>have HN:=hI ho;clear ho;go_wp2_with fail;refine(zf x _ hxm HVr.out.eGreat HVr.out.eLength).mono ?_;rw[HN.out];rintro e w2 ⟨⟨te,ve,rfl⟩,nd2,rfl⟩;go_wp2;go_ret2;refine⟨?_,cr HB _⟩;have h1:=HR;rw[HST.out,HN.out] at h1;rw[<-h1];exact⟨_,_,rfl⟩
   |some n=>
    have HN:=hI ho;clear ho;go_wp2_with fail;refine(zf x _ hxm HVr.out.eGreat HVr.out.eLength).mono ?_;rw[HN.out];rintro e w2 ⟨rfl,nd2,rfl⟩;have hown2:=(show(wr.drewN nd2).ownsRow w.heap.size 151 1 _ ps.length (ps.map (Value.int .u64)) from HO);have HO2:=hown2.alloc (.cells #[.int .u64 n] 151);go_wp2_with(at_builtin;refine BX _ rfl _ _ 225 rfl w.heap.size 151 i0 (.int .u64 0) 1 8 underlying225 hi hz0 hz1 hz2 rfl (by decide) _ _ _ rfl HO2 (Ad wr.heap.size 0) 1 1 [.int .u64 n] rfl rfl ?c1 ?c2 ?c3 ?c4 ?c5 ?_)
    case c1=>
     intro j u hj;match j,hj with
     |0,hj=>simp at hj;subst hj;exact ew (wr.drewN nd2) #[.int .u64 n] 151 0
    case c2=>intro u hu;simp at hu;subst hu;rfl
    case c3=>unfold maxLen;omega
    case c4=>omega
    case c5=>simp;omega
    intro v' w1 hown' hgrow _;have HOW:=hI hown';have HBB:=hI (((cr HB nd2).alloc (by simpa using hwz) _).grown hgrow (by simp;omega) (fun k hk=>(HO2.lt k hk).1));clear hown' hgrow hown2 HO2;go_wp2;go_roundw
    case rel=>
     refine⟨q+1,ps++ [n],by omega,by go_num,by simp[hpl],?_,?_,HBB⟩
     .have:=HOW
      rw[cC,kg,hpl];exact this
     .have h1:=HR
      rwa[HST.out,HN.out] at h1
    case measure=>simp[intOf];omega
  .go_wp2
   go_ret2;refine⟨?_,HB⟩;have h1:=HR;rw[eW (by simp;omega)] at h1;rw[<-h1];exact⟨_,rfl,HO⟩
theorem Kh (s:ByteArray) (w:World) (W:s.size<4294967281) (u:Env w):Calls prog 231 #[.string s] w fun e w'=>eO (cB s.data.toList) e/\Bl w w':=by
 obtain⟨m,G⟩:=u.maxLen;have Z:=hI G;have Y:=hI u;clear G u;generalize E:cB s.data.toList=M;have z:=hI E;clear E;go_enter func231,ntmps231;go_wp2_with fail;refine(pu s 46 m _ W Z).mono ?_;rintro e w0 ⟨b,H,rfl,r⟩;obtain⟨y,k⟩:=am w0;have o:Hid (Bl w y):=by rw[k,r];exact(ai _ w).alloc .refl _
 have X:Hid (∀(j:Nat) x,b[j]?=some x->Ce y w.heap.size j (.string x)):=by rw[k,r];exact rP w b 9
 have I:=hI H;have Q:Hid (∀x∈b,x.size<=maxLen):=by intro x h;have:=hR 46 s.data.toList x.data.toList (by grind);simp at this;unfold maxLen;omega
 rw[<-k];clear k r H;have D:=hI (Y.out.below o);by_cases K:b.length=4
 .have v:Hid (cB s.data.toList=dZ 0 (b.map (·.data.toList))):=by
   show _=_;unfold cB;rw[<-I.out,ae (by simpa using K)]
  have V:=hI (v.out.symm.trans z);go_wp2;go_loopw [5,18] (fun t i wr=>∃(q l:Nat) (a:Int),q<=4/\i=Iv q/\t=.int .u64 a/\0<=a/\a<256^q/\dZ a ((b.map (·.data.toList)).drop q)=M/\wr=y.drewN l) (fun _ i _=>4-(intOf i).toNat)
  case atStart=>exact⟨0,0,0,by omega,rfl,rfl,by omega,by omega,V,rfl⟩
  case round=>
   obtain⟨q,l,a,hq,rfl,rfl,O,A,F,rfl⟩:=hrel;have p:=hI F;have B:=hI A;clear F A;by_cases a0:q<4
   .have N:a<16777216:=oq B (by
     have:q=0\/q=1\/q=2\/q=3:=by omega
     rcases this with rfl|rfl|rfl|rfl<;>decide)
    obtain⟨x,h⟩:∃x,b[q]?=some x:=⟨b[q]'(by omega),by simp⟩;have hc:=X q x h;have C:=Q x (ef h);have J:Hid (dZ a ((b.map (·.data.toList)).drop q)=(match dY x.data.toList with|some n=>dZ (a*256+n) ((b.map (·.data.toList)).drop (q+1))|none=>none)):=KI b q x a h;have d:=hI (D.out.drew l);clear h;cases f:dY x.data.toList with
    |none=>have g:=hI f;clear f;go_wp2_with fail;refine(zj x _ C d.out.eGreat d.out.eEmpty d.out.eNought).mono ?_;rw[g.out];rintro e w2 ⟨⟨T,S,rfl⟩,L,rfl⟩;go_wp2;go_ret2;refine⟨?_,cr o _⟩;have c:=p;rw[J.out,g.out] at c;rw[<-c];exact⟨_,_,rfl⟩
    |some n=>
     have g:=hI f;have R:=zm _ n f;clear f;have U:Hid (bits .or .u64 (a*256) n=a*256+n):=me a n 8 256 rfl (by omega) O N R.1 (by omega);go_wp2_with fail;refine(zj x _ C d.out.eGreat d.out.eEmpty d.out.eNought).mono ?_;rw[g.out];rintro e w2 ⟨rfl,L,rfl⟩;go_wp2;go_roundw
     case rel=>
      refine⟨q+1,l+L,a*256+n,by omega,by go_num,by rw[U.out],by omega,?_,?_,rfl⟩
      .have c:=B.out
       rw[ot];generalize(256:Int)^q=P at c⊢;omega
      .have c:=p
       rwa[J.out,g.out] at c
     case measure=>grind[intOf]
   .go_wp2
    go_ret2;refine⟨?_,cr o _⟩;have c:=p;rw[eW (by simp;omega)] at c;rw[<-c];rfl
 .have v:Hid (cB s.data.toList=none):=by
   show _=_;unfold cB;rw[<-I.out,ab (by simpa using K)]
  have a1:((b.length:Int)==4)=false:=by rw[aL];omega
  obtain⟨T,S,a2⟩:=D.out.eCount;go_wp2;go_quiet (fail);go_wp2;go_ret2;refine⟨?_,cr o _⟩;rw[<-z.out,v.out];exact⟨_,_,rfl⟩
def sY (B:Nat) (w':World) (ls:List (List UInt8)) (v:Value):Prop:=
 (ls=[]/\v=.slice none 0 0)\/∃xs:List ByteArray,xs.map (·.data.toList)=ls/\xs≠[]/\xs.length<=4294967282/\v=.slice (some ⟨B,0,none⟩) xs.length xs.length/\(∀(j:Nat) x,xs[j]?=some x->w'.cell? ⟨B,j,none⟩=some (.string x))/\B<w'.heap.size/\∀x∈xs,x.size<4294967281
theorem yV (s:ByteArray) (m:Int) (w:World) (i:s.size<4294967281) (f:Ce w 16 0 (.int .i64 m)):Calls prog 192 #[.string s] w fun e w'=>(∃v,e=.returned v/\sY w.heap.size w' (ds s.data.toList) v)/\Bl w w':=by
 by_cases a:s.toList.isEmpty=true
 .have p:s.L=[]:=by rw[cG] at a;simpa using a
  refine m0 (KF s w a) ?_;exact⟨⟨_,rfl,.inl ⟨by simp_all[ds],rfl⟩⟩,ai _ _⟩
 .have l:=hI f
  have n:=il.2 a;have j:Hid (s.L≠[]):=by rw[cG] at a;show _≠_;simpa using a
  clear f;go_enter func192,ntmps192;go_wp21;refine(pu s 58 m _ i l).mono ?_;rintro e w0 ⟨c,g,rfl,h⟩;have b:=hI g;have d:=hI h;clear g h;go_wp2;go_ret;have o:c.length<=s.size+1:=by have:=pq 58 s.L;rw[<-b.out] at this;simpa using this
  refine⟨⟨_,rfl,.inr ⟨c,by unfold ds;rw[ab j.out];exact b,?_,by omega,rfl,by rw[d.out];exact rP w c 9,by rw[d.out];simp,?_⟩⟩,by rw[d.out];exact(ai _ w).alloc .refl _⟩
  .intro e
   have:=b;rw[e] at this;exact hO 58 _ this.symm
  .intro x k
   have:=hR 58 s.L x.L (by rw[<-b.out];exact jJ.2 ⟨x,k,rfl⟩);simp at this;omega
theorem jU {w w':World} {base:Nat} {e:TypeId} {c:Nat} {v:Value} {n:Nat} {b:List Value} (h:w.ownsRow base e c v n b) (d:Bl w w'):w'.ownsRow base e c v n b:=by
 refine⟨h.1,?_⟩;rcases h.2 with a|⟨g,k,f,a,i,l,j⟩
 .exact .inl a
 .refine .inr ⟨g,k,f,a,i,?_,j⟩
  rw[d.block g (by
   grind)]
  exact l
theorem Kw {B:Nat} {o:Option (List Int)} {e:Ending} {w:World} (h:kH B o e w):∃a b,e=.returned (.tuple #[a,b])/\kH B o (.returned (.tuple #[a,b])) w:=by
 cases o with
 |some c=>obtain⟨v,rfl,h⟩:=h;exact⟨v,.nilIface,rfl,v,rfl,h⟩
 |none=>obtain⟨t,v,h⟩:=h;exact⟨.slice none 0 0,.iface t v,h,⟨t,v,rfl⟩⟩
theorem Kx (w:World):Calls prog 193 #[.slice none 0 0] w fun e w'=>e=.returned (.tuple #[.slice none 0 0,.nilIface])/\w'=w:=by go_enter func193,ntmps193;go_wp21;refine m0 (zl _) ?_;go_wp2;go_ret2;exact⟨rfl,rfl⟩
theorem Ky (b:Nat) (c:List ByteArray) (x:ByteArray) (w:World) (m:b<w.heap.size) (o:c.length<=4294967282) (A:∀x∈c,x.size<4294967281) (g:∀(j:Nat) x,c[j]?=some x->Ce w b j (.string x)) (r:Env w) (f:c[c.length- 1]?=some x) (p:decide (0<=Lib.indexByte x.data.toList 46)=false):Calls prog 193 #[.slice (some ⟨b,0,none⟩) c.length c.length] w fun e w'=>kH w.heap.size (cK (c.map (·.data.toList))) e w'/\Bl w w':=by
 have z:=g _ x f;have h:=
  hI (tg b c.length c w m .refl o (fun x f=>by grind[maxLen]) g r)
 have u:1<=c.length:=by
  cases c with
  |nil=>simp at f
  |cons a l=>simp
 have q:Hid (C0 230 #[.string x,.string ⟨#[46]⟩] w (.bool false)):=by have:=strings_Contains_one x 46 w;rwa[p] at this
 generalize n:cK (c.map (·.data.toList))=v;rw[n] at h;go_enter func193,ntmps193;go_wp21;refine mR q.out fun s t=>?_;obtain rfl:=t.symm;go_wp21;refine h.out.mono ?_;rintro e s ⟨d,i⟩;obtain⟨B,y,rfl,d⟩:=Kw d;have k:=hI d;clear d;go_wp2;go_ret2;exact⟨k,i⟩
set_option maxRecDepth 100000 in
theorem Kz (b:Nat) (c:List ByteArray) (x:ByteArray) (w:World) (A:b<w.heap.size) (C:c.length<=4294967282) (J:∀x∈c,x.size<4294967281) (y:∀(j:Nat) x,c[j]?=some x->Ce w b j (.string x)) (r:Env w) (i:c[c.length- 1]?=some x) (G:decide (0<=Lib.indexByte x.data.toList 46)=true):Calls prog 193 #[.slice (some ⟨b,0,none⟩) c.length c.length] w fun e w'=>kH w.heap.size (gT (cK ((c.map (·.data.toList)).dropLast)) (cB x.data.toList)) e w'/\Bl w w':=by
 have D:=y _ x i;have Z:=J x (ef i);have HV:=hI r;have Q:1<=c.length:=by
  cases c with
  |nil=>simp at i
  |cons a l=>simp
 have a1:Hid (C0 230 #[.string x,.string ⟨#[46]⟩] w (.bool true)):=by have:=strings_Contains_one x 46 w;rwa[G] at this
 have q:Hid (Calls prog 191 #[.slice (some (Ad b 0)) (c.length- 1) c.length] w fun e w'=>kH w.heap.size (cK ((c.map (·.data.toList)).dropLast)) e w'/\Bl w w'):=by
  have:=tg b c.length c.dropLast w A (by simp) C (fun x i=>by grind[List.dropLast_subset,maxLen]) (by
   grind) r
  rwa[lF,List.map_dropLast] at this
 obtain⟨i0,X,a4,a3,a0⟩:=fA zk;obtain⟨L,m⟩:∃L,c.length=L+1:=⟨c.length- 1,by omega⟩;rw[m,Nat.add_sub_cancel] at q;rw[m,Nat.add_sub_cancel] at D;rw[m];have a6:L+1<=4294967282:=by omega
 have z:Hid (∀h,cK ((c.map (·.data.toList)).dropLast)=some h->h.length<=L):=by intro h hp;have:=nU _ _ _ hp;simp at this;omega
 generalize B:cK ((c.map (·.data.toList)).dropLast)=R;generalize N:cB x.data.toList=bG;have W:=hI N;clear N;rw[B] at q z;clear y r J i G B Q m C;go_enter func193,ntmps193;go_wp2_with fail;refine mR a1.out fun O V=>?_;obtain rfl:=V.symm;go_wp2_with fail;refine q.out.mono ?_;cases R with
 |none=>rintro e O ⟨⟨te,ve,rfl⟩,f⟩;go_wp2;go_ret2;refine⟨?_,f⟩;cases bG<;>exact⟨_,_,rfl⟩
 |some h=>
  rintro e O ⟨⟨v,rfl,M⟩,f⟩;have a5:=z h rfl;have K:=hI f;have HO:=hI M;have a2:=(f.cell (by exact A)).trans D;have a8:=f.size;have U:=hI (HV.out.below f);clear f M;go_wp2_with fail;refine(Kh x _ Z U).mono ?_;have o:=th x.data.toList;rw[W.out] at o⊢;cases bG with
  |none=>rintro e p ⟨⟨te,ve,rfl⟩,d⟩;have t:=hI (K.out.trans (d.mono (by omega)));have a7:=(d.cell (by show b<_;omega)).trans a2;clear d o;go_wp2;go_quiet (fail);go_wp2;go_ret2;exact⟨⟨_,_,rfl⟩,cr t _⟩
  |some n=>
   rintro e p ⟨rfl,d⟩;have H:=o n rfl;have t:=hI (K.out.trans (d.mono (by omega)));have S:=hI (KJ n H.1 H.2);have s:=(jU HO d).alloc (.cells #[.int .u64 (n/65536),.int .u64 (bits .and .u64 n 65535)] 151);have a9:=d.size;clear d o;go_wp2_with(at_builtin;refine BX _ rfl _ _ 225 rfl w.heap.size 151 i0 (.int .u64 0) 1 8 underlying225 X a4 a3 a0 rfl (by decide) _ _ _ rfl s (Ad p.heap.size 0) 2 2 [.int .u64 (n/65536),.int .u64 (bits .and .u64 n 65535)] rfl rfl ?c1 ?c2 ?c3 ?c4 ?c5 ?_)
   case c1=>
    intro j u g;match j,g with
    |0,g=>simp at g;subst g;exact ew p _ 151 0
    |1,g=>simp at g;subst g;exact ew p _ 151 1
   case c2=>intro u E;simp at E;rcases E with rfl|rfl<;>rfl
   case c3=>unfold maxLen;omega
   case c4=>omega
   case c5=>simp;omega
   intro v' w3 F I _;have T:=hI F;have P:=hI ((t.out.alloc (by omega) _).grown I (by simp;omega) (fun k Y=>(s.lt k Y).1));clear F I s;go_wp2;go_ret2;refine⟨⟨_,rfl,?_⟩,P⟩;have:=T;rw[S.out] at this;rw[cC,kg];exact this
theorem KA (B:Nat) (g:List (List UInt8)) (v:Value) (w:World) (k:sY B w g v) (f:Env w):Calls prog 193 #[v] w λe w'=>kH w.heap.size (dh g) e w'/\Bl w w':=by
 obtain⟨rfl,rfl⟩|⟨a,rfl,l,h,rfl,j,i,d⟩:=k
 .refine m0 (Kx w) ?_
  exact⟨⟨_,rfl,mP _ _ _ _⟩,ai _ _⟩
 .have n:=iK.2 l
  obtain⟨x,c⟩:∃x,a[a.length- 1]?=some x:=⟨a[a.length- 1]'(by omega),by simp⟩;have m:(a.map (·.data.toList)).getLast? =some x.L:=by rw[ut,qR,c];rfl
  unfold dh;rw[m];by_cases b:0<=Lib.indexByte x.L 46
  .simp only[b,eV]
   exact Kz B a x w i h d j f c (by simpa using b)
  .simp only[b,fO]
   exact Ky B a x w i h d j f c (by simpa using b)
theorem KB (B:Nat) (b:List (List UInt8)) (v:Value) (w:World) (c:sY B w b v) (d:Env w):Calls prog 191 #[v] w λe w'=>kH w.heap.size (cK b) e w'/\Bl w w':=by
 obtain⟨rfl,rfl⟩|⟨a,rfl,i,f,rfl,h,g,j⟩:=c
 .refine m0 (zl w) ?_
  exact⟨⟨_,rfl,mP _ _ _ _⟩,ai _ _⟩
 .exact tg B a.length a w g .refl f (λx k=>by grind[maxLen]) h d
end Go.Proofs
