import Derived.Test.YtkcnageeamappaaGreatDoorXUndo
set_option maxHeartbeats 32000000
set_option maxRecDepth 8000
set_option linter.unusedSimpArgs false
namespace Go.Proofs
open Go.RowKit Go.Moor Go.Proofs.Tryz Go.Moor
theorem kv (s:ByteArray) (c:UInt8) (w:World) (n:s.size<=35184372088832):Calls prog 110 #[.string s,.int .u8 c.toNat] w fun e w'=>e=.returned (.bool (s.data.toList.contains c))/\w'=w:=by
 go_enter func110,ntmps110;go_wp21;go_loopw [5] (fun i wr=>∃k:Nat,k<=s.size/\i=Iv k/\(∀(j:Nat) (a:j<s.size),j<k->¬s[j]=c)/\wr=w) (fun i _=>s.size-(intOf i).toNat)
 case atStart=>exact⟨0,aR _,rfl,fun j a h=>by omega,rfl⟩
 case round=>
  obtain⟨k,q,rfl,(f:Hid _),rfl⟩:=hrel;by_cases m:k<s.size
  .by_cases b:s[k]=c
   .have d:Hid (s.L.contains c=true):=by
     show _=_;rw[BE,<-b];exact ef (i:=k) (by rw[jK];exact PL m)
    have o:(s[k].toNat:Int)=(c.toNat:Int):=(by rw[b]);go_wp2;go_ret;rw[d.out];exact⟨rfl,rfl⟩
   .have p:((s[k].toNat:Int)==(c.toNat:Int))=false:=by
     rw[aL];intro h;exact b (cU.1 (by omega))
    go_wp2;go_roundw
    case rel=>
     refine⟨k+1,by omega,by go_num,fun j a h=>?_,trivial⟩;by_cases e:j=k
     .grind
     .exact f j a (by omega)
    case measure=>grind[intOf]
  .have d:Hid (s.L.contains c=false):=by
    show _=_;rw[il];intro h;rw[BE,oz] at h;obtain⟨j,a⟩:=h;rw[jK,aT] at a;obtain⟨g,l⟩:=a;exact f j g (by have:j<s.size:=g;omega) l
   go_wp2;go_ret;rw[d.out];exact⟨rfl,rfl⟩
def cR (c:UInt8):Int:=if aw c.toNat<16 then aw c.toNat else -1
theorem pF (c:UInt8) (w:World):Calls prog 66 #[.int .u8 c.toNat] w fun e w'=>e=.returned (.int .i64 (cR c))/\w'=w:=by
 have l:=c.toNat_lt
 have h:Hid (∀n:Int,n=c.toNat->cR c=if 48<=n/\n<=57 then n- 48 else if 97<=n/\n<=102 then n- 97+10 else if 65<=n/\n<=70 then n- 65+10 else -1):=by
  intro n a
  unfold cR aw
  rw[<-a]
  repeat' split
  all_goals omega
 obtain⟨n,a⟩:=am (c.toNat:Int);have f:=h n a;rw[f,<-a];have k:0<=n/\n<=255:=by omega
 obtain⟨p,o⟩:=k;clear f h a l
 by_cases m:48<=n
 .by_cases i:n<=57
  .rw[ae ⟨m,i⟩]
   go_enter func66,ntmps66;go_wp2;go_ret;exact⟨by rfl,rfl⟩
  .rw[ab (by omega)]
   by_cases g:97<=n
   .by_cases j:n<=102
    .rw[ae ⟨g,j⟩]
     go_enter func66,ntmps66;go_wp2;go_ret;exact⟨by rfl,rfl⟩
    .rw[ab (by omega)]
     have b:65<=n:=by omega
     have d:¬n<=70:=(by omega);rw[ab (by omega)];go_enter func66,ntmps66;go_wp2;go_ret;exact⟨by rfl,rfl⟩
   .rw[ab (by omega)]
    by_cases b:65<=n
    .by_cases d:n<=70
     .rw[ae ⟨b,d⟩]
      go_enter func66,ntmps66;go_wp2;go_ret;exact⟨by rfl,rfl⟩
     .rw[ab (by omega)]
      go_enter func66,ntmps66;go_wp2;go_ret;exact⟨by rfl,rfl⟩
    .rw[ab (by omega)]
     go_enter func66,ntmps66;go_wp2;go_ret;exact⟨by rfl,rfl⟩
 .have g:¬97<=n:=by omega
  have b:¬65<=n:=by omega
  rw[ab (by omega),ab (by omega),ab (by omega)];go_enter func66,ntmps66;go_wp2;go_ret;exact⟨by rfl,rfl⟩
def refDigit (c:UInt8):Bool:=decide (48<=c.toNat/\c.toNat<=57)
theorem nI (c:UInt8) (w:World):Calls prog 173 #[.int .u8 c.toNat] w fun e w'=>e=.returned (.bool (refDigit c))/\w'=w:=by
 by_cases d:(48:Int)<=(c.toNat:Int)
 .by_cases b:(c.toNat:Int)<=57
  .have a:Hid (refDigit c=true):=hI (by unfold refDigit;rw[kX];omega)
   rw[a.out];go_enter func173,ntmps173;go_wp2;go_ret;exact⟨rfl,rfl⟩
  .have a:Hid (refDigit c=false):=hI (by unfold refDigit;rw[uv];omega)
   rw[a.out];go_enter func173,ntmps173;go_wp2;go_ret;exact⟨rfl,rfl⟩
 .have a:Hid (refDigit c=false):=hI (by unfold refDigit;rw[uv];omega)
  rw[a.out];go_enter func173,ntmps173;go_wp2;go_ret;exact⟨rfl,rfl⟩
theorem xJ (n:Nat) (h:n<16) (w:World):Calls prog 111 #[.int .u8 (n:Int)] w fun e w'=>e=.returned (.int .u8 (bC n).toNat)/\w'=w:=by
 have c:Hid (((bC n).toNat:Int)=if n<10 then 48+(n:Int) else 55+(n:Int)):=by
  show _=_;have:∀k:Fin 16,((bC k.val).toNat:Int)=if k.val<10 then 48+(k.val:Int) else 55+(k.val:Int):=by decide+kernel
  exact this ⟨n,h⟩
 rw[c.out];by_cases a:n<10
 .rw[ae a]
  have b:(n:Int)<10:=by omega
  go_enter func111,ntmps111;go_wp2;go_ret;exact⟨by rfl,rfl⟩
 .rw[ab a]
  have b:¬(n:Int)<10:=by omega
  go_enter func111,ntmps111;go_wp2;go_ret;exact⟨by first|rfl|go_num,rfl⟩
def Tryz.Err (g:Nat) (w:World):Prop:=∃t v,w.cell? ⟨g,0,none⟩=some (.iface t v)
structure Tryz.Env (w:World):Prop where
 size:29<=w.heap.size
 sets:je w
 maxLen:∃m,w.cell? ⟨16,0,none⟩=some (.int .i64 m)
 eEmpty:Tryz.Err 5 w
 eBracket:Tryz.Err 4 w
 eCount:Tryz.Err 14 w
 eLength:Tryz.Err 18 w
 eNought:Tryz.Err 24 w
 eGreat:Tryz.Err 23 w
 pow10:Lib.TabIs Tryz.prog w "internal/strconv.uint64pow10" .u64 Lib.pow10Tab
 errType:w.cell? ⟨2,0,none⟩=some (.iface 193 (.agg #[.pointer (some ⟨29,65,none⟩)]))
theorem Tryz.Err.below {g:Nat} {w w':World} (h:Err g w) (a:Bl w w') (hz:g<w.heap.size):Err g w':=by obtain⟨t,v,b⟩:=h;exact⟨t,v,by rw[a.cell (p:=(Ad g 0)) hz];exact b⟩
theorem rD:prog.globalNamed "internal/strconv.uint64pow10" =some 20:=by kernel_rfl
theorem Tryz.Env.below {w w':World} (h:Env w) (a:Bl w w'):Env w':=by
 have hz:=h.size;obtain⟨m,b⟩:=h.maxLen;refine⟨bu hz a.size,KY h.sets a (by omega),⟨m,AJ b a (by omega)⟩,h.eEmpty.below a (by omega),h.eBracket.below a (by omega),h.eCount.below a (by omega),h.eLength.below a (by omega),h.eNought.below a (by omega),h.eGreat.below a (by omega),?_,?_⟩
 .have:=h.pow10
  unfold Lib.TabIs at this⊢;rw[<-this];simp only[World.var?,rD,Option.bind_some,a.block 20 (by omega)]
 .rw[a.cell (p:=(Ad 2 0)) (show _<w.hz by grind)];exact h.errType
theorem Tryz.Env.drew {w:World} (h:Env w) (n:Nat):Env (w.drewN n):=h.below (cr (ai _ w) n)
def eO (o:Option Int) (e:Ending):Prop:=
 match o with
 |some n=>e=.returned (.tuple #[.int .u64 n,.nilIface])
 |none=>∃t v,e=.returned (.tuple #[.int .u64 0,.iface t v])
theorem GK (base a n:Int) (s:ByteArray) (k:Nat) (h:k<s.size) (c:aw s[k].toNat<base) (b:n*base+aw s[k].toNat<=a):bJ base a n (s.data.toList.drop k)=bJ base a (n*base+aw s[k].toNat) (s.data.toList.drop (k+1)):=by rw[ch (by simpa using h)];show(if aw s[k].toNat<base then(if n*base+aw s[k].toNat<=a then _ else _) else _)=_;rw[ae c,ae b];rfl
theorem GL (base a n:Int) (s:ByteArray) (k:Nat) (h:k<s.size) (b:¬aw s[k].toNat<base):bJ base a n (s.data.toList.drop k)=none:=by rw[ch (by simpa using h)];show(if aw s[k].toNat<base then(if n*base+aw s[k].toNat<=a then _ else _) else _)=_;rw[ab b]
theorem GM (base a n:Int) (s:ByteArray) (k:Nat) (h:k<s.size) (b:¬n*base+aw s[k].toNat<=a):bJ base a n (s.data.toList.drop k)=none:=by
 rw[ch (by simpa using h)];show(if aw s[k].toNat<base then(if n*base+aw s[k].toNat<=a then _ else _) else _)=_;split
 .rfl
 .rfl
theorem nE (s:ByteArray) (base a:Int) (w:World) (g:s.size<=maxLen) (B:2<=base) (l:base<=16) (o:0<=a) (E:a<=4294967295) (m:Err 23 w):Calls prog 264 #[.string s,.int .u64 base,.int .u64 a] w fun e w'=>eO (bJ base a 0 s.data.toList) e/\∃n,w'=w.drewN n:=by
 unfold maxLen at g;obtain⟨y,A,z⟩:=m;generalize f:bJ base a 0 s.L=j;have h:=hI f;clear f;go_enter func264,ntmps264;go_wp2;go_loop [8,9] (fun n i=>∃(k:Nat) (v:Int),k<=s.size/\i=Iv k/\n=.int .u64 v/\0<=v/\v<=a/\bJ base a v (s.L.drop k)=j) (fun _ i=>s.size-(intOf i).toNat)
 case atStart=>exact⟨0,0,aR _,rfl,rfl,Int.le_refl _,o,h⟩
 case round=>
  obtain⟨k,v,r,rfl,rfl,q,D,(b:Hid _)⟩:=hrel;by_cases c:k<s.size
  .have u:=s[k].toNat_lt
   have t:=gy s[k].toNat;have x:0<=v*base:=ur q (by omega);have C:v*base<=4294967295*16:=Int.mul_le_mul (by omega) l (by omega) (by omega);by_cases p:aw s[k].toNat<base
   .by_cases d:v*base+aw s[k].toNat<=a
    .go_wp2_with(go_at_call 115;refine(mF _ _ (by omega) (by omega)).mono ?_;rintro e w' ⟨rfl,rfl⟩)
     go_round
     case rel=>exact⟨k+1,_,by omega,by go_num,rfl,by omega,d,by rw[<-GK base a v s k c p d];exact b⟩
     case measure=>grind[intOf]
    .go_wp2_with(go_at_call 115;refine(mF _ _ (by omega) (by omega)).mono ?_;rintro e w' ⟨rfl,rfl⟩)
     go_quiet (fail);go_wp2;go_ret2;refine⟨?_,_,rfl⟩;have:=b;rw[GM base a v s k c (by omega)] at this;rw[<-this];exact⟨_,_,rfl⟩
   .go_wp2_with(go_at_call 115;refine(mF _ _ (by omega) (by omega)).mono ?_;rintro e w' ⟨rfl,rfl⟩)
    go_quiet (fail);go_wp2;go_ret2;refine⟨?_,_,rfl⟩;have:=b;rw[GL base a v s k c (by omega)] at this;rw[<-this];exact⟨_,_,rfl⟩
  .go_wp2
   go_ret2;refine⟨?_,0,rfl⟩;have:=b;rw[eW (by simp;omega)] at this;rw[<-this];rfl
theorem py (s:ByteArray) (k:Nat):(s.extract k s.size).data.toList=s.data.toList.drop k:=by simp[cg]
theorem xo (s:ByteArray) (a:UInt8) (l:List UInt8) (b:s.data.toList=a::l) (h:0<s.size):s[0]=a:=by have:s[0]=s.L[0]'(by simpa using h):=rfl;rw[this];simp[b]
theorem rT (s p:ByteArray) (w:World) (h:Lib.hasPrefix s.data.toList p.data.toList=true):Calls prog 82 #[.string s,.string p] w λe w'=>e=.returned (.bool true)/\w'=w:=by rw[<-h];exact strings_HasPrefix s p w
theorem mg (s p:ByteArray) (w:World) (h:Lib.hasPrefix s.data.toList p.data.toList=false):Calls prog 82 #[.string s,.string p] w λe w'=>e=.returned (.bool false)/\w'=w:=by rw[<-h];exact strings_HasPrefix s p w
theorem GN (s:ByteArray) (b:Int) (w:World) (c:s.toList.isEmpty=true) (a:Err 5 w):Calls prog 238 #[.string s,.int .u64 b] w fun e w'=>eO none e/\∃n,w'=w.drewN n:=by obtain⟨d,f,g⟩:=a;go_enter func238,ntmps238;go_wp2;go_quiet (fail);go_wp2;go_ret2;exact⟨⟨_,_,rfl⟩,_,rfl⟩
theorem nF {o:Option Int} {e:Ending} (h:eO o e):∃a b,e=.returned (.tuple #[.int .u64 a,b])/\eO o (.returned (.tuple #[.int .u64 a,b])):=by
 cases o with
 |some n=>exact⟨n,.nilIface,h,rfl⟩
 |none=>obtain⟨t,v,h⟩:=h;exact⟨0,.iface t v,h,⟨t,v,rfl⟩⟩
theorem GO (s:ByteArray) (a:Int) (w:World) (f:s.size<=maxLen) (o:0<=a) (p:a<=4294967295) (u:s.toList.isEmpty=false) (r:2<=s.size) (d:Lib.hasPrefix s.data.toList (⟨#[48,120]⟩:ByteArray).data.toList=true) (g:Err 23 w):Calls prog 238 #[.string s,.int .u64 a] w fun e w'=>eO (bJ 16 a 0 (s.data.toList.drop 2)) e/\∃n,w'=w.drewN n:=by
 have i:=hI g;have l:=hI d;have c:=py s 2;have h:=hI c;have m:(s.extract 2 s.size).size<=maxLen:=by rw[oj];unfold maxLen at f⊢;omega
 unfold maxLen at f;clear g d c;go_enter func238,ntmps238;go_wp2_with(go_at_call 82;refine(rT _ _ _ l).mono ?_;rintro e w' ⟨rfl,rfl⟩);refine(nE (s.extract 2 s.size) 16 a _ m (by omega) (by omega) o p i).mono ?_;rw[h.out];rintro e t ⟨b,j,rfl⟩;obtain⟨v,q,rfl,b⟩:=nF b;have k:=hI b;clear b;go_wp2;go_ret2;exact⟨k,j,rfl⟩
theorem GP (s:ByteArray) (a:Int) (w:World) (f:s.size<=maxLen) (o:0<=a) (p:a<=4294967295) (v:s.toList.isEmpty=false) (t:1<s.size) (d:Lib.hasPrefix s.data.toList (⟨#[48,120]⟩:ByteArray).data.toList=false) (r:((s[0].toNat:Int)==48)=true) (g:Err 23 w):Calls prog 238 #[.string s,.int .u64 a] w fun e w'=>eO (bJ 8 a 0 (s.data.toList.drop 1)) e/\∃n,w'=w.drewN n:=by
 have i:=hI g;have l:=hI d;have c:=py s 1;have h:=hI c;have m:(s.extract 1 s.size).size<=maxLen:=by rw[oj];unfold maxLen at f⊢;omega
 unfold maxLen at f;clear g d c;go_enter func238,ntmps238;go_wp2_with(go_at_call 82;refine(mg _ _ _ l).mono ?_;rintro e w' ⟨rfl,rfl⟩);refine(nE (s.extract 1 s.size) 8 a _ m (by omega) (by omega) o p i).mono ?_;rw[h.out];rintro e u ⟨b,j,rfl⟩;obtain⟨x,q,rfl,b⟩:=nF b;have k:=hI b;clear b;go_wp2;go_ret2;exact⟨k,j,rfl⟩
theorem xp (s:ByteArray) (a:Int) (w:World) (f:s.size<=maxLen) (m:0<=a) (o:a<=4294967295) (t:s.toList.isEmpty=false) (q:0<s.size) (d:Lib.hasPrefix s.data.toList (⟨#[48,120]⟩:ByteArray).data.toList=false) (c:((s[0].toNat:Int)==48)=false\/(((s[0].toNat:Int)==48)=true/\s.size<2)) (g:Err 23 w):Calls prog 238 #[.string s,.int .u64 a] w fun e w'=>eO (bJ 10 a 0 s.data.toList) e/\∃n,w'=w.drewN n:=by
 have h:=hI g;have k:=hI d;have l:=f;unfold maxLen at f;clear g d;rcases c with c|⟨c,u⟩;all_goals
  go_enter func238,ntmps238;go_wp2_with(go_at_call 82;refine(mg _ _ _ k).mono ?_;rintro e w' ⟨rfl,rfl⟩);refine(nE s 10 a _ l (by omega) (by omega) m o h).mono ?_;rintro e r ⟨b,i,rfl⟩;obtain⟨v,p,rfl,b⟩:=nF b;have j:=hI b;clear b;go_wp2;go_ret2;exact⟨j,i,rfl⟩
theorem xq (s:ByteArray) (b:Int) (w:World) (d:s.size<=maxLen) (g:0<=b) (i:b<=4294967295) (h:Err 23 w) (q:Err 5 w):Calls prog 238 #[.string s,.int .u64 b] w λe w'=>eO (cd b s.data.toList) e/\∃n,w'=w.drewN n:=by
 have o:s.data.toList.length=s.size:=by simp
 match hl:s.data.toList with
 | []=>exact GN s b w (by grind[Lib.toList_data]) q
 |a::l=>
  have f:s.toList.isEmpty=false:=by rw[cG,hl];rfl
  have k:0<s.size:=by rw[<-o,hl];simp
  have j:=xo s a l hl k;by_cases m:a=48
  .subst m
   match l,hl with
   | [],hl=>have:=xp s b w d g i f k (by rw[hl];decide) (.inr ⟨by rw[j];decide,by grind⟩) h;rwa[hl] at this
   |c::r,hl=>
    by_cases p:c=120
    .subst p
     have:=GO s b w d g i f (by grind) (by grind[Lib.hasPrefix]) h;rwa[hl] at this
    .have:=GP s b w d g i f (by grind) (by grind[Lib.hasPrefix]) (by rw[j];decide) h
     rw[hl] at this;have e:cd b (48::c::r)=bJ 8 b 0 (c::r):=by
      unfold cd;split
      .grind
      .grind
      .grind
      .grind
     rw[e];exact this
  .have:=xp s b w d g i f k (by grind[Lib.hasPrefix]) (.inl (by
    rw[j];have:(a.toNat:Int)≠48:=λe=>m (by
     apply cU.1;show a.toNat=48;omega)
    simpa using this)) h
   rw[hl] at this;have e:cd b (a::l)=bJ 10 b 0 (a::l):=by
    unfold cd;split
    .grind
    .grind
    .grind
    .rfl
   rw[e];exact this
theorem jq (s:ByteArray) (a:Int) (w:World) (f:s.size<=maxLen) (g:0<=a) (l:a<=4294967295) (j:Err 23 w) (k:Err 5 w):Calls prog 202 #[.string s,.int .u64 a] w fun e w'=>eO (cd a s.data.toList) e/\∃n,w'=w.drewN n:=by
 have i:=hI j;have h:=hI k;clear j k;cases b:cd a s.L with
 |none=>have c:=hI b;clear b;go_enter func202,ntmps202;go_wp21;refine(xq s a _ f g l i h).mono ?_;rw[c.out];rintro e m ⟨⟨t,v,rfl⟩,d,rfl⟩;go_wp2;go_ret2;exact⟨⟨_,_,rfl⟩,d,rfl⟩
 |some n=>have c:=hI b;clear b;go_enter func202,ntmps202;go_wp21;refine(xq s a _ f g l i h).mono ?_;rw[c.out];rintro e m ⟨rfl,d,rfl⟩;go_wp2;go_ret2;exact⟨rfl,d,rfl⟩
theorem pu (s:ByteArray) (c:UInt8) (m:Int) (w:World) (b:s.size<4294967281) (d:Ce w 16 0 (.int .i64 m)):Calls prog 132 #[.string s,.string ⟨#[c]⟩] w λe w'=>∃a:List ByteArray,a.map (·.data.toList)=ar c s.data.toList/\e=.returned (.slice (some ⟨w.heap.size,0,none⟩) a.length a.length)/\w'=w.alloc (.cells (a.map Value.string).toArray 9):=by
 refine(Tryz.strings_Split s ⟨#[c]⟩ m w b d (by show 1<=1;omega)).mono ?_;rintro e w' ⟨rfl,rfl⟩;refine⟨Lib.splitB ⟨#[c]⟩ 0 (Lib.countB s ⟨#[c]⟩) s,?_,?_,rfl⟩
 .grind[Lib.splitB_data,Lib.count_one,rL]
 .rw[Lib.splitB_all _ (by show 1<=1;omega) 0 _ s rfl]
def Gg (w w':World) (ls:List (List UInt8)) (v:Value):Prop:=
 ∃(xs:List ByteArray) (cap:Nat),xs.map (·.data.toList)=ls/\xs.length<=cap/\cap<=4294967282/\v=.slice (some ⟨w.heap.size,0,none⟩) xs.length cap/\(∀(j:Nat) x,xs[j]?=some x->w'.cell? ⟨w.heap.size,j,none⟩=some (.string x))/\w.heap.size<w'.heap.size
theorem rP (w:World) (a:List ByteArray) (t:TypeId):∀(j:Nat) x,a[j]?=some x->(w.alloc (.cells (a.map Value.string).toArray t)).cell? ⟨w.heap.size,j,none⟩=some (.string x):=by simp
theorem Gh (a:List ByteArray) (l:List UInt8) (x:ByteArray) (e:a.map (·.data.toList)=ar 46 l) (f:1<a.length) (c:a[a.length- 1]?=some x) (d:x.data.toList=[]):a.dropLast.map (·.data.toList)=cn l:=by
 unfold cn;rw[<-e];have b:(a.map (·.data.toList)).getLast? =some []:=by rw[ut,qR,c];simp[d]
 rw[ae ⟨by simpa using f,b⟩,List.map_dropLast]
theorem xi (a:List ByteArray) (l:List UInt8) (b:a.map (·.data.toList)=ar 46 l) (h:¬1<a.length\/∃x,a[a.length- 1]?=some x/\x.data.toList≠[]):a.map (·.data.toList)=cn l:=by
 unfold cn;rw[<-b];rw[ab];rintro⟨f,c⟩;rcases h with h|⟨x,d,e⟩
 .grind
 .grind
theorem xj (s:ByteArray) (m:Int) (w:World) (t:s.size<4294967281) (p:Ce w 16 0 (.int .i64 m)):Calls prog 201 #[.string s] w fun e w'=>(∃v,e=.returned v/\Gg w w' (cn s.data.toList) v)/\Bl w w':=by
 have u:=hI p;clear p;go_enter func201,ntmps201;go_wp21;refine(pu s 46 m _ t u).mono ?_;rintro e E ⟨b,g,rfl,rfl⟩;have c:=rP w b 9;have D:b.length<=s.size+1:=by have:=pq 46 s.L;rw[<-g] at this;simpa using this
 have A:1<=b.length:=by
  have:=hO 46 s.L;rw[<-g] at this;cases b with
  |nil=>simp at this
  |cons a l=>simp
 have k:=hI g;clear g;by_cases o:1<b.length
 .obtain⟨x,n⟩:∃x,b[b.length- 1]?=some x:=⟨b[b.length- 1]'(by omega),by simp⟩
  have C:=c (b.length- 1) x n;have h:=hI c;have q:=hI n;clear c n;by_cases i:x.toList.isEmpty=true
  .have r:x.L=[]:=by rw[cG] at i;simpa using i
   have d:=hI (Gh b _ x k o q r);go_wp2;go_ret;refine⟨⟨_,rfl,b.dropLast,b.length,d,by simp,by omega,by simp,?_,by simp⟩,(ai _ w).alloc .refl _⟩;intro j y f;refine h j y ?_;rw[BN] at f;split at f
   .exact f
   .simp at f
  .have B:=il.2 i
   have d:=hI (xi b _ k (.inr ⟨x,q,by grind[Lib.toList_data]⟩));go_wp2;go_ret;exact⟨⟨_,rfl,b,b.length,d,by omega,by omega,rfl,h,by simp⟩,(ai _ w).alloc .refl _⟩
 .have d:=hI (xi b _ k (.inl o))
  have z:b.length<=1:=by omega
  have h:=hI c;clear c;go_wp2;go_ret;exact⟨⟨_,rfl,b,b.length,d,by omega,by omega,rfl,h,by simp⟩,(ai _ w).alloc .refl _⟩
theorem xk (s:ByteArray) (m:Int) (w:World) (y:s.size<4294967281) (o:Ce w 16 0 (.int .i64 m)):Calls prog 144 #[.string s] w fun e w'=>e=.returned (.bool (gx ((cn s.data.toList).getLastD [])))/\Bl w w':=by
 have z:=hI o;clear o;go_enter func144,ntmps144;go_wp2_with fail;refine(xj s m _ y z).mono ?_;rintro e A ⟨⟨v,rfl,c,F,f,I,H,rfl,n,p⟩,g⟩;have D:1<=c.length:=by
  have:=pi s.data.toList;rw[<-f] at this;cases c with
  |nil=>simp at this
  |cons a l=>simp
 obtain⟨x,j⟩:∃x,c[c.length- 1]?=some x:=⟨c[c.length- 1]'(by omega),by simp⟩;have G:=n (c.length- 1) x j;have i:Hid ((cn s.data.toList).getLastD []=x.data.toList):=by show _=_;rw[<-f,PK,ut,qR,j];rfl
 have J:x.size<=s.size:=by have:=rM s.data.toList x.data.toList (by grind);simpa using this
 have q:x.size<=maxLen:=by unfold maxLen;omega
 have E:w.heap.size+0<A.heap.size:=p;clear n j f p;by_cases d:Lib.hasPrefix x.data.toList (⟨#[48,120]⟩:ByteArray).data.toList=true
 .have C:2<=x.size:=by
   unfold Lib.hasPrefix at d;have:=(Bq.1 d).length_le;simpa using this
  have b:=hI d;have f:(x.extract 2 x.size).size<=maxLen:=by rw[oj];unfold maxLen;omega
  have u:=hI (py x 2);clear d;go_wp2_with(go_at_call 82;refine(rT _ _ _ b.out).mono ?_;rintro e w' ⟨rfl,rfl⟩);refine(tZ (x.extract 2 x.size) 16 _ f).mono ?_;rw[u.out];rintro e B ⟨rfl,rfl⟩;go_wp2;go_ret;have t:=b;refine⟨?_,g⟩;rw[i.out];unfold gx;rw[ae (show Lib.hasPrefix x.data.toList [48,120]=true from t)];rfl
 .have k:=il.2 d
  have b:=hI k;clear d k;by_cases h:x.toList.isEmpty=true
  .go_wp2_with(go_at_call 82;refine(mg _ _ _ b.out).mono ?_;rintro e w' ⟨rfl,rfl⟩)
   go_ret;refine⟨?_,g⟩;rw[i.out];unfold gx;rw[ab (by rw[show Lib.hasPrefix x.data.toList [48,120]=false from b];simp),<-cG,h];rfl
  .have r:=il.2 h
   clear h;go_wp2_with(go_at_call 82;refine(mg _ _ _ b.out).mono ?_;rintro e w' ⟨rfl,rfl⟩);refine(tZ x 10 _ q).mono ?_;rintro e B ⟨rfl,rfl⟩;go_wp2;go_ret;refine⟨?_,g⟩;rw[i.out];unfold gx;rw[ab (by rw[show Lib.hasPrefix x.data.toList [48,120]=false from b];simp),<-cG,r,cG];rfl
end Go.Proofs
