import Derived.Test.YtkcnageeamappaaGreatDoorXIp4
set_option maxHeartbeats 32000000
set_option maxRecDepth 8000
set_option linter.unusedSimpArgs false
namespace Go.Proofs
open Go.RowKit Go.Moor Go.Proofs.Tryz Go.Moor Go.RowKit Go.Moor Go.Sort
theorem Fj (i:Nat) (h:i<100) (w:World):Calls prog 239 #[.int .u64 i,.int .i64 10] w fun e w'=>e=.returned (.string ⟨(Lib.decDigits i).toArray⟩)/\w'=w:=by go_enter func239,ntmps239;go_wp2_with(go_at_call 254;refine(internal_strconv_small i h _).mono ?_;rintro e w' ⟨rfl,rfl⟩);go_ret;exact⟨rfl,rfl⟩
theorem Fk (w:World) (T:TypeId):Holds (λ(b:UInt8)=>Value.int .u8 (b.toNat:Int)) (w.alloc (.cells Lib.zeros24 T)) w.heap.size 0 (Array.replicate 3 (0:UInt8)):=λj a=>by
 have c:j<3:=by simpa using a
 refine⟨?_,World.frozen?_alloc_new _ _ _ _⟩;rw[ew,Lib.zeros24_at _ (by omega),getElem!_pos _ j a];simp
set_option maxRecDepth 100000 in
theorem Fl (u:Nat) (y:100<=u) (A:u<256) (w:World) (p:Lib.TabIs prog w "internal/strconv.uint64pow10" .u64 Lib.pow10Tab):Calls prog 239 #[.int .u64 u,.int .i64 10] w fun e w'=>e=.returned (.string ⟨(Lib.decDigits u).toArray⟩)/\Bl w w':=by
 have c:=Lib.nDigits_unique 2 u (by omega) (by omega);have g:(Lib.decDigits u).length=3:=by rw[BG,c]
 have m:=Fk w 259;have l:=internal_strconv_formatBase10 w.hz 0 24 u (Array.replicate 3 0) (w.alloc (.cells Lib.zeros24 259)) m (by grind) (by omega) (by simp);rw[Array.size_replicate] at l;have o:=hI l;have q:=hI m;have i:=hI c;have s:=hI g;have v:Hid (Calls prog 255 #[.int .u64 u] (w.alloc (.cells Lib.zeros24 259)) fun e w'=>e=.returned (Iv 3)/\w'=w.alloc (.cells Lib.zeros24 259)):=by have:=internal_strconv_numDigits u (by omega) (by omega) (w.alloc (.cells Lib.zeros24 259)) (Lib.tabIs_alloc p _);rw[c] at this;exact this
 clear c g;go_enter func239,ntmps239;go_wp21;refine v.out.mono ?_;rintro e w' ⟨rfl,rfl⟩;go_wp21;refine o.out.mono ?_;rintro e w' ⟨rfl,k,x,a,rfl,(t:Hid _)⟩;have z:(convert 47 9 (.slice (some (Ad w.hz 0)) 3 24)).run prog ((putRow (fun(b:UInt8)=>Value.int .u8 (b.toNat:Int)) (w.alloc (.cells Lib.zeros24 259)) w.hz 0 a).drewN k)=.ok (Sv (Lib.decDigits u)) ((putRow (fun(b:UInt8)=>Value.int .u8 (b.toNat:Int)) (w.alloc (.cells Lib.zeros24 259)) w.hz 0 a).drewN k):=by
  have d:Lib.FmtInv (Lib.nDigits u) u 0 x a:=by rw[i.out];exact t
  have h:=oo (P:=prog) ((putRow (fun(b:UInt8)=>Value.int .u8 (b.toNat:Int)) (w.alloc (.cells Lib.zeros24 259)) w.hz 0 a).drewN k) 47 9 5 (Ad w.hz 0) 24 (Lib.decDigits u) underlying47 underlying5 underlying9 (fun j f=>by
   rw[Lib.row_is_numeral d j f,ui,World.cell?_drewN];exact cell?_putRow (fun(b:UInt8)=>Value.int .u8 (b.toNat:Int)) _ w.hz 0 _ a q (by rw[d.size,i.out,Array.size_replicate]) j (by rw[d.size];rw[BG] at f;exact f))
  rw[s.out] at h;exact h
 have n:Hid (Bl w ((putRow (fun(b:UInt8)=>Value.int .u8 (b.toNat:Int)) (w.alloc (.cells Lib.zeros24 259)) w.hz 0 a).drewN k)):=by obtain⟨r,_,e⟩:=putRow_grow_new (fun(b:UInt8)=>Value.int .u8 (b.toNat:Int)) w #[.cells Lib.zeros24 259] w.hz 0 a (aG _);show Below _ _ _;rw[alloc_eq_grow,e];exact Lib.below_grow _ w (aG _) k r
 go_wp2;go_ret;exact⟨rfl,n⟩
theorem Fm (u:Nat) (b:u<256) (w:World) (a:Lib.TabIs prog w "internal/strconv.uint64pow10" .u64 Lib.pow10Tab):Calls prog 239 #[.int .u64 u,.int .i64 10] w λe w'=>e=.returned (.string ⟨(Lib.decDigits u).toArray⟩)/\Bl w w':=by
 by_cases h:u<100
 .refine(Fj u h w).mono ?_
  rintro e w' ⟨rfl,rfl⟩;exact⟨rfl,ai _ _⟩
 .exact Fl u (by omega) b w a
theorem Fo (u:Nat) (d:u<256) (w:World) (a:Lib.TabIs prog w "internal/strconv.uint64pow10" .u64 Lib.pow10Tab):Calls prog 203 #[.int .u64 u,.int .i64 10] w fun e w'=>e=.returned (.string ⟨(Lib.decDigits u).toArray⟩)/\Bl w w':=by have c:=hI a;clear a;go_enter func203,ntmps203;go_wp21;refine(Fm u d _ c).mono ?_;rintro e w' ⟨rfl,b⟩;go_wp2;go_ret;exact⟨rfl,b⟩
theorem Fp (a:Nat) (ha:a<4294967296) (w:World) (henv:Env w):Calls prog 146 #[.int .u64 a] w fun e w'=>e=.returned (.string ⟨(gN a).toArray⟩)/\Bl w w':=by
 have HV:=hI henv;clear henv;go_enter func146,ntmps146;go_wp2;go_loopw [5] (fun i wr=>∃q:Nat,q<=4/\i=.int .i64 q/\(∀j,j<4->wr.cell? ⟨w.heap.size,j,none⟩=some (.string (if j<q then⟨(Lib.decDigits (gh a j)).toArray⟩ else⟨#[]⟩)))/\(∀j,j<4->wr.frozen? ⟨w.heap.size,j,none⟩=false)/\Below w.heap.size w wr/\w.heap.size<wr.heap.size) (fun i _=>4-(intOf i).toNat)
 case atStart=>
  refine⟨0,by omega,rfl,?_,?_,(ai _ w).alloc (aG _) _,by simp⟩
  .grind[heap_alloc_new,World.cell?]
  .simp
 case round=>
  obtain⟨q,hq,rfl,hc,hf,hb,hz⟩:=hrel;have HC:=hI hc;have HF:=hI hf;clear hc hf;by_cases hlt:q<4
  .have HA:Hid (bits .and .u64 ((a:Int)/2^(24- 8*q)) 255=((gh a q:Nat):Int)):=FP a (24- 8*q) ha
   have HVr:=hI (HV.out.below hb);go_wp2_with fail;rw[HA.out];refine(Fo (gh a q) (wY a q) _ HVr.out.pow10).mono ?_;rintro e W1 ⟨rfl,b1⟩;have hc1:W1.cell? ⟨w.heap.size,q,none⟩=some (.string ⟨#[]⟩):=(by rw[b1.cell (p:=(Ad w.heap.size q)) hz,HC.out q hlt,ab (by omega)]);have hf1:W1.frozen? (Ad w.heap.size q)=false:=(by rw[b1.frozen (p:=(Ad w.heap.size q)) hz,HF.out q hlt]);have hz1:=cq hz b1.size;have hb1:=hb.trans (b1.mono (by omega));go_wp2;go_roundw
   case rel=>
    refine⟨q+1,by omega,by go_num,?_,?_,hb1.setCell (aG _) _,by simpa using hz1⟩
    .intro j hj
     by_cases hjq:j=q
     .simp_all[om]
     .rw[fB _ _ _ _ (by simp),b1.cell (p:=(Ad w.heap.size j)) hz,HC.out j hj]
      by_cases h:j<q
      .grind
      .grind
    .intro j hj
     rw[World.frozen?_setCell,b1.frozen (p:=(Ad w.heap.size j)) hz,HF.out j hj]
   case measure=>grind[intOf]
  .have hq4:q=4:=by omega
   subst hq4;have HJ:Hid (CB 189 #[.slice (some (Ad w.heap.size 0)) 4 4,.string ⟨#[46]⟩] wr (Sv (gN a))):=by
    have hj:=strings_Join w.heap.size 0 4 [(Bv (Lib.decDigits (gh a 0))),(Bv (Lib.decDigits (gh a 1))),(Bv (Lib.decDigits (gh a 2))),(Bv (Lib.decDigits (gh a 3)))] ⟨#[46]⟩ wr (by
      intro j x hx;match j,hx with
      |0,hx=>cases hx;exact HC 0 (by omega)
      |1,hx=>cases hx;exact HC 1 (by omega)
      |2,hx=>cases hx;exact HC 2 (by omega)
      |3,hx=>cases hx;exact HC 3 (by omega)) hz (by simp) (by simp) (by
      show(gN a).length<=_;have:=wZ a;omega)
    exact hj
   go_wp2_with fail;refine HJ.out.mono ?_;rintro e W1 ⟨rfl,b1⟩;go_wp2;go_ret;exact⟨rfl,hb.trans (b1.mono (by omega))⟩
end Go.Proofs
namespace Go.Proofs
open Go.RowKit Go.Moor Go.Proofs.Tryz Go.Moor
def iC (o:Option (List UInt8)) (e:Ending):Prop:=
 match o with
 |some l=>e=.returned (.tuple #[.string ⟨l.toArray⟩,.nilIface])
 |none=>∃t v,e=.returned (.tuple #[.string ⟨#[]⟩,.iface t v])
theorem tl (s:ByteArray) (c:UInt8) (w:World) (h:0<=Lib.indexByte s.data.toList c):Calls prog 141 #[.string s,.int .u8 c.toNat] w λe w'=>(∃i:Int,0<=i/\e=.returned (.int .i64 i))/\w'=w:=by refine m0 (strings_IndexByte s c.toNat w) ?_;exact⟨⟨_,by simpa using h,rfl⟩,rfl⟩
theorem pZ (s:ByteArray) (c:UInt8) (w:World) (h:¬0<=Lib.indexByte s.data.toList c):Calls prog 141 #[.string s,.int .u8 c.toNat] w λe w'=>(∃i:Int,i<0/\e=.returned (.int .i64 i))/\w'=w:=by refine m0 (strings_IndexByte s c.toNat w) ?_;exact⟨⟨_,by simpa using h,rfl⟩,rfl⟩
theorem KT (c:UInt8) (w:World) (a:je w) (hz:13<w.heap.size) (h:cI 0 c.toNat=true):Calls prog 142 #[.int .i64 0,.int .u8 c.toNat] w λe w'=>e=.returned (.bool true)/\Bl w w':=by have:=Bb 0 c w a hz;rwa[h] at this
theorem KU (c:UInt8) (w:World) (a:je w) (hz:13<w.heap.size) (h:cI 0 c.toNat=false):Calls prog 142 #[.int .i64 0,.int .u8 c.toNat] w λe w'=>e=.returned (.bool false)/\Bl w w':=by have:=Bb 0 c w a hz;rwa[h] at this
theorem KV (s:ByteArray) (k:Nat) (h:k<s.size) (a:dp s[k]=true):s.data.toList.any dp=true:=by rw[qQ];exact⟨s[k],mW (l:=s.L) (n:=k) (by simpa using h),a⟩
theorem KW (s:ByteArray) (h:∀(j:Nat) (a:j<s.size),dp s[j]=false):s.data.toList.any dp=false:=by rw[uq];intro x b;obtain⟨j,a,rfl⟩:=oa b;have:dp s.L[j]=false:=h j (by simpa using a);rw[this];simp
theorem KX (s:ByteArray) (w:World) (hs:s.size<4294967281) (W:Env w):Calls prog 84 #[.string s] w fun e w'=>iC (fU s.data.toList) e/\Bl w w':=by
 have M:=hI W;clear W;by_cases x:s.toList.isEmpty=true
 .obtain⟨te,Z,a4⟩:=M.out.eEmpty
  go_enter func84,ntmps84;go_wp2;go_quiet (fail);go_wp2;go_ret2;refine⟨?_,cr (ai _ _) _⟩;unfold fU;rw[ae (by grind[Lib.toList_data])];exact⟨_,_,rfl⟩
 .have a3:=il.2 x
  have z:Hid (¬s.data.toList=[]):=by show¬_;intro h;rw[cG,h] at x;exact x rfl
  clear x;go_enter func84,ntmps84;go_wp2_with fail;go_loopw [4] (fun i wr=>∃k:Nat,k<=s.size/\i=Iv k/\(∀(j:Nat) (p:j<s.size),j<k->dp s[j]=false)/\Bl w wr) (fun i _=>s.size-(intOf i).toNat)
  case atStart=>exact⟨0,aR _,rfl,fun j p h=>by omega,ai _ _⟩
  case round=>
   obtain⟨k,hk,rfl,U,G⟩:=hrel;have l:=hI G;have A:=hI (M.out.below G);clear G;have L:=hI U;clear U;by_cases Y:k<s.size
   .by_cases f:dp s[k]=true
    .have HB:=hI (KV s k Y f)
     have O:Hid (fU s.data.toList=none):=hI (by unfold fU;rw[ab z.out,ae HB.out]);by_cases d:0<=Lib.indexByte rN s[k]
     .clear f
      go_wp2_with(go_at_call 141;refine(tl _ _ _ d).mono ?_;rintro e w' ⟨⟨i,R,rfl⟩,c⟩;have c:=c.symm;subst c);go_quiet (fail);go_wp2;go_ret2;refine⟨?_,cr l _⟩;rw[O.out];exact⟨_,_,rfl⟩
     .have F:cI 0 s[k].toNat=true:=by
       unfold dp at f;rw[ee d] at f;simpa using f
      clear f;have J:=hI (KT _ _ A.out.sets (by have:=A.out.size;omega) F);go_wp2_with(first|(go_at_call 141;refine(pZ _ _ _ d).mono ?_;rintro e w' ⟨⟨i,R,rfl⟩,c⟩;have c:=c.symm;subst c)|fail);refine mR J.out fun X r=>?_;have I:=hI (l.out.trans (r.mono l.out.size));clear r;go_wp2;go_quiet (fail);go_wp2;go_ret2;refine⟨?_,cr I _⟩;rw[O.out];exact⟨_,_,rfl⟩
    .have o:=il.2 f
     have a1:Hid (∀(j:Nat) (p:j<s.size),j<k+1->dp s[j]=false):=by
      intro j p h;by_cases e:j=k
      .grind
      .exact L j p (by omega)
     have d:¬0<=Lib.indexByte rN s[k]:=fun h=>by grind[dp]
     have F:=(ov.1 o).2;clear f o;have J:=hI (KU _ _ A.out.sets (by have:=A.out.size;omega) F);go_wp2_with(first|(go_at_call 141;refine(pZ _ _ _ d).mono ?_;rintro e w' ⟨⟨i,R,rfl⟩,c⟩;have c:=c.symm;subst c)|fail);refine mR J.out fun X r=>?_;have I:=hI (l.out.trans (r.mono l.out.size));clear r;go_wp2;go_roundw
     case rel=>exact⟨k+1,by omega,by go_num,a1,I⟩
     case measure=>grind[intOf]
   .have y:=hI (KW s (fun j p=>L j p (by omega)))
    have a2:Hid (∀(j:Nat) (b:UInt8),s.data.toList[j]?=some b->b.toNat<128):=(by intro j b h;refine FT b ?_;have d:=y;rw[uq] at d;have:=d b (ef h);simpa using this);clear L;go_wp2_with fail;refine mR (strings_ToLower_ascii s _ (by omega) a2) fun E g=>?_;have g:=l.out.trans (g.mono l.out.size);have P:=hI (M.out.below g);obtain⟨m,(Q:Hid _)⟩:=P.out.maxLen;have H:(Bv (Lib.toLowerA s.data.toList)).size<4294967281:=(by rw[al];simpa[Lib.toLowerA] using hs);by_cases t:gx ((cn (Lib.toLowerA s.data.toList)).getLastD [])=true
    .have D:Hid (CB 144 #[Sv (Lib.toLowerA s.data.toList)] E (.bool true)):=by
      have:=xk (Bv (Lib.toLowerA s.data.toList)) m E H Q;rwa[show gx ((cn (Bv (Lib.toLowerA s.data.toList)).data.toList).getLastD [])=true from t] at this
     have C:=hI t;clear t;go_wp2_with fail;refine mR D.out fun T u=>?_;have N:=hI (P.out.below u);have o:=g.trans (u.mono g.size);clear g u D;have V:=hI (FY (Bv (Lib.toLowerA s.data.toList)) T H N);cases q:dy (cn (Lib.toLowerA s.data.toList)) with
     |none=>have v:=hI q;clear q;go_wp2_with fail;refine V.out.mono ?_;rw[v.out];rintro e W3 ⟨⟨te,Z,rfl⟩,B⟩;go_wp2;go_ret2;refine⟨?_,o.trans (B.mono o.size)⟩;unfold fU;rw[ab z.out,ab (by rw[y.out];simp),ae C.out,v.out];exact⟨_,_,rfl⟩
     |some n=>have v:=hI q;have hr:=FR _ n (pi _) q;clear q;obtain⟨a,rfl⟩:∃a:Nat,n=a:=⟨n.toNat,by omega⟩;go_wp2_with fail;refine V.out.mono ?_;rw[v.out];rintro e W3 ⟨rfl,B⟩;have a0:=hI (N.out.below B);have S:=o.trans (B.mono o.size);go_wp2_with fail;refine mR (Fp a (by omega) _ a0) fun W4 b4=>?_;go_wp2;go_ret2;refine⟨?_,S.trans (b4.mono S.size)⟩;unfold fU;rw[ab z.out,ab (by rw[y.out];simp),ae C.out,v.out];rfl
    .have K:=il.2 t
     have D:Hid (CB 144 #[Sv (Lib.toLowerA s.data.toList)] E (.bool false)):=(by have:=xk (Bv (Lib.toLowerA s.data.toList)) m E H Q;rwa[show gx ((cn (Bv (Lib.toLowerA s.data.toList)).data.toList).getLastD [])=false from K] at this);have C:=hI K;clear t K;go_wp2_with fail;refine mR D.out fun T u=>?_;go_wp2;go_ret2;refine⟨?_,g.trans (u.mono g.size)⟩;unfold fU;rw[ab z.out,ab (by rw[y.out];simp),ab (by rw[C.out];simp)];rfl
end Go.Proofs
