import PyProof.Rows.All
import Wide.All
import OpenK.AllK
import Wide.FinOn
import Lean
import PyProof.EqAt
import PyProof.EqKinds
import PyProof.TupleCall
import KE.KNest
import KE.KNestM
import KE.KIntText
import KE.KDictOf
import KE.KPairComp
import KE.KLam
import KE.KSortTup
import PySem.Challenge.RW_backline_k32_what_is_shown
set_option Elab.async false
set_option linter.all false
set_option maxRecDepth 100000
set_option bootstrap.genMatcherCode false
section
open Lean Parser
def Rd.n(k:Name)(a:Array Syntax):Syntax:=.node .none k a
def Rd.a(s:String):Syntax:=.atom .none s
def Rd.sel(i:Syntax)(l:List String):Syntax:=
 l.foldl (fun a x=>if a.isMissing then n ``Term.dotIdent #[Rd.a ".",mkIdent (.mkSimple x)]
  else if x.front.isDigit then n ``Term.proj #[a,Rd.a ".",n `fieldIdx #[Rd.a x]]
  else match a with
   |.ident _ _ m _=>mkIdent (.str m x)
   |_=>n ``Term.proj #[a,Rd.a ".",mkIdent (.mkSimple x)]) i
def Rd.atm(w:String):Syntax:=
 let f:=w.splitOn "."
 if w=="_" then n ``Term.hole #[a w]
 else if w=="?_" then n ``Term.syntheticHole #[a "?",a "_"]
 else if w.front.isDigit then Syntax.mkNumLit w
 else if w.front=='@' then n ``Term.explicit #[a "@",mkIdent (w.drop 1).toName]
 else sel (if f.head!.isEmpty then .missing else mkIdent (.mkSimple f.head!)) f.tail
def Rd.app(c:Array Syntax):Syntax:=
 if c.size<2 then c[0]! else
 if c[0]!.getId==`by then if c.size>2 then Unhygienic.run `(by decide +kernel) else
  let k:=c[1]!.getId
  let o:=mkNullNode
  n ``Term.byTactic #[a "by",n ``Tactic.tacticSeq #[n ``Tactic.tacticSeq1Indented #[mkNullNode #[n (`Lean.Parser.Tactic++k) (#[a k.toString,n ``Tactic.optConfig #[o]]++if k==`simp then #[o,o,o,o] else #[])]]]]
 else n ``Term.app #[c[0]!,mkNullNode (c.extract 1 c.size)]
set_option genInjectivity false in
set_option genSizeOf false in
structure Rd where
 (s:List (Char×Array Syntax×Array Syntax)) (k p:Char) (d c:Array Syntax) (w:String)
def Rd.pop(r:Rd)(t:Syntax):Rd:=match r.s with
 |(k,d,c)::s=>⟨s,k,r.p,d,c.push t,""⟩
 |_=>⟨[],'(',' ',#[],#[t],""⟩
def Rd.cls(r:Rd):Nat->Rd
 |0=>r
 |m+1=>if r.k=='>' then cls (r.pop (n ``Term.fun #[a "fun",n ``Term.basicFun #[mkNullNode r.d,mkNullNode,a "=>",app r.c]])) m else r
def Rd.step(r:Rd)(x:Char):Rd:=
 if r.k=='"' then if x=='"' then r.pop (Syntax.mkStrLit r.w) else {r with w:=r.w.push x}
 else if x.isAlphanum||"_.'?@".contains x||x.toNat>944&&x.toNat<1000&&x != 'λ' then {r with w:=r.w.push x}
 else
  let c:=if r.w=="" then r.c else if r.w.front=='.'&&r.p==')' then r.c.pop.push (sel (Unhygienic.run `(($(⟨r.c.back!⟩)))) (r.w.splitOn ".").tail) else r.c.push (atm r.w)
  let r:Rd:={r with c,w:="",p:=x}
  if "(⟨[λ\"".contains x then ⟨(r.k,r.d,c)::r.s,x,x,#[],#[],""⟩
  else if x==':'||x=='>' then ⟨r.s,x,x,c,#[],""⟩
  else if ",)⟩]".contains x then
   let r:=r.cls 9
   let e:=if r.c.isEmpty then r.d else r.d.push (app r.c)
   if x==',' then {r with d:=e,c:=#[]} else
   let e:=mkNullNode (mkSepArray e (a ","))
   r.pop (if x==']' then n `«term[_]» #[a "[",e,a "]"] else if x=='⟩' then n ``Term.anonymousCtor #[a "⟨",e,a "⟩"] else if r.k==':' then n ``Term.namedArgument #[a "(",r.d[0]!,a ":=",app r.c,a ")"] else app r.c)
  else r
def Rd.tab:="
⟨rfl,rfl,rfl,by decide +kernel,rfl,by decide +kernel,by decide +kernel⟩
by lia
by decide
(bu (K:=K) (pv 0) rfl)
(model X.prog X.w)
(Or.inl rfl)
(hr.mono Z3)
Inv X pins σ H s
Nat.le_refl _







(by simp)
(λ vs H Q E h=>?_)
(λ _ _=>rfl)
bx \"ordered\" (.bl o) (bx \"many\" (.int m) (bx \"does\" (.ref dz) []))
(model prog w)
by decide +kernel
Heap.get?_push_of_some _ e
Heap.get?_push_size _ rfl
.ref s.heap.objs.size
(λ cdv A outer s H vs Q E hr h=>?_)
Heap.lt_size e

(bA (jw (K:=K) T) Z7 rfl T.mg_bg T.kp_bg T.b_bg .nil bo (bf (pv 0) (bf bh aZ)))
Txt K mg t
.type \"list\"
arrOf st
(pv 1)
⟨_,rfl,L.p,_,L.dx,_,.ref L.ha,rfl,hp1,T.cl_Thread,T.na_bt,rfl,L.ha,dxh,_,rfl,habH _ _ hh',rfl,?_⟩
(.cons (.n rfl) .nil)
(CXr P w)
List Int
by omega
(bI (pv 0) T.cl_Thread T.me_bw (e9 (K:=K) T) Z7 T.b_bw .nil bo)
Array Keyed
.ref a
(bD (K:=K))




[\"self\",\"down\",\"here\"]

.ref b
(.tup xs)
⟨_,rfl,L.p,_,L.dx,_,.int A.down,rfl,hp1,T.cl_Thread,T.na_ci,rfl,?_⟩
s.heap.push (seqObj \"list\" vs.toArray 0)
(pv 0)
(bx \"posted\" (.ref po) (bx \"log\" (.ref lg) (bx \"threads\" (.ref acc) ZD)))
.ref L.p
(model P w)
⟨_,rfl,L.p,L.dx,_,rfl,hp1,rfl,L.p,L.dx,_,_,_,_,_,_,rfl,hp1,SqL.of hd1,_,_,_,rfl,?_⟩
(pv 2)
(.dT kvs)
.builtin \"object.__class__\"
(Fb ?_)

List Str
(bO (K:=K))
by simp
List Value
(xss.map cn)
(.n rfl)
(.lst xs)
(.ref l)
V.int e.2
dv P w s.heap a ks es ep t
[.int n.1,.int n.2.1,.int n.2.2]
Heap.get?_push_of_some _ q
.ref p
(pv 5)
.builtin \"getset_descriptor.__get__\"
(.lst ys)
V.ref l.adr
(bg (bC (fL (bA (vj (K:=K) T) Z7 rfl T.mg_av T.kp_av T.b_av .nil bo (bf Zj (bf (bF Zp (cH (cB hr) Z4 ZQ ZC) bh ZC) (bf (cH (cB hr) Z4 ZQ ZC) aZ)))) (fu (kr (bA (rh (K:=K) T) Z7 rfl T.mg_au T.kp_au T.b_au .nil bo (bf Zj (bf ZQ aZ))))))))
[\"_law_cell\",\"_law_many\"]
Lo K t G H L A n
(bI Ze T.cl_Loom T.me_ag (mi (K:=K) T) Z7 T.b_ag .nil bo)
List Addr







(arrOf q)
bR X.prog X.w X.K X.mg X.base CX k f fd ps sp
(pv 4)
(.ListComp elt [⟨tg,iter,ifs,0⟩] sc pos)
LoC K t G H L A
(bJ _)
cU (λ z=>?_) λ z=>?_
.lst []
⟨Z3,Z3⟩
.ins t.c_Descent dx (bx \"taken\" (.ref ta) (bx \"posted\" (.ref F) []))
backTo pos (starEach es X.env)
s.heap.push PySem.W.emptyDict
(seqObj \"tuple\" vs.toArray 0)
(EP X pins σ Q)
⟨rfl,rfl,rfl,rfl⟩
envOfC qual scope s.heap.objs.size f cd
[\"self\",\"hand\"]
Heap.get?_update_other _ _ (Ne.symm nS)
(HO.ins t.c_Event dx (bx \"state\" (V.int st) (bx \"used\" v [])))
(.ins C dx fs)
.type \"tuple\"
(bf ZQ aZ)
(bZ I q ZA)
(.ref f)
⟨_,rfl,al,rfl,⟨_,SqL.of ll.self⟩,j6 ll ZV aw.2.1.ne rfl λ r H1 nr s1 e1=>?_⟩
(bI Ze T.cl_Loom T.me_ah (oO (K:=K) T) Z7 T.b_ah .nil bo)




(.tup [.int x.2.1,.int x.2.2])

⟨rfl,rfl⟩
(bz (i:=5) kJ.nd rfl Z6 (bA (yc (K:=K) T) Z7 rfl T.mg_ak T.kp_ak T.b_ak .nil bo (bf (pv 3) (bf (bI Zj T.cl_Descent T.me_ao (lS (K:=K) T) Z7 T.b_ao .nil bo) aZ))))
PySem.W.instObj C s.heap.objs.size
vs.toArray.zip vs.toArray
[\"_law_loom_here\",\"_law_allowed_here\",\"_law_paper_here\",\"_law_line\",\"_law_cell\"]
(bA (mh (K:=K) T) Z7 rfl T.mg_cc T.kp_cc T.b_cc .nil bo (bf Ze (bf (pv 3) aZ)))
(.frz o Zk)
k _ _ (.inl rfl) e
[\"self\"]
(upd (upd H2 pe (.tup [.int i,.ref y.1])) nb (.tup [.int s,.int pl,.int i]))
eval e X.env
Nx.mk hi ⟨?_,aU,λ b u e=>?_,_,rfl⟩
(.ref it)
(.ins t.c_Thread dx (thF i ha dn wr d))
[\"self\",\"place\"]
nk e.1
[some Zg,some Zv,some (.ref ds),some (.ref wd),some Za,some (.ref kb),o6]
(upd H5 kb (.tup [.int s,.int y.2.1]))
(bF Zp Z01 bh ZC)
nk l.nm
[\"_law_loom_here\",\"_law_allowed_here\",\"_law_cell\",\"_law_at\",\"_law_odd\"]
⟨_,rfl,L2.p,L2.dx,_,rfl,lo3.c.self,rfl,_,rfl,b,_,1,.int j,rfl,rfl,SqT.of hb,rfl,G2,L2,A2,i,j,rfl,lo3,Z2,j1,λ G' H' L' A' st' lo'=>?_⟩
(.ref C)
[some Zg,some (.ref al),some (.int c),some (.int at'),some (.ref ob),some (.ref r),some (.ref lp),some (.bl put),some (.ref lb),o9,o10]
Fp (Jy (GZ ⟨rfl,?_⟩))
(bf (pv 6) aZ)
⟨rfl,_,_,rfl,Z2,Z2,Z2,Z2⟩
List V
HOk P w H h
(λ a1 A outer s H vs Q E hr h=>?_)
(.builtin \"sorted\")
.type \"dict\"
(.tup (k.map kV))
(.ref acc)
[\"_law_loom_here\",\"_law_allowed_here\",\"_law_reached\",\"_law_name\"]
(thn (hi pins s σ H _ I h) λ v s1 h1=>thn h1 λ itv s2 h2=>?_)







(bA (kq (K:=K) T) Z7 rfl T.mg_ck T.kp_ck T.b_ck .nil bo (bf Zj (bf (bL (cm (K:=K)) rfl T.no_len eM (bf Z0C aZ)) (bf bh aZ))))
intKind P w
[\"self\",\"name\"]
[\"self\",\"does\",\"starts\",\"habits\",\"ordered\"]
V.bl true
.type \"set\"
(λ j A outer s H vs Q E q h=>?_)
(j.push PySem.W.emptyDict).push (PySem.W.instObj C j.objs.size)
[\"_law_cell\",\"_law_many\",\"_law_hand\",\"_law_state\",\"_law_word\"]
[Sum.inl n.1,Sum.inl n.2.1,Sum.inl n.2.2]
[\"self\",\"hand\",\"name\"]
(bI Z0C T.cl_Thread T.me_bw (e9 (K:=K) T) Z7 T.b_bw .nil bo)
E8 (G9 (T:=\"StopIteration\") (b:=true) ⟨_,ZH,rfl⟩ Kv ?_)
(.ins t.c_Thread L.dx (thF A.first L.ha L.dn L.wr A.down))
(.cons Zt ZS)
⟨λ b o e n hb hx=>?_,λ b o e n hb hx=>?_,I.base.free,λ b o e hx=>?_,I.base.tups,I.base.frzs,I.base.tbls⟩
owner.setIfInBounds j (some k)
cxC CX P w K mg base N F qual scope f cd cl A outer s H E
bV w a ep es
Heap.get?_update_other _ _ (Ne.symm hb)
Fl rfl
.lst (dU (iV J) none (some F))
(cB hr)
(.ins t.c_Loom dx (loF dz m o lt lg D))
[\"_law_loom_here\",\"_law_allowed_here\",\"_law_paper_here\"]
.ins t.c_Event dxe (evF v Ew.st m1 m2)




⟨_,rfl⟩

bs.map Value.ref
(Gj F.slot_dict_itemiterator_next q F.entry_dict_itemiterator_next ?_ (F.args_dict_itemiterator_next_1 _))
[\"self\",\"used\",\"state\",\"sent\",\"said\"]
(.ins t.c_Thread L.dx (thF A.first L.ha L.dn L.wr d'))
Str.ofString \"__next__\"
(λ i=>dy (x i) (y i) (z i))
(.builtin id)
(.builtin \"isinstance\")
(pv 3)
(PW.pt (eK (cM (cC (bA (tQ (K:=K) T) Z7 rfl T.mg_dm T.kp_dm T.b_dm .nil bo Z0V))) (eg (iB (eD Z1W ZQ Z4)))))
some (.int c)
codeAny_call_function Y.depth (KX _ _ lk) rfl S.co S.gen rfl (PySem.W.codeRec_of KX W) (hb _ _ _ _ ?_)
A.ths.set j T'
(.lst (iV ln))
(bz (i:=8) iq.nd rfl Z6 (bA (mh (K:=K) T) Z7 rfl T.mg_cc T.kp_cc T.b_cc .nil bo (bf Ze (bf Z01 aZ))))
(bf Zj aZ)
congrArg (bind _) (funext λ _=>?_)
Walks prog w A.in1 it fp wr n Pi St
.seq its.toArray n 
(cm (K:=K))
(cZ (f:=cV.nm) cJ lo.wf.nd)
cU (λ _=>?_) λ _=>?_
List Nm3
.inl rfl
(keywordEach [] X.env)
[\"_law_loom_here\",\"_law_allowed_here\",\"_law_cell\"]
WfD A.many (cnt A.ths) A.A
.builtin \"object.__init__\"
c.2.2.2.1.push x
Heap.get?_push_of_some _ (Heap.get?_push_of_some _ ((Heap.get?_update_ne _ _ _ _ hb).trans e))
(.fresh 0 0 led)
.int T0.evs.length
(g pins s σ H _ I h)
(.Attribute o m apos)
tupleKind (cy X.prog X.w)
L.ths.map λ q=>V.ref q.p







I.tok _
(bf Z0C aZ)
StateT SortSt Sem (ForInStep Go)
StateT SortSt Sem (ForInStep Gh)
(pv 6)
(fH (K:=K) hr.units)
some Zg
congrArg (λ f=>forIn _ _ f) ?_
below t.place j
arrOf st'
Fp (Iz ?_)
.ref l.adr
.int i
.ins t.c_Descent dx (bx \"posted\" (.ref F) [])
(iV ns)
(.lst ls)
(bz (i:=2) uU.nd rfl Z6 (bI Ze T.cl_Descent T.me_ao (lS (K:=K) T) Z7 T.b_ao .nil bo))
⟨C.len,λ f G A outer s H z vs Q E q=>C.run f G A outer s H z vs Q E (q.mono h)⟩
⟨?_,aU,λ c u e=>?_,_,rfl⟩
.tup [.int l0.nm.1,.int l0.to]
(bg (bC fh))
nss.map List.length
dg P w h a ks
V.ref e.2.1
Calls.call_function_entry kind_sorted plain_sorted entry_sorted (args_sorted1 _) ?_
(nv CX P w K U base N qual d f j A i s H E)




(.frz oc (.own c'))

congrArg (λ z=>ite _ _ z) ?_
[\"_law_loom_here\",\"_law_cell\",\"_law_size\"]
(.tup [.int x,.int y,.int z])
(.frz fo (.own h'.objs.size))
(.dK kvs)
I.hok.fresh Z9
hs.2 b (Fu (FA ZK (I.ok.cab x c hfn hc)))
(PyProof.Rows.seqObj \"list\" vs.toArray 0)
⟨_,ZH,rfl,rfl⟩
Binds X.K fd ps ds
.int j
(fb (K:=K) rfl (cq (bG (i:=4) dF.nd rfl Z6) (cq (bG (i:=5) dF.nd rfl Z6) fi)))
(bf Z4 (bf ZW aZ))
(bH eX (bB bU ZQ bh) bh Z0F)
E8 (Ga hc (λ vs s1 h1=>?_) λ _ _ e=>e)
(.ins t.c_Loom dx (bx \"threads\" Z17 ZD))
⟨rfl,aU,bj.new F,_,rfl⟩
⟨_,rfl,cD rfl ?_⟩
s1.trans s2
okD 3 (PyData.list (ns.map PyData.int))
k q J r F ns U _ (a3.trans s5) aU (s5 _ _ O) (a2.same s5) ZV (s5 _ _ Y) Z.1
dv P w h a ks es ep t
aV (ba e F)
[\"loom\",\"line\"]
Paired.length r
Heap.get?_push_of_some _ ZG
GA F.plain_max_loop _
E8 (S.state ?_)
Around.under_plainId F.plain_min_loop _
Around.under_plainId F.plain_max_loop _
(start N vs)
(Or.inr rfl)
(Fc.mp h).1
sq λ rr1 ee1=>?_
some Z0X
pairsOf vs







o.push x
[\"loom\",\"fallen\"]
[\"key\",\"default\"]
Passes CX X E
K w.params
E8 (II hS rfl ?_)
BrL A H ls es
.type \"range\"
(.tup (nV n))
(bf Z1i aZ)
(bf Z01 aZ)
.ref q
(.frz o u)
(.frz o (.own c))
(.bl true)
(.Name x pos)
[\"_law_loom_here\",\"_law_fallen_here\"]
(upd H2 pz (.tup [.int s0,.ref hx']))
(cg aZ)
⟨_,rfl,?_⟩
some (.ref al)
leap t.mask p.i p.perturb
fU (sc:=sc) (env:=X.env) (λ y hy hf=>I.ok.has y.1 (ok.free y hy hf))
[\"value\"]
PE X a ta
Heap.lt_size q




E8 (m:=checkCount \"sorted\" 1 1 _) Zm

.type \"method_descriptor\"
(λ z hz=>hn z (Fo _ hz))
(call (.builtin \"list.sort\") [l] [])
(bx \"taken\" (.ref ta) Zf)
(bA (mw (K:=K) T) (G.mono Z3) rfl T.mg_dd T.kp_dd T.b_dd .nil bo Z0V)
xs.extract lo hi
.type \"function\"
(upd H1 acc Z0H)
(top 20)
(.ref x)
s4.trans s5
assignEach es X.env
[\"self\",\"sender\",\"place\",\"letters\"]
K.In s.heap
(λ a4 A outer s H vs Q E hr h=>?_)
(upd H1 q (.tup [.int n.1,.int h]))
(bL Z1t rfl T.no_len eM (bf Ze aZ))
ths.set j T'
lo.same s1
cU (λ z2=>?_) λ z2=>?_
[\"self\",\"start\",\"habit\"]
[\"self\",\"loom\",\"fallen\"]
[\"_law_script\",\"_law_k\"]
False.elim q
.bool true
(λ e=>Zw)
(pyNext Z0m)
(bg (bC Zj))
(bN (bQ Ze T.cl_Loom T.me_an (qT (K:=K) T) Z7 T.b_an .nil bo Z0V))
(Fc.mp hx).1
(.Attribute o name apos)
[\"_law_cell\",\"_law_k\",\"_law_base\"]
Heap.get?_update_other _ _ (Gp ZK)
E8 (GZ (E8 (lt_int (E8 (Fb Zm)))))
Fp (wpS_countRun C D Z2 Z2 hB' λ m st2 hB2 hm1 hm2 hs2 ho2=>?_)
⟨_,e⟩







⟨0,0,0,0⟩
z.getD j none
tupleKind (cy P w)
some (.ref D.d)
kQ X pins H b
dg P w s.heap a ks
[\"line\",\"user\",\"place\"]
[\"_law_script\"]
Tri s.heap v x y z
RelV y u
Option.some.inj h1
List Expr
Hs.mpr λ _ _=>rfl
DeB t H D A xss m b e l
Array DictEntry
.type \"dict_items\"
.int m
.int l.to
.inr ⟨_,nk x.1,b,.inl (F _ _ sf (s4 _ _ W)),rfl,a3,v1.symm⟩
(arrOf z)
(PySem.W.fnOf x qual (jJ st) (fN st) (bp st) .none D n F z j B)
(HO.ins t.c_Loom dx ZD)
(.ins t.c_Event dxe [])
some (assign (.Name y py) X.env)
[\"loom\",\"fallen\",\"line\",\"paper\"]
StateT SortSt Sem (ForInStep H0)




StateT SortSt Sem (ForInStep G0)

E8 ?_
(bF Zp (cH Z1W Zj Z0C ZC) bh ZC)
some v
[.ref it,.none,.ref S]
.lst (iV (U.set j mm))
(bA (mw (K:=K) T) Z7 rfl T.mg_dd T.kp_dd T.b_dd .nil bo Z0V)
vals1 r
bj H H'
backTo cpos (starEach es X.env)
.tup [.str \"use\",.int l0.to,Za]
.str \"own\"
.ins t.c_Loom dx (bx \"log\" (.ref lg) (bx \"threads\" Z17 ZD))
(upd H a o)
(dW (K:=K))
(ck _ _ _)
(bj.refl _)
(bf bh aZ)
(bF Zp (bF ZZ Z01 bh ZC) bh ZC)
(W.mono Z3)
Option.some.inj h
(eval o X.env)
⟨rfl,?_⟩
model prog w
hs.2 b (Fu (FA ZK I.ok.above))
[\"self\",\"hand\",\"row\"]
[\"_law_loom_here\",\"_law_line\"]
JO (pl:=pl) (thn (he pins s σ H _ I h) λ u s1 z=>?_) ht
I.mod.glob.keeps I.bk
GA F.plain_min_loop _
.ref d.heap.objs.size
.lst [.ref h1,.ref h2,.ref h3]
(uM m o [.int c',Z4Q] sts hbs)
(cj (K:=K) Ze ZQ rfl)
(c8 rfl T.no_range (bf Z4 aZ))
(bI Ze T.cl_Loom T.me_bx (xW (K:=K) T) Z7 T.b_bx .nil bo)
⟨_,(bg (bC (cF jY rfl T.no_dict tS (bf Z4 aZ)))),?_⟩







(bN (cQ (K:=K) FH FK FJ bW ZQ (bf (cE (bf gA Z0z)) aZ)))
relabel sc X.env
a3 _ _ (λ l W H' s' e' z'=>k l W H' s' e' z') O Y U n2
[\"self\",\"hand\",\"name\",\"word\"]
List.Perm.refl _
Fb ⟨GA F.plain_list_iadd _,Gn F.entry_list_iadd ?_⟩
.seq vs.toArray 
(bH eX (bB bU Z0C bh) bh Z0F)
Fz (h _ _ .refl p q)
Fp (gS C M Z2 Z2 ?_)
.ref r
(upd H dxe (.own e))
(jL (K:=K) hr.units)
(FT _)
⟨l,fs,.ref ub,rfl,rfl,bj.new nub _ _ g1,bE Z2,?_⟩
pendingOf st3
List Env
(bL Z1t rfl T.no_len eM Z0z)
(PySem.W.fnOf name qual j F scope dV kV L pm an z ct)
(.dT [])
jc I.hok e
Option Nat
E8 (HL (Hh (name:=Z1e) T gU (Gj gU T pf ?_ (qW _))))
(λ z=>?_)
⟨us,[]⟩
s3.trans s4




nv CX P w K mg base N qual scope f cd A outer s H E

ir X.prog X.w X.K X.mg X.base CX k qual lam ps F sp
congrArg some e
[⟨some \"default\",c,kp⟩]
PE X e te
ML rk X Y O i j
List Stmt
KT H kvs xs
J.map Value.ref
I.hok a _ e
HH λ i=>?_
A.ths.set j T' 
.Attribute o f pos'
(λ l=>Z04)
(eqU x)
⟨p,_,rfl,SqT.of aU,rfl,_,_,rfl,_,_,rfl,rfl,?_⟩
nv CX P w K mg base N qual scope f z A outer s H E
SqT.of (a4 _ _ (lo.c.held _ _ (lo.c.di.lets l O)))
.inr ⟨_,Z0p,b,.inl d.de.po,rfl,d.hb,d.v1.symm⟩
Ga (ae I3 a0 U a3 q) (λ r s4 hr=>?_) λ _ _ z=>z
Fb ?_
(λ f vs=>PySem.call f vs)
(letOwnedTupleGo tg Z0m u)
(bf (gY (v:=.ty \"list\") rfl T.no_list iu rfl) aZ)
(bf (gY (v:=.ty \"bool\") rfl T.no_bool tY rfl) aZ)
(PySem.W.fnOf name qual l z d dV kV L pm an j ct)
some Z00
ns.map V.int
c.2.1.push x
False.elim d
E8 (Jr ho6 rfl ?_)
.str \"write\"
(congrArg bind ?_)
(bB bU (bB iC Z01 (bB cY (bB cx Z01 bh) bh)) bh)
(Ne.symm ne)
(F6 _ _)
(.own x)







⟨po,ta,wy⟩
⟨b,rfl,hb⟩
owner.toList.filterMap id
evF v st l1 l2
[\"_law_line\",\"_law_cell\"]
.type \"object\"
(tC (V.int 1))
(f (.int i t) (.int j u))
(bB cx Z2E bh)
(CR CX outer P w H s Q E)
(.Compare a [op] [b] pos)
⟨G,h1,h2,L,O,λ q=>U ((V n).mpr (.inl q))⟩
at_ mask s (leap mask i p).1 (leap mask i p).2
⟨h1,g,z,tk,V⟩
sliceBounds lo hi none n
s.TypeIs ZY \"set\"
h.all v F
SqT.of hb
Loc X.env.scope x
List (ZU)
ForInStep.yield r
E8 (Fb (wpAny_throw ?_))
Di G H L A
.ref c
(jv gM bh)
(cH Z1W Z4 ZQ ZC)




(.tup [.ref lp,.ref lr])

(.ref s1.heap.objs.size)
(.lst pls)
[\"loom\",\"line\",\"sent\",\"uses\",\"names\",\"name\"]
M.mod.nolimit.keeps λ b o e=>(M.bs b o e).1
Around.under_plainId F.plain_proto_collect _
(.ins t.c_Bundle dx (bx \"size\" (.int n) []))
⟨n,y.1,y.2.1,y.2.2⟩
⟨_,rfl,eT rfl (a4 H4 (s'.trans s4) ?_)⟩
⟨_,e,rfl⟩
some Za
pendingOf s
lo.lk.tp e he
kT j.heap H
has.map V.ref
fV (fs.lookup f) (mA f)
Vals dvs ds
U.map V.ref
Iti a o kvs
(λ b u _ _ j e _=>⟨u.slots,k b u j e⟩)
(kq (K:=K) T)
(g i j)
(dh (K:=K))
(bf ZQ Z1p)
(I.base.free b o e n f)
(Heap.SameBut.refl _ _)
(A.A.brkE ln)
⟨rfl,λ v F=>h.all v (p.mem_iff.mp F)⟩
⟨rfl,lo,rfl⟩
lo.tw T0 (Fg hT)
absurd z (noA b)
[\"self\",\"event\"]
Gn PyProof.Rows.F.entry_set_update_loop ?_
.ins t.c_Loom dx (bx \"ways\" (.ref wy) Z3d)
(bF ZZ Z4 ZQ ZC)
(.builtin \"max\")
⟨_,rfl,.inl ⟨rfl,_,SqL.of el⟩,?_⟩







List.range h.objs.size
IsItemIter s.heap it d i es.size ep ok ov
Gn F.entry_min_loop ?_
Gn F.entry_max_loop ?_
E8 Zm
.ins t.c_Descent dx []
(PySem.W.instObj C dx)
(.tuple [.int a.1,.int a.2.1,.int a.2.2])
⟨v,H',J.os,J.bare,J.base,J.hok,rv,q⟩
hk c o F.1 F.2.2.1 F.2.2.2.1 F.2.2.2.2 e
g.laid (t':=d.toks) (λ b u e=>ZG) Z9 ?_
M.mod.kin.keeps λ b o e=>(M.bs b o e).1
Around.under_plainId F.plain_list_iadd _
(thn (d pins s σ H Q I h) λ c f e=>?_)
⟨q,rfl,rfl⟩
⟨_,rfl,Z0G⟩
⟨((Ig _).trans p).trans ?_,jS.mp q⟩
thn (q pins L σ H1 _ d D) λ u N z=>?_
some ZY
some (.int at')
rawInt pos.line
putK kvs k v
out (W.sub _ z)
m.perm.append_right _
h1.symm.trans e
eval a X.env




dN A.many ns

arrOf F
aV (eP h hp ZA)
[\"self\",\"size\"]
[\"line\",\"name\"]
TWf n T
LoL.f7 hq hb
L.ths.set j q' 
Kr (J9 (Ha ?_))
KV kvs vs
Iv A fs xss nss
I.hok a _ ea
I.cell x c e
Heap.lt_size ho
E8 (E8 (Hq Zm))
Cls X.K C
AwO A xss
.type \"BaseException\"
.ref q2
.int c
(ln.set j m)
(d pins s σ H _ I h)
(cj (K:=K) Ze gF rfl)
(bg (bC ZQ))
(.refl _)
(.UnaryOp .Not a pos)
tm Zt lo.c.self rfl ZS (jO lo.c hj ?_)
nk n
kg I.hok e
h'.push fo
[\"_law_hand\",\"_law_state\",\"_law_word\"]
.ref c'
Vals xs us
T.keep _ _ _ t0 (λ b _ o e=>al b o e)
SqL.of O
Q V.non H'
Fb (h out _ e (λ b o q=>?_) he a1 ?_)







.seq out c
.ref q.2.1
(λ y=>?_)
(top 17)
(some (.builtin \"object.__setattr__\"))
(.ref D)
(.lst Z2O)
(.ins t.c_Event dx (evF v A.st l1 l2))
(.cons (.int _) (.cons (.int _) .nil))
⟨Z3,λ l hl=>?_⟩
wpAny M A (storeName X.env x u) Q E s
sortedHeap Zd s.heap.objs.size vs out
aV (g b _ q λ z=>z)
Option.some.inj this
HOk X.prog X.w H' h'
E8 (Ks (Gn F.entry_proto_collect ?_))
Array (Option Value)
(upd H l (.lst ls'))
(upd (upd H dx Z69) x (.ins C dx []))
(cF (fP (K:=K)) rfl T.no_list iu Z2B)
(bF ZZ (pv 7) bh ZC)
(.Subscript o i pos)
(.Attribute e f pos)
wpAny Z5 A (getMethod ZY m pl) Q E s
rawInt pos.col
e (h1.trans z)




backToKw pos (keywordEach kws X.env)

at_ mask s i p
aV (Ne.symm J)
Slot T name id
PyProof.Rows.IntsAre items.toList ns
FZ (Ne.symm e)
De t H D A xss
.ref l
.int ys.length
.int h
.int es.size 0
.inl ⟨rfl,_,a7 _ λ c u nc e=>e⟩
(h k F.1 (λ i hi=>?_) λ i a c=>?_)
(bN (cQ (K:=K) FH FK FJ bW Z0C Z0z))
(bB cx Z0C bh)
(.tup [Z2M,x])
(.lst (iV xs))
⟨⟨ys,ns,J,a2,?_⟩,F,_,_,rfl⟩
⟨t,rfl⟩
⟨[],[]⟩
⟨F,λ h a1 n' lt U=>?_,_,_,rfl⟩
⟨Array.Perm.refl _,rfl,rfl,rfl⟩
wpAny Z5 X.A (eval Z3P X.env) Q E s
sts.zip hbs
pI s.heap x dx C mA
congrArg (bind _) (funext λ z=>?_)
congrArg (bind _) (funext λ x=>?_)
congrArg (bind _) (funext λ s=>?_)
c3.th j q T' hq hTj
Value.ref a
NmL H ls ns
Itl K a
Array Value
.type \"int\"
.ref q1
.ref e'
(λ ah A outer s H vs Q E hr h=>?_)







(lo.c.held _ _ (lo.c.di.lets l hl))
(getMethod ov m pl)
(bf Z0s aZ)
(Obj.putSet es' t')
(F.mono Z3)
(.Name x p)
⟨rfl,λ u J=>h.all u (Fo _ J)⟩
wpAny Zh A (pyNext (.ref I)) Q E s
s.heap.IsKeyIter it d i es.size ep
FA (Nat.sub_one_lt_of_le i1 Z9) i2
.inl ⟨⟨xs,q,Z9⟩,hd σ H p⟩
(λ p q a b c=>gX sb p q Z5N b Z2)
(λ p q a b c=>gX sa p q Z5N b Z2)
(λ e' s''=>CX outer H s E e' s'')
(λ U A outer s H vs Q E hr h=>?_)
(F.args_dict_keyiterator_next_1 _)
(.builtin \"min.loop\" ⟨Z4d,[]⟩)
(.builtin \"max.loop\" ⟨Z4d,kw⟩)
⟨_,E9 ZV⟩
⟨_,E9 Z2⟩
⟨[ZY],[]⟩
wk e.1
some (.ref u)
s2 _ _ e1
rr3 _ _ _
rr2 _ _ _




rr1 _ _ _

ps.zip us
firstArgMember _ _
[\"_law_loom_here\"]
V.ref x.1
s2 _ _ e
SqL.of hq
SqL.of hd
S.keep kp (t v hv)
List ThA
I.ok.bs b o e
A.eH e.1
.tup [Za,.int x.2]
.ref q.p
.ref d
.int lo t
.int l.wd
.int hi u
.int d
.inr rfl
.inl h
(λ x=>x.1.isSome)
(λ j A outer s H vs Q E F h=>?_)
(tOp r ta tb)
(pv 8)
(dZ Z4n Ze (eY (bB cY Zj bh)) eO)
(cu 6)













































































































































































































































































































































































































































































































































(compareOp .NotEq)
(backToKw pos Z1y)
(arrOf s)
(W.frame _ _ _ L λ b hb o e=>?_)
(Itk a o kvs)
(A.take l pl)
(.tup ys)
(.tup (nV y))
(.lst (iV U))
⟨_,rfl,fin out h' c a b d e⟩







s.TypeIs Z0m \"dict_itemiterator\"
kat_no (kat_one _ _ (lt_int ?_))
bj.new (o:=.tup [.ref J,Z5K]) nq
[Z2k,.int T'.evs.length,.ref m1]
(λ _ s''=>CX outer H s E e s'')
(bf ZQ (bf (cE (bf gA Z0V)) aZ))
(PySem.W.methodObj Z0X (.ref y))
⟨⟨o,e,ex.1⟩,λ a l=>?_⟩
⟨rfl,rfl,rfl⟩
⟨c,H',I.fY,q⟩
⟨Z2,Z2,Z2,Z2⟩
t.put j
okD n d
lo.same s2
h.elim (λ e=>.inl e.symm) .inr
bj G G'
backToKw cpos Z1y
Option.some.inj e
Option.bind_eq_some_iff.mp T.hm
List Keyed
Fj ZA
E8 (F1 ?_)
But S H H'
.int st
(λ h' i F e=>y d j D h' i F e)
(λ b u j e=>⟨u,k b u j e⟩)




(λ b o f e=>(V.2 b f).trans e)

(some at')
(iV fs)
(bp st)
(bF Zp Z0C bh ZC)
(bF ZZ Z4 (bF Zp Z6Z bh ZC) ZC)
(PySem.F.args_dict_get_3 _ _ _)
(Fu ZK)
(FC Z4o (JC Z4o))
(.done (.ret ZI))
((Ig _).append (Ig _)).trans HC
⟨rfl,rfl,λ i j a b c=>?_⟩
tuples' true
some r
s07.trans s8
qs.map V.ref
iD t n
gC w t s.heap I a i es.size ep
eval b X.env
aV (ba e hl)
SqL K H a xs
PlainAttrs T
List Keyword
Gl X x
Fz (h n q M Y Z L λ _ _=>rfl)
False.elim j
Around.frames_deeper e0.frames
.inr ⟨q,JJ _ _ _ (.inl q)⟩
.inl z
(turns mask)
(hV K false)
(cE (bf (bF Zp Zj bh ZC) Z0V))
(S.at' λ o e=>U.heap a o V e)
(GY _)
(.tup [x,y])
(.ret .none)
(.int k tok)







((X.mg \"__name__\").getD .none)
⟨rfl,pw,b,g⟩
xs.toList.map rk
lo.wf.nt.sublist ((Iu).map _)
c.th i q T hq hT
PySem.W.instObj C j.objs.size
H _ (λ _ _ h=>h) λ _ _ h=>h
Fj Z3
Fj Z2
E8 (G6 j rfl ?_)
(λ b u _ _ j e _=>k b u j e)
(win t.mask i j)
(upd H p (.lst (xs.set j v)))
(lo.pts j T0 hT)
(lT rfl (K:=K) (P:=P) (w:=w))
(es.map (brD A))
(TP X pins σ Q)
(.tup (nV l.nm))
(.builtin \"min\")
(.builtin \"len\")
⟨.nil,aU,bj.new F,_,rfl⟩
wpAny Zh A (setWalk a) Q E s
sortedHeap_at (out:=out) hoL
s7 _ _ e
kY P w K mg base A outer s H
hls x hx




dk k X.A

d6 H v n
V.ref q2
V.ref q1
RelV v u
List.replicate W.length true
List Key
GJ.mp nd
.int i t
.int e.2
.int 1 v
.int 0 0
.inl (s3 _ _ (di.ways e he))
(some u)
(seqObj \"list\" vs.toArray n)
(seqObj \"list\" vs.toArray 0)
(bz (i:=5) ju.nd rfl Z6 Z0f)
(bL Z1t rfl T.no_len eM Z1p)
(.str x)
⟨v,H,I,r,h⟩
⟨us,kw⟩
⟨p,dx,dz,acc,lg,Z6A,Ls⟩
⟨n.typeIs,λ b q=>?_,z⟩
⟨_,hoL,rfl⟩
sortedHeap s.heap a vs out 
some Zv
s5.trans s6
rr4 _ _ _
q _ I.fresh
mem0 q (hpl.mem_iff.mp hq')
mem0 p (hpl.mem_iff.mp hp')
mC lo.tw l.nm.1
g.sub _ _ e
by simp
bx f v fs
bj.new Y _ _ ha
bj G H'







absurd z ZA
[\"used\",\"line\"]
W.trans Z0O
Th K t G H q T0
SqL.of el
SqL.of aU
PassesOwn Z5 X.A X.env X.xe
PT X a tA
PI X tg iter wi
PE X o to
PE X o td
PE X b tb
Option Addr
O.trans Z0O
I.list hq
Heap.get?_push_of_some _ g2
Fp (HK (Fz ?_))
E8 (listItems_at ho rfl ?_)
E8 (E8 (Ha ?_))
Asc rk a.toList
.tuple Zy
.tup [.int 9,.int 1,.int 0]
.tup [.int 0,.int 1,.int 7]
.ref ob
.ref f
.ref c2




.ref b1

.ref al
.list (n:=2) gy
.int x
.int ep 0
.inr h
.inl ⟨k,ji ndP hp hu k⟩
.inl (.inr ⟨o,e _ _ h⟩)
.bl false
(λ b o hb e=>bt b o Z5X e)
(upd Z0r q Z5T)
(pv 7)
(iV ln)
(cu i)
(compareOp .Eq)
(bz (i:=7) iq.nd rfl Z6 fh)
(Z1T).trans ((Z1T).trans e)
(Z0L).push Z0c 
(V.int y)
(PySem.W.looks_findIn X hi)
(Ne.symm W)
(LoL.kR hb)
(I.base.keep b o e n hb hx)
(Fc.mp O).1
(E b o e f)
(D.own A)
(.type T)
(.bool b)
(.bl b)
 String
⟨xs.length,Zq,FT _,h0⟩
⟨cl,?_,λ x c' e'=>?_⟩
⟨.int Z6u,H,Z2A,Z1_,q⟩
ps i x j ys _ G (y xs q) p
n pins J σ H1 M L Q j G F
jj X.N X.env.scope sc N' k
bT (λ _=>G1 _) λ _=>G1 _







bP P w H h a (gc P w a ks)
List.length_erase_of_mem j
.ins C s.heap.objs.size []
.inl ⟨rfl,_,SqL.of g1⟩
.inl ⟨rfl,_,SqL.of a7⟩
(λ x hx y hy E' Q' q=>?_)
(vs.map (rf s.heap)).Nodup
(vs.map (cR s.heap)).Nodup
(Obj.data_mapDictKeys q _)
(.tup [Z6X,.int u,.int p])
(.bl (gE A.A yss ns' ln1))
⟨c,rfl,h2⟩
⟨_,ZH,rfl⟩
some (.ref ds)
kQ X pins H' b
hl i σ H hi p
h.imp λ h e=>h (j _ _ e)
cP A.wy k n q 
bP P w H h a o
SqT.of (d.de.lets l d.hl)
SqL.of ll.self
Lnm H l qs nss
J _ _ Z2 Z2 Z2
I.base.slot b o e n hb hx
Fl z
Fl Z2




FZ (Ne.symm z)

E9 hi
DecidableEq κ
D.qs.map V.ref
Around.under_plainId Ir _
.type \"dict_itemiterator\"
.inl (SqL.of (s5 _ _ ep))
(σ.set i Z4c)
(λ _ _ q=>Zz)
(upd H p (.ins C dx fs'))
(tC (V.int 5))
(rule \"list.sort.gallop\")
(putK kvs k y)
(lo.wf.wi e0 he0 m).mp hm
(l pos pins s σ H _ I h)
(j pos pins s σ H _ I h)
(hp.size_eq.trans (Ik _))
(h pos pins s σ H _ I j)
(call Z14 [x])
(cA (K:=K) ZQ)
(bs.map V.ref)
(Nat.le_sub_one_of_lt q1)
(LoL.f7 hr hb)
(.type \"bool\")
(.lst (ls.map λ x=>Z9d))
(.Assign [Z5l] value pos)
z.sameBut hs (cne y c e)
xss.map cn
st.at λ o e=>k g ZA o e
kp _ _ (ne h) (s4 _ _ h)
jd H a y o
iM I.hok e
hth j q hq
gt _ Z2 hm
gC w t s.heap I a i n ep
d.de.lls.at' _ q _ hq hx
c.mO Z9 (c.hok.fresh Z9)







bT (λ c1=>?_) λ c1=>?_
bP X.prog X.w Z4m h' a o
atKey xs k
W 0 m σ H
Vals vs us
Obj.data_mapDictKeys G _
Obj.data_mapDictKeys F _
MtR X id r
List.length_pos_of_mem j
Inv (X.jA E) pins σ H s
I.pin p hp
Heap.SameBut a s.heap h'
GA F.plain_extend_loop _
FN.mp (pm.mem_iff.mp hm)
E8 (HV Zm)
E8 (HV ?_)
A.A.ta.filter (A.A.dM O)
.type \"dict_keyiterator\"
.inl ⟨j,h1,s _ _ h2⟩
(λ c v j q=>k c v ?_ q)
(truthy v)
(some Z02)
(dq i)
(cf kvs k)
(cE (bf bh (bf bh Z4q)))
(bf Ze aZ)




(bB bU (bB cx ZQ bh) bh)

(Z2y).symm
(Z0R).trans (kp b o Z e)
(Z0R).trans (Z b o nb e)
(HF _)
(.tup [.int l.nm.1,Z2k])
(.builtin \"list.append\")
⟨rfl,l,l,rfl,U,M,L⟩
st3.trans st'
some Z5K
some Z4Q
some (.ref Y)
s12.trans s13
s1 _ _ y
s.heap.DictOfH knd d xs
s _ _ e
lo.wf.rg l hl
l.map f
d.val k
a.extract k i
Tri h v x y z
PE X value tv
Itr lo n
Hl.mpr (Ne.symm (Fu d))
Gq (x.above y c (Gg h))
F (λ i=>(h i).symm) h1
Es ta σ H vs
Code.quiet_builtin _ ZF
But q.ad H H'
.type \"slice\"
.type \"frame\"
.ref D.d
.int pl
(λ o=>.frz o (.own b))
(λ b o f e=>O b o f e)
(vw (K:=K) T)
(upd H p Z0S)







(upd H l Z03)
(upd H l (gc P w l ks))
(top 23)
(tC (V.int 2147483647))
(e9 (K:=K) T)
(cy P w)
(c8 rfl T.no_range Z0V)
(bits h)
(IP _ _)
(HT.sIx xs.length 0 lo)
(Fg hx)
(FP _ (FP _ (fI hb e)))
(A c z).2.2.1 x c e rfl
(.type \"StopIteration\")
(.str qual t)
(.ref (bs i))
(.own a)
(.ins C dx (bx f y fs))
⟨_,λ _ _ h=>h,?_⟩
tw.pt ((po.2 z).mp hz)
insertAt t.place Z2I j
i k pins j σ H1 Q d f
frame fr _ _ lo.c.self
OpR X (compareOp op) r
HX (iG I y z D ?_ B d)
Fj z




.tup [Za,Z4R,.int x.2]

.lst (dU pls none ZAa)
(λ q hq=>(fr q hq).1)
(w2.wi e0 he0 z).mp hz
(thn Z26 λ v k z=>?_)
(thn Z26 λ c j z=>?_)
(starEach [e,f] X.env)
(keyPart e.key).isSome
(hi pins s σ H _ I h)
(ha pins s σ H _ I h)
(dZ Z4n Ze eO (eY Zj))
(cj (K:=K) Ze Z3S rfl)
(FP _ (FP _ (fI F e)))
(.Slice lo hi none p2)
(.Call Z44 [] [] cpos)
xs.take j
us.map V.ref
tC (V.int 0)
s1 _ _ hb
s.heap.IsList l items
s _ _ h.self
nss.set h ns
lo.wf.rg l F
lo.lk.tp e F
k l _ (bj.new F) F aU
hashInt k
gD H G G' H'
cz Z2
bj G H
arrOf st3
absurd rfl h
aV (ba e nd)
[\"event\"]
WfD m c A
Tri s.heap u x' y' z'
SqT K H a xs
SqL.of ha







SqL.of (s713 _ _ ef7)
Small e.1
S.nd.sublist (Kb _ _)
Pv 0 σ H
PE X o ta
PE X l tl
PE X i ty
PA X es t
LnO A xss ln
List.range j
I.base.there b o e hx
Gz _
Fu (HP _)
Fp (bS z ?_)
False.elim h
E8 (Iw hit.typeIs Zm)
D.nx 
But [x] H H'
.type \"list_iterator\"
.ref I
.lst [ZCY,.ref o,Z00]
.inr ⟨z,Fo _ m,q⟩
.inr ⟨F,Fo _ m,q⟩
.inl e
.inl (.inl (e _ _ h))
.Pass Z4A




(λ n hn _=>mem _ hn)

(z pins s σ H _ I h)
(some Zl)
(s3.trans U).trans s5
(pv 9)
(l pins s σ H _ I h)
(keyKind' vs.toArray)
(j pins s σ H _ I h)
(intBits_le_64 h1 h2)
(i pins s σ H _ I h)
(cj (K:=K) Ze Zj rfl)
(bf Z1i Z4q)
(arrOf _)
(L.own A)
(J pins s σ H _ I h)
(G pins s σ H _ I h)
(Fc.mp h2).1
(.tup ((Z80).map kV))
(.lst zs)
(.lst es)
(.inl hk)
(.call (.ref fa) Z9U)
(.Call Z27 [] [] pos)
⟨true,rfl,iy ?_⟩
⟨_,rfl,Z2,Z2,Z2⟩
wpAny ZE A Z40 Q E s
lo.wf.wi e0 he0 l.nm
j b (F.mem_iff.mp G)
i pins k σ H1 Q f d
hV K false ZY Za H Q
fin out st' lk pm as
SqL.of d.de.lls.self
SP X pins D .next s'
List.replicate k its
I.base.there b o e f
Fun K x qual st f fd
FT _







E9 (l:=es) (i:=i) ZV
E8 (E8 (S.state Zm))
.seq its'.toArray d 
.ins t.c_Loom dx Z3d
.inr ⟨j,Z2,h2,e⟩
(sb.2 _ n1).trans hT
(hpl.map _).trans ?_
(bH Z5M Z9x Z3S Z0F)
(Stp.of s1).trans st
(PIE X pins σ tg R)
(List.range hs.size)
(List.range es.size)
(.lst (iV (kS i j)))
 Str
⟨po.1,λ v=>?_⟩
⟨_,ZDa⟩
⟨_,Z9f⟩
⟨_,Z7w,_,rfl,k⟩
⟨_,Z41,_,rfl,k⟩
⟨[],H,I,.nil,h⟩
⟨H,I,q⟩
t y.1 (mem0 y hy).2
t x.1 (mem0 x hx).2
s2.trans s3
s'.trans s4
nz t.mask i




ns.getD i 0

ls'.Perm ls
h vs.toArray Z7x ?_
eP th.self th.gg ZA
dU xs lo hi
c7.th j q T' hq hTj
absurd q ZA
aV (ba q c)
aV (ba e J)
V.int T0.evs.length
Tab mg base q.1 q.2
Small n
Seg rk xs 0 xs.size
O.map V.ref
Mod X.K X.mg X.base
List.replicate k xs
List ZU
List PyData
L.map V.ref
I.hok p _ d
I.hok b u e
F.shaped Z3
E8 (Iw j.typeIs Zm)
But [L.p,L.lg] H H'
Array (Z5V)
.ref wr
.ins t.c_Loom dx []
.ins t.c_Loom dx Zf
.inl Z2
.fields ps 
.Subscript o i pos'
(λ e=>Z2X)
(λ _=>Z1E)
(λ _ q=>q)
(upd H x o)
(s5 _ _ eb)
(ns.map PyData.int)







(ns.drop i)
(ks.map kV)
(iw N vs j)
(gQ (K:=K))
(collect x)
(bg gL)
(bf Ze Z0V)
(bf Z01 (bf ZM aZ))
(Ne.symm F)
(LoL.iK ZA)
(HA.mp e).1
(Fl J).symm.trans z
(Fj J).symm.trans z
(.tup (p.1.map kV))
⟨V,E1,z1,z2,F⟩
xs.map λ q=>q.2.1
s6 _ _ e
s3 _ _ e
s1 _ _ e
putSet_of es' t' j
o1 y c a
my S Y.hd M hl r x
lo.ta hn
jR Z2 hx
j3 I1 ea c hm l ?_
hl j y v' e1 e2 e3




codeAny_of_tree ?_

c2.th j q T0 hq hT
bj.new J
bj.new (o:=Z0H) nc
bj.new (o:=Z0H) a9
Un fs ex H H1 h h1
SqL.of (s' _ _ hp)
RelV x u
PE X e t
Option V
List.replicate m 0
I.base.tups b xs q
I.base.tbls b ps q
F.map cn
EP X pins σ Q w s
E8 (Jr ho1 rfl ?_)
.ref _
.lst ZAb
.int y
.inr z
.inl (LoL.f7 hr y)
.dT []
(upd H6 L.D.ta ot)
(ns.map WData.int)
(dr e)
(cu 5)
(cu 0)
(compareOp .NotIn)
(bH eX Z0s gA Z0F)
(args_list_sort _)
(a1.mem_iff.mp hq)
(a1.mem_iff.mp hp)
(HU hit.typeIs Zm)
(Fo _ j)
(.ref J)
(.dK [])
(.Tuple ex kk pos)







(.Tuple es kk pos)
⟨r,q,d,i,p,z⟩
⟨j,h1,h2.2.1⟩
⟨e,?_⟩
val j
t9 I.hok e
s.heap.update p f
q.keeps kp
pl i j ys H2 hi p
nofn y (c1 y c a)
knd.is s.heap k a
kat_lt e d L J ?_
gi I.hok J
eval e env
es2.toList.map ke
dj.reads I all rv
cP A.wy e0.1 n 0 
bE Z2
aV nc
[a.1,a.2.1,a.2.2]
Y b F
Vis X.env.scope x
Vals j its
U.seq (s3.seq ha)
T s.heap v
SqT.of hr1




SqL.of (s4 _ _ F)

Option.some.inj U
Option Int
NmL H J ns
Inv.made (C:=C) I
HeapKind prog w K
Fd.mpr rfl
E9 hj
E8 (KD ?_)
E8 (Gk ?_)
E8 (E8 (HN q Zm))
.lst [ZCc]
.int l0.to
.int (A.A.eH e.1)
.Name y py
(λ i hi V G=>?_)
(λ b o _ e=>ZEo)
(λ _ _ _=>False)
(yY a Z0w)
(yR wi k g tc te)
(hT q M).2
(eval iter X.env)
(bf Z4 aZ)
(bF ZZ ZQ Z2E ZC)
(Int.lt_irrefl _)
(I.ok.noex b o e)
(I.hok.fresh ZEd)
(.rng i j)
(.ret Z3y)
(.int Z6u s.toks)
(.Tuple es k pos)
(.Dict [] [] pos)
⟨p,ys,a,b,c⟩
⟨o,e,ex.2.1⟩
xs.map λ x=>Z9d
q n n1 n2 j j1 Z
lo.wf.wa l hl nt







k xss H' s' V al
h.at' i q xs a b
eP th.self hd ZA
eI (n:=2) ZAh Z3
eI (n:=1) Z4o Z3
aV (Ne.symm npw)
aV (Ne.symm npd)
a.extract at_ na
[\"value\",\"part\"]
FC I.ok.bsz I.sz
ExcAt s.heap x D
E8 (Ht (F1 Z4a))
Asc rk xs.toList
(λ r s4 hr=>?_)
(λ n s3 hI=>?_)
(λ c u nc e=>e)
(j.val k).getD D
(eval elt S.env)
(c.di.lets l hl)
(binaryOp .Mult)
(bF Zp ZQ bh ZC)
(bF ZZ Ze Zj ZC)
(bF ZZ Ze ZQ ZC)
(bF ZZ Z4 bh ZC)
(ZBg).1 (Je j).1
(Y.2.1.trans hk)




(U.2.1.trans hk)

(Heap.lt_size c)
(HU j.typeIs Zm)
(AP X pins σ Q)
(.tup [Z5K,ZF5])
(.tup [Z4R,Z9p])
(.ok (.ret p.2))
(.lst (iV A.ws))
(.cons rfl .nil)
(.builtin \"all\")
((Z72).pt ZBN).2
⟨o,h1,h2.1⟩
⟨_,rfl,rfl⟩
sq λ ae a8=>?_
sa _ _ el
s1 _ _ hp
s.heap.push Z2h
nus q qin
nk x.1
nF H P pos qual
model P w
lo.wf.wd e0 he0
k b u q
k b u (i b n) q
inF y c a
hcl x c e
h _ Z2A
ge _ hm
eI (n:=0) Z9 Z3
e0.hok.fresh Z9
dX _ _
codeAny_func ?_
cU Z8C λ y=>?_
cD rfl ?_
c x o (G x n) q
c (f b z)
arrOf z







a.toList.drop i
a.2.2 xs (Fg F)
[ZY]
Value.int k tok
V.ref y.1
SqT.of h1
SqL.of g4
SqL.of a4
SqL.of a2
PS X st t
PE X Z3P (tC v)
Mut (H x)
Lnm H' l qs nss
List α
List cV
Kr (kat_nil ?_)
JY _ Z2
Ite K l
I.type (M:=Z4w)
I.hok.fresh hge
G.toList.map ke
Fw.mp z
Fc.mp q
Fc.mp h
Fc.mp F
FZ (Ne.symm hj)




FI Z2

E8 (G9 T J8 ?_)
E8 (F1 (GN ?_))
De t H' D A xss
Asc rk b.toList
Array Nat
AllBare s'.gens
.ref pa
.ref b2
.inl q
.inl ZR
.inl (LoL.iK y)
(λ _ _ hh=>hh)
(trk h H)
(sb1.trans sb2)
(ng rk)
(n1 _ ZA)
(me rfl (K:=K))
(lcg M x)
(lB rfl (K:=K))
(iV ws)
(fN st)
(dH te t)
(cu 1)
(compareOp .In)
(cA (K:=K) Z1i)
(c.get m)
(by simp)
(binaryOp .Add)
(ba e ad)
(List.map_id _)
(Itt K a)
(ItemsOf.nil _)
(Fg h1)
(.tup (nV e.1))
(.tbl ps)
(.ref lb)







(.lst lx)
(.lst [.int 0])
(.lst (iV ln'))
(.call Z0X Z5Y)
⟨σ,H,I,h⟩
⟨u',r',?_⟩
⟨i.kIn,?_⟩
⟨a1,a2,a3⟩
⟨_,h1,rfl⟩
w2.lV hn nin r
some (.ref wd)
some (.ref lp)
q n n1 n2 j j1
n _ (Z4t).symm
ls'.map (fO H)
ls'.map (eJ H)
j.getD i false
hb.imp id .inl
h.update a Z9D
h.imp λ h=>Z2
g.hok.fresh Z9
g.held _ _ ZC5
fg i n b v L M
eU lo.wf.nd hl
e0.hok.kept hk
bP P w H h a u




at_ mask a i p

aV (ba e hacc)
aV (Ne.symm L)
Z h a1 n' Z2 U
SqT X.K H a xs
SqL X.K H a xs
Meth X.K C m f
I2.mO hC hfree
I.freeC x c hc
Heap.lt_size j
Good t es.size
Fj h
Fj (λ z=>Z8Z)
Fb ⟨Z30,z⟩
FZ (Ne.symm g)
E8 (Iy ?_ Z5N)
E8 (Gw F j ?_)
Array GenState
AllBare s.gens
.lst [Z97,Z7r]
.inr ⟨e,h⟩
.inr (.inr ZR)
(λ b u q=>Zz)
(λ b o e=>ZG)
(vv 13 i p hi)
(upd H1 a Z0g)
(tC (V.int 6))
(tC (V.int 4))
(cA (K:=K) Z4)
(bB cY Z01 bh)
(bB bU Z2E bh)
(bB bU Z0C bh)
(ZFo).filter p
(Z7X).trans ?_
(Z5Z).trans s5
(Z4x).trans e1
(Z3k).trans s6







(Z2g).trans e1
(Obj.mapSeq f)
(.tup [Z8B,v])
(.lst (iV ys))
(.lst (iV Zs))
(.cons Zt Z1O)
⟨xs,q,Z9⟩
⟨_,j,rfl⟩
⟨J,h1,h2⟩
⟨H,Z2A,q⟩
th.held _ _ z
some ZAX
some (.int k)
some (.int b)
s5 _ _ e
s4 _ _ e
s2'.trans Z3k
s.heap.get? b
s' _ _ e
rf s.heap p.1
rest _ _ _ ?_
pendingOf st2
lo.pts i T1 z
lo.eH he
leap mask i 0
lY kvs k




jh K H ZY Z15

ij A xss ln n
id I.loc
iV ns
iV fs
hfp b hb
fF _ _ e
eU lo.wf.nd O
e0.hok c _ z2
d7.held _ _ e
d5.held _ _ e
cR s.heap p.1
bt5 _ _ np hp
bq N ps scope
bj.new j
bj G' H'
absurd rfl h2
[\"loom\"]
X.drop i
SqT.of L
SqL.of e
SqL.of Z
SqL.of W
SqL.of J
SqL K H' a xs
Sem Unit
Sem Bool
RelV x v
PSs X body tb
O _ _ th.self
Ne.symm (W e)
Nat.le_refl _
Nat.le_refl 1
Lls H l F xss
Lk ths A
List Nat
List EvA







J _ _ h1
I.hok T _ tab
I.cell x c hc
Hv.mpr h
Hl.mpr h
H.push V
H.push J
Fw.mp hx
Fw.mp hv
Fu (FA ZK a6)
Fq he
Fl h
Fg hv
Fc.mp hq
Fc.mp hi
FU.mp a1
Ev te σ H ZY
ElemsOf Z1B l
E8 (Jf T1 ?_)
Asc rk X
A.A.ta.take i
.str x t
.lst ls'
.lst (iV ln1)
.int i s.toks
.inr Z0a




.inr Z0I

.inl λ z=>?_
.inl Z87
.inl Z0a
(λ i hi=>?_)
(yw (K:=K) T)
(yJ (K:=K) T)
(yH (K:=K) T)
(xT (K:=K) T)
(xS (K:=K) T)
(xP (K:=K) T)
(xI (K:=K) T)
(x9 (K:=K) T)
(vJ Z2 Z2 Z2)
(upd H l ZA6)
(top 35)
(some k)
(some 0)
(sizeAbove n)
(s711 _ _ eo)
(s611 _ _ el)
(rh (K:=K) T)
(qT (K:=K) T)
(mw (K:=K) T)
(lS (K:=K) T)
(getItem o i)
(frs X.stack)
(fO H v)
(eJ H v)
(dj.same e a)
(bB cx Ze bh)
(bB bU Ze bh)
(SP X pins D)
(L.D.own A.A)
(I.jA _)
(I.cne x c e)
(Fo _ q)







(Fo _ F)
(F.map V.ref)
(.tup [Za,v])
(.tup (nV x))
(.ref z)
(.ref t.f_dm)
(.ref t.f_dl)
(.ref t.f_dj)
(.ref t.f_dh)
(.ref t.f_de)
(.ref t.f_dd)
(.ref t.f_cz)
(.ref t.f_cy)
(.ref t.f_cx)
(.ref t.f_co)
(.ref t.f_cn)
(.ref t.f_cm)
(.ref t.f_ck)
(.ref t.f_cd)
(.ref t.f_cc)
(.ref t.f_cb)
(.ref t.f_ca)
(.ref t.f_bo)
(.ref t.f_bn)
(.ref t.f_bg)
(.ref t.f_bd)




(.ref t.f_bc)

(.ref t.f_ax)
(.ref t.f_aw)
(.ref t.f_av)
(.ref t.f_au)
(.ref t.f_ap)
(.ref t.f_ak)
(.ref t.f_ai)
(.ref o)
(.own f)
(.lst (iV j))
⟨rfl,hD⟩
⟨o,e,ex⟩
⟨o',j,q⟩
⟨[u],[]⟩
⟨[a],[]⟩
⟨ZGL,dl⟩
⟨H1,d,f⟩
upd H7 r Z4e
u0 Y Z h1 h2
s9.trans s10
s13.free nwd
rV K D
pre_splitW j
nm.all x ZFK
mJ.shaped Z3
lo.wf.rg l O
lo.wf.rg l J
lo.pts i T J
lo.lk.tp e U
kin _ _ look
kT h H
jh K H ZY ZO
jN po.1 this
hT r O
h x Fn
h _ _ Z2A ?_







h _ ?_
gu w a ep es
dk k callerA
dk k A
dN A.many xs
absurd h2 ZA
[Zg,Z2k,Z5K]
Vals ys its'
SqL.of th.gg
PE X Z3P ZCm
O i T xs J h
Nx.mk hj Z2S
Lk A.ths A.A
List.range m
IE _ _
I.kept (L J)
Fz Z10
Fo _ z
Fl q
Fj q
False.elim z
FX rfl
Eo mg base t
But [q] H H'
A.deeper Z0P
.ref e




.ref V

.ref O
.lst J
.lst (iV w2)
.Name x pos'
.Name \"\" Z4A
(λ _=>none)
(upd H x o')
(upd H a u')
(upd H a ob)
(sC K)
(s5 _ _ ZEm)
(s07 _ _ hp)
(newList [])
(gi I.hok F)
(fF _ _ j).1
(cz hi).symm
(collect ZY)
(bg (bC fX))
(bf Z0s Z9C)
(arrOf st'')
(Z6Q).same s
(Z3s).c.self
(Y.deeper _)
(Ne.symm nl)
(Ne.symm na)
(Ne.symm nI)
(Ne.symm am)
(Fg O)
(Fc.mp hT).1
(FA Tlt hge)
(.frz o' v')
⟨o,e,c⟩
⟨nI,ne⟩
⟨h1,h2⟩
⟨_,B,q⟩
z.reads I L







vals2 r
upd H O Z1V
thP hq x hx
s8.trans s9
s _ _ z
nm _ (Fq G)
nex' iv
lo.same s07
ll8.same s9
l.set j Z4c
kp S _ M hS
key _ Z2 Z2
k2 n n1
k b c q
k a _ Z1x e
h j _ Z2A i
eqV y x
dc L hz
cnt Z1m
cW hv
cP wy k n q
cI e
c.nd1 ZA hb
bq N ps ZAc
bj.new hacc
bE ZV




all _ _ ec'

again I7 n7
aV λ z=>?_
aV (ba q g)
aV (ba q F)
[z,L,M,R,S]
Vals [x] us
U _ _ e
ThN t H q s
St 0 s.heap
SqL.of el12
PA X [a] ta
NmL H' J ns
LoL.f7 hq z
Kw g4 i
JD λ z=>?_
J _ _ e
Gx this
GV.mp h
G6 q rfl ?_
Fw.mp m
Fw.mp J
Fo _ hb
Fl h2
Fl Z3
Fj h2
Fc.mp J
FN.mp Z
FI Z9
F7 _ Z2
F1 ?_
F.reads I M
F.2.2 i a c
ExcAt h x D
E8 (Fb Z4a)
Decidable c
Cls K C







BrO A H v e
.refl _
.ref q3
.ref l0.adr
.ref e0.2.1
.ref dz
.ref (bs m)
.ref (bs 0)
.lst (iV J)
.inl hb
.inl e2
.inl ?_
.bool false
(λ n=>Z1J)
(λ i=>ZH_)
(λ e=>Z9V)
(λ _=>rfl)
(xs.take i)
(val i)
(upd H p o)
(upd H l o)
(uO (K:=K))
(tG gv)
(newF c hc)
(j4 (K:=K))
(hV K true)




(fP (K:=K))

(f v u)
(eA Z2)
(e.trans z)
(dH Z9z gv)
(bsL A)
(bj.new hq)
(bf Zj Z3J)
(bf ZGd aZ)
(ZEq).Nodup
(Z.mono Z3)
(X.jA E).Ok
(Ne.symm i)
(LoL.iK Zq)
(I.ok.hd j)
(I.ok.hd M)
(I.ok.hd A)
(Gp (HP _))
(Fu lt)
(Fg a1)
(Fc.mp W).1
(Fc.mp G).1
(FA lt hge)
(.ok .next)
(.list ZBP)
(.frz o Zu)
(.done ZB8)
⟨z,?_⟩
⟨q,Z9⟩
xss.take i
wf.rg l hl
s3 _ _ Z9e
putK d k v
noDicts xs
lo.tw T1 y
lo.same s0
ll.same s4







knd.room A
k4 c u n e
k3 n n1 n2
iw N vs ws
hn y Fn hy
hT X.w p.1
hR H11 Z4p
h2 z hz hf
h.ok I.hok
h.all v Fn
cL e
c.gn b ZDv
c.gn b Z7f
bj.new hkb
b9 X.K C m
b9 X.K C f
absurd e z
Z.snoc Z6B
Z S _ O hS
Un.kept hk
SqL.of eq'
SqL.of el2
SqL.of ZI8
SqL.of ZC8
Small l.nm
Rd H a Z2e




PGs X es u

Ne.symm rl
Ne.symm n1
Mk X.K C f
LnO.top aw
L j ty k q
J I ZA o e
I.tuple hq
Fu (Gx ha)
FG (ZLW).1
FC h.2.1 l
F.shaped l
F.2.1 i hi
E8 (Iy ?_)
E8 (GZ ?_)
DiL.fR he0
AllBare g'
AlW A fs z
A.A.brk ln
.str \"use\"
.plain Z2M
.lst [ZCX]
.int (g i)
.inl (O _)
.Name x p0
(λ b=>?_)
(z v F).of
(stat fr3)
(some Z5l)
(some Z21)
(s8 _ _ e)
(rawInt j)
(o.getD d)
(bj.new W)
(ah rfl U)
(ag _ _ e)
(V n).mp q







(U _ _ ha)
(P.zip vs)
(O i z hi)
(L.free W)
(L.free V)
(DiL.fR F)
(.yield c)
(.tup ZIB)
(.lst fs')
(.lst ZAo)
(.lst Z6n)
y c _ _ D
tp.1 i Z2
top 43
t v hv
some l.nm
s6 _ _ f1
s5 _ _ ep
s3 _ _ hb
s3 _ _ e2
qY T H H1
q k k1 k2
pm l J
old _ _ z
okD.all h
memT x hx




lowm i Z2

lo.ta2 hn
ll.same O
kp _ _ ho
k _ _ _ z
je f y fs
jb A H' v
jG F m0 z
j b G
iy ?_
id S
i0.mpr Z2
hv j v pv
hv 0 v pv
ho2 k ZGt
hd σ H p
hJ r z
h.all u F
h.2 i _ j
h _ ?_ ?_
gt j _ hj
fK r.up j
f9 ?_
es.take k
eT rfl ?_
e.trans t
dB hz
cz k2
cy prog w
bj.refl _
bj.new hl
ba h nx y
b _ _ n h
aV ZCt
a4.seq ha
[v,ov,iv]
U b o Y e







T.pt y
SqT.of gk
SqT.of e1
SqT.of aU
SqL.of h7
SqL.of er
SqL.of ea
SqL.of e7
SqL.of e6
Rd H a Zk
Q .non H'
PT X c tc
PG X tg g
PE X e ta
List q
Kg _ _
JS st.1 q
JF Z9
I.tuple n
I.tuple i
I.list q2
I.list q1
Gx lt
Ge _ h
Fl e
Fl (Fq M)




Fj Fv

Fb Zm
Fb (E8 B)
FX z'
FQ z
DiL.fR m0
Array Int
A.A.brk F
.str x
.ref x
.ref L.wr
.int z
.int u
.int s
.bl b
(vx K)
(tCB r t)
(mF e)
(kV k)
(gc.ok S)
(f x)
(eJ H Za)
(cw s)
(cu 8)
(cu 7)
(by simp)
(ba e a9)
(arrOf V)
(O b o e)
(Gq U)
(Gb z)
(Fb h)
(F.map _)
(.tup Zy)
(.ok ZB8)
(.done c)
(.dT Z7V)







(.dK Z7V)
z (FX y)
yx Z2 Z2
yt h j k
w.wd j F
vals1 r1
vI r f.1
some ZM9
some ZLg
some ZCc
some Z8i
some Z3L
some Z2M
some Z1g
sm _ _ e
sg _ _ e
s4 _ _ h
s4 _ _ Y
s _ _ h2
s _ _ h1
r.zq k d
r.get ha
r.get h2
q.map ke
nk l0.nm
nk (f e)




mem i hi

lo.at hj
jj.of hk
jb A H v
i9 h0 h1
i9 Z2 Z2
hk _ _ q
hR H4 s4
h.get? a
gG d k v
g8 hp ha
eT Z3 ?_
d.atq hq
bj.new Y
ae _ _ _
a3 _ _ e
Vis sc x
U.mono J
SqT.of Y
SqT.of F
SqL.of Y
SqL.of U
SqL.of F
Rd H a u
N'.zip N
L.take j
J.take i
J _ _ h2
IJ j rfl
I.list m
I.list i
I.list U
Hz.mp hp
Fw.mp ty
Fw.mp hd
Fj e
FP _ ZJf







FN.mp he
F.take j
Asc rk Y
.ref acc
.lst pls
.lst ZHd
.list []
.int x.2
.int n.1
.int m t
.int Z9k
.int Z6u
.inr ZLj
.inr Z9t
.inl Z9t
.bl true
(yh K t)
(y xs q)
(top 32)
(tC Z2M)
(some x)
(some e)
(q x Fn)
(pP lam)
(mB _ U)
(mA _ O)




(ko rfl)

(cg Z4q)
(cC ZCk)
(c.xM h)
(ZEr).fB
(X.Em F)
(Kf X k)
(FW _ G)
(.ref W)
(.ref U)
(.inr x)
(.inl i)"
end
section
open Lean in
local macro_rules
|`($x:ident)=>do
 match x.getId with
 |.str .anonymous s=>
  let l:=if s.front=='Z'then(Rd.tab.splitOn "\n").getD (s.toList.tail.foldl (fun n c=>n*75+c.toNat-47) 0-1) "" else ""
  if l==""||s=="Z" then Macro.throwUnsupported else return ((l++")").toList.foldl Rd.step ⟨[],'(',' ',#[],#[],""⟩).c.back!
 |_=>Macro.throwUnsupported
section
open PySem PySem.W PySem.Spec PyProof.Rows PySem.Calls
abbrev E8:=@wpAny_bind
abbrev E9:=@List.getElem?_eq_getElem
abbrev Fb:=@wpAny_pure
abbrev Fc:=@List.getElem?_eq_some_iff
abbrev Fd:=@List.mem_singleton
abbrev Fe:=@List.length_map
abbrev Ff:=@List.getElem?_map
abbrev Fg:=@List.mem_of_getElem?
abbrev Fh:=@List.length_append
abbrev Fi:=@List.mem_cons
abbrev Fj:=@if_neg
abbrev Fl:=@if_pos
abbrev Fm:=@List.mem_append
abbrev Fn:=@List.mem_cons_self
abbrev Fo:=@List.mem_cons_of_mem
abbrev Fp:=@wpS_bind
abbrev Fq:=@List.mem_map_of_mem
abbrev Fs:=@Array.length_toList
abbrev Ft:=@List.not_mem_nil
abbrev Fu:=@Nat.ne_of_lt
abbrev Fv:=@Bool.false_ne_true
abbrev Fw:=@List.mem_map
abbrev Fx:=@Bool.false_eq_true
abbrev Fy:=@List.length_singleton
abbrev Fz:=@wpS_pure
abbrev FA:=@Nat.lt_of_lt_of_le
abbrev FC:=@Nat.le_trans
abbrev FD:=@List.size_toArray
abbrev FE:=@Int.toNat_natCast
abbrev FF:=@List.map_append
abbrev FG:=@List.getElem?_set_self
abbrev FH:=@PySem.F.plainAttrs_list
abbrev FI:=@List.getElem?_append_right
abbrev FJ:=@PySem.F.type_list_append
abbrev FK:=@PySem.F.slot_list_append
abbrev FL:=@List.map_cons
abbrev FN:=@List.mem_filter
abbrev FO:=@Array.getElem?_eq_getElem
abbrev FP:=@List.mem_append_right
abbrev FQ:=@List.getElem_of_mem
abbrev FR:=@Int.eq_ofNat_of_zero_le
abbrev FT:=@Nat.zero_le
abbrev FU:=@List.pairwise_append
abbrev FV:=@List.length_cons
abbrev FW:=@Int.emod_lt_of_pos
abbrev FX:=@decide_eq_true
abbrev FY:=@List.map_congr_left
abbrev FZ:=@List.getElem?_set_ne
abbrev F0:=@List.length_take
abbrev F1:=@wpAny_holding
abbrev F2:=@Array.getElem?_toList
abbrev F3:=@decide_eq_true_eq
abbrev F4:=@List.getElem?_append_left
abbrev F5:=@Bool.and_eq_true
abbrev F6:=@List.length_filter_le
abbrev F7:=@Int.emod_nonneg
abbrev F8:=@or_false
abbrev F9:=@List.map_map
abbrev Ga:=@wpAny_mono
abbrev Gb:=@of_decide_eq_true
abbrev Gd:=@List.append_assoc
abbrev Ge:=@List.mem_append_left
abbrev Gf:=@List.append_nil
abbrev Gg:=@PySem.mem_of_lookup
abbrev Gi:=@if_false
abbrev Gj:=@wpAny_call_entry
abbrev Gk:=@wpAny_newObj_type
abbrev Gm:=@decide_eq_false
abbrev Gn:=@codeAny_builtin
abbrev Gp:=@Nat.ne_of_gt
abbrev Gq:=@Nat.le_of_lt
abbrev Gr:=@List.getElem?_eq_none
abbrev Gs:=@decide_eq_false_iff_not
abbrev Gu:=@Array.toList_append
abbrev Gv:=@wpS_forRange
abbrev Gw:=@wpAny_dictEntries
abbrev Gx:=@Nat.lt_succ_of_lt
abbrev Gy:=@List.pairwise_map
abbrev Gz:=@Int.le_refl
abbrev GA:=@plainId_quiet
abbrev GB:=@List.take_add_one
abbrev GC:=@List.nodup_append
abbrev GD:=@wpAny_of_eq
abbrev GF:=@Array.getElem?_eq_none
abbrev GG:=@sizeLine_eq
abbrev GH:=@Nat.lt_of_le_of_lt
abbrev GJ:=@List.nodup_cons
abbrev GK:=@List.length_set
abbrev GL:=@Option.map_eq_some_iff
abbrev GN:=@wpAny_truthy_bool
abbrev GO:=@List.eq_nil_of_length_eq_zero
abbrev GP:=@PySem.W.kia_one
abbrev GR:=@Nat.zero_add
abbrev GS:=@List.ne_nil_of_mem
abbrev GU:=@List.filter_append
abbrev GV:=@List.mem_iff_getElem
abbrev GW:=@List.filter_cons
abbrev GX:=@Array.toList_extract
abbrev GY:=@Nat.lt_irrefl
abbrev GZ:=@wpAny_rule
abbrev G4:=@Nat.sub_self
abbrev G5:=@List.getElem?_inj
abbrev G6:=@wpAny_updateSeq
abbrev G8:=@List.take_append_drop
abbrev G9:=@wpAny_isInstance
abbrev Ha:=@wpAny_eqBool_int
abbrev Hb:=@List.take_length
abbrev Hd:=@List.pairwise_cons
abbrev He:=@List.map_singleton
abbrev Hf:=@List.lookup_cons
abbrev Hg:=@wpS_mono
abbrev Hh:=@wpAny_callSpecial?_slot
abbrev Hi:=@Bool.not_eq_true'
abbrev Hj:=@size_of_entries
abbrev Hk:=@Option.map_some
abbrev Hl:=@beq_eq_false_iff_ne
abbrev Hn:=@List.take_of_length_le
abbrev Ho:=@Bool.not_true
abbrev Hq:=@wpAny_askSetting
abbrev Hr:=@decide_eq_decide
abbrev Hs:=@List.all_eq_true
abbrev Ht:=@wpAny_tryCatch
abbrev Hu:=@tupleKind_room_in1
abbrev Hv:=@beq_iff_eq
abbrev Hw:=@List.mem_range
abbrev Hx:=@List.getD_eq_getElem?_getD
abbrev Hy:=@List.exists_cons_of_ne_nil
abbrev Hz:=@Array.perm_iff_toList_perm
abbrev HA:=@Array.getElem?_eq_some_iff
abbrev HB:=@if_true
abbrev HC:=@List.perm_append_comm
abbrev HD:=@List.length_replicate
abbrev HE:=@List.pairwise_iff_getElem
abbrev HF:=@Nat.le_succ
abbrev HG:=@List.getElem?_of_mem
abbrev HH:=@List.ext_getElem?
abbrev HJ:=@Array.toList_push
abbrev HK:=@wpS_modify
abbrev HL:=@wpAny_attempt
abbrev HM:=@List.replicate_succ
abbrev HN:=@wpAny_typeNameOfWhole_itemiter
abbrev HP:=@Nat.lt_succ_self
abbrev HR:=@List.filter_cons_of_pos
abbrev HS:=@Array.size_map
abbrev HU:=@wpAny_typeNameOfWhole_keyiter
abbrev HV:=@wpAny_letGo
abbrev HW:=@wpAny_isOneOf_itemiter
abbrev HX:=@wpAny_Call_Name_kw
abbrev HY:=@decide_eq_true_iff
abbrev HZ:=@wpAny_passesOwn
abbrev Ia:=@wpAny_dictEpoch
abbrev Ib:=@Bool.eq_iff_iff
abbrev Ic:=@wpAny_notOrdered_dict
abbrev Ie:=@PyProof.Rows.callWith_type1
abbrev Ig:=@List.reverse_perm
abbrev Ih:=@List.length_range
abbrev Ii:=@Array.getD_eq_getD_getElem?
abbrev Ij:=@List.extract_eq_drop_take'
abbrev Ik:=@pairsOf_size
abbrev Il:=@Nat.le_of_eq
abbrev Im:=@Array.toList_map
abbrev Io:=@List.drop_eq_getElem_cons
abbrev Ip:=@eq_false_of_ne_true
abbrev Iq:=@PySem.W.plainGet_of
abbrev Ir:=@PyProof.Rows.F.plain_set_update_loop
abbrev Iu:=@List.filter_sublist
abbrev Iw:=@wpAny_typeNameOf_keyiter
abbrev Iy:=@wpAny_newList
abbrev Iz:=@wpS_get
abbrev IA:=@List.forIn_cons
abbrev IB:=@List.find?_cons
abbrev IC:=@wpAny_setField_rec
abbrev ID:=@decide_true
abbrev IE:=@List.pairwise_singleton
abbrev IG:=@List.filter_cons_of_neg
abbrev IH:=@wpAny_setField
abbrev II:=@wpAny_seqItems
abbrev IJ:=@wpAny_fieldsOf
abbrev IK:=@bne_self_eq_false
abbrev IL:=@Nat.lt_trichotomy
abbrev IM:=@List.filter_eq_nil_iff
abbrev IP:=@List.drop_sublist
abbrev IQ:=@Bool.not_false
abbrev IT:=@List.mem_iff_getElem?
abbrev IU:=@List.Perm.append_left
abbrev IV:=@wpAny_call
abbrev IW:=@not_or
abbrev IY:=@List.Nodup.length_le_of_subset
abbrev IZ:=@listUpdate_at
abbrev I0:=@List.sum_cons
abbrev Ja:=@codeAny_call_builtin
abbrev Jb:=@Int.lt_iff_le_and_ne
abbrev Jc:=@Array.toList_reverse
abbrev Jd:=@wpAny_specialOf
abbrev Je:=@List.of_mem_zip
abbrev Jf:=@wpAny_typeOf
abbrev Jg:=@decide_false
abbrev Jh:=@codeAny_mono
abbrev Ji:=@Nat.add_zero
abbrev Jj:=@List.all_map
abbrev Jk:=@PySem.W.kla_fn
abbrev Jl:=@PySem.W.callWith_K
abbrev Jm:=@List.find?_eq_none
abbrev Jn:=@Bool.false_and
abbrev Jo:=@List.mem_of_find?_eq_some
abbrev Jp:=@wpAny_pyIter_slot
abbrev Jq:=@wpAny_pyIter_list
abbrev Jr:=@seqEpoch_at
abbrev Js:=@Nat.lt_of_succ_lt
abbrev Jt:=@List.flatten_cons
abbrev Ju:=@List.getElem?_take_of_lt
abbrev Jv:=@List.any_cons
abbrev Jw:=@List.all_cons
abbrev Jx:=@Bool.true_and
abbrev Jy:=@wpS_lift
abbrev Jz:=@wpAny_execs_cons
abbrev JA:=@beq_self_eq_true
abbrev JB:=@PySem.F.plainAttrs_dict
abbrev JC:=@Nat.succ_le_succ
abbrev JD:=@Nat.lt_of_not_le
abbrev JE:=@List.mem_flatMap
abbrev JF:=@List.map_snd_zip
abbrev JG:=@List.length_drop
abbrev JH:=@List.getElem?_replicate
abbrev JI:=@call_meetsIn
abbrev JJ:=@PySem.W.cellsFrom_some
abbrev JK:=@Nat.lt_trans
abbrev JL:=@wpAny_execs_nil
abbrev JM:=@List.range_succ
abbrev JN:=@List.find?_some
abbrev JO:=@PySem.W.methodCall_KW
abbrev JP:=@PySem.F.slot_dict_get
abbrev JQ:=@List.set_getElem_self
abbrev JR:=@Array.getElem_extract
abbrev JS:=@wpAny_pyIter_keyiter
abbrev JT:=@List.reverse_reverse
abbrev JU:=@List.replicate_succ'
abbrev JV:=@List.reverse_append
abbrev JW:=@List.getElem?_range
abbrev JX:=@List.filterMap_cons
abbrev JY:=@Nat.mod_lt
abbrev JZ:=@Nat.lt_of_le_of_ne
abbrev J4:=@List.zip_cons_cons
abbrev J5:=@List.lookup_append
abbrev J6:=@Int.lt_of_le_of_lt
abbrev J7:=@wpAny_storeSet_of
abbrev J8:=@sub_set_self
abbrev J9:=@kat_cons
abbrev Ka:=@Option.isSome_map
abbrev Kb:=@List.take_sublist
abbrev Kc:=@List.map_nil
abbrev Kd:=@Int.lt_trans
abbrev Ke:=@Int.le_of_lt
abbrev Kf:=@PySem.W.makes_of
abbrev Kg:=@Nat.le_add_right
abbrev Kh:=@List.getElem_mem
abbrev Ki:=@List.append_inj'
abbrev Kj:=@Array.toList_inj
abbrev Kk:=@wpAny_field
abbrev Kl:=@Nat.min_eq_left
abbrev Km:=@List.sum_append
abbrev Kn:=@List.nil_append
abbrev Ko:=@List.length_nil
abbrev Kp:=@List.foldl_cons
abbrev Kq:=@Bool.or_eq_true
abbrev Kr:=@kat_yes
abbrev Ks:=@wpAny_runValue
abbrev Kt:=@wpAny_newTuple
abbrev Ku:=@isSubtype_type
abbrev Kv:=@isSubtype_stop
abbrev Kw:=@entry_at
abbrev Kx:=@entryFor_alias
abbrev Ky:=@call_meets
abbrev Kz:=@List.nodup_nil
abbrev KA:=@Bool.and_false
abbrev KC:=@wpAny_standAt
abbrev KD:=@wpAny_handled
abbrev KG:=@Bool.false_or
end
namespace L2
open PySem PySem.Spec PyProof.Rows
noncomputable abbrev Key:=Sum Int Str
noncomputable def lz:Key->Value->Bool
 | .inl k,v=>Value.isInt k v
 | .inr x,v=>Value.isStrOf x v
noncomputable def DV (w:World):Key->Int
 | .inl k=>ZFy
 | .inr x=>hashStr w x
theorem cG:∀ {k:Key}{v:Value},lz k v=true->(∃ i t,k=Sum.inl i/\v=Value.int i t)\/(∃ x t,k=Sum.inr x/\v=Value.str x t)
 | .inl i,v,h=>by
  obtain⟨t,e⟩:=Value.isInt_shape (k:=i) (v:=v) h
  exact .inl ⟨i,t,rfl,e⟩
 | .inr x,v,h=>by
  obtain⟨t,e⟩:=Value.isStrOf_shape (x:=x) (v:=v) h
  exact .inr ⟨x,t,rfl,e⟩
theorem sS (i) (t):lz ZXk (ZBh)=true:=by simp[lz,Value.isInt]
theorem tE (x) (t):lz ZXj (ZOV)=true:=by simp[lz,Value.isStrOf]
theorem zW (a b):decide ((Sum.inl a:Key)=Sum.inl b)=(a == b):=by
 by_cases e:a=b
 ·subst e;simp
 ·have h:¬ (Sum.inl a:Key)=Sum.inl b:=λ q=>e (Sum.inl.inj q)
  rw[Gm h]
  exact(Hl.mpr e).symm
theorem zw (a b):decide ((Sum.inr a:Key)=Sum.inr b)=decide (a=b):=by
 by_cases e:a=b
 ·subst e;simp
 ·have h:¬ (Sum.inr a:Key)=Sum.inr b:=λ q=>e (Sum.inr.inj q)
  rw[Gm h,Gm e]
theorem zJ (a) (b):decide ((Sum.inl a:Key)=Sum.inr b)=false:=Gm (λ q=>nomatch q)
theorem yW (a) (b):decide ((Sum.inr a:Key)=Sum.inl b)=false:=Gm (λ q=>nomatch q)
noncomputable def cy (prog:Program) (w:World):PySem.KeyKind prog w Key where
 is:=lz
 hash:=DV w
 inj:=λ v a b ha hb=>by
  rcases cG ha with ⟨i,t,rfl,rfl⟩|⟨x,t,rfl,rfl⟩
  ·rcases cG hb with ⟨j,u,rfl,e⟩|⟨y,u,rfl,e⟩
   ·injection e with e1 _;rw[e1]
   ·exact nomatch e
  ·rcases cG hb with ⟨j,u,rfl,e⟩|⟨y,u,rfl,e⟩
   ·exact nomatch e
   ·injection e with e1 _;rw[e1]
 byValue:=λ k v h=>by
  rcases cG h with ⟨i,t,rfl,rfl⟩|⟨x,t,rfl,rfl⟩<;>rfl
 pyHash:=λ hv h=>by
  rcases cG hv with ⟨i,t,rfl,rfl⟩|⟨x,t,rfl,rfl⟩
  ·exact wpAny_pyHash_int h
  ·exact wpAny_pyHash_str h
 eqBool:=λ hu hv h=>by
  rcases cG hu with ⟨i,t,rfl,rfl⟩|⟨x,t,rfl,rfl⟩
  ·rcases cG hv with ⟨j,u,rfl,rfl⟩|⟨y,u,rfl,rfl⟩
   ·rw[zW] at h;exact Ha h
   ·rw[zJ] at h;exact SeqAt.EqAt.int_str i t y u _ _ _ _ h
  ·rcases cG hv with ⟨j,u,rfl,rfl⟩|⟨y,u,rfl,rfl⟩
   ·rw[yW] at h;exact SeqAt.EqAt.str_int x t j u _ _ _ _ h
   ·rw[zw] at h;exact wpAny_eqBool_str h
 «strs»:=λ k x t v h=>by
  rcases cG h with ⟨i,u,rfl,e⟩|⟨y,u,rfl,e⟩
  ·exact nomatch e
  ·injection e with e1 _
   subst e1
   cases v<;>rfl
theorem nR (prog) (w) (i) (t):(ZV1).is ZXk (ZBh)=true:=sS i t
theorem n8 (prog) (w) (x) (t):(ZV1).is ZXj (ZOV)=true:=tE x t
inductive V where
 | non|bl (b:Bool)|int (i:Int)|str (x:Str)|byt (b:Array UInt8)|flt (b:UInt64)|ref (a:Addr)|ty (n:String)
 deriving DecidableEq
def RelV:V->Value->Prop
 | .non,u=>u=Value.none
 | .bl b,u=>u=Value.bool b
 | .int i,u=>∃ t,u=Value.int i t
 | .str x,u=>∃ t,u=Value.str x t
 | .byt b,u=>∃ t,u=Value.bytes b t
 | .flt b,u=>∃ t,u=Value.float b t
 | .ref a,u=>u=Value.ref a
 | .ty n,u=>u=Value.type n
abbrev Vals:List V->List Value->Prop:=Paired RelV
theorem Vals.length (r:Z85):xs.length=us.length:=Z2y
theorem Vals.get:∀ {xs:List V}{us:List Value}{i:Nat}{x:V},Vals xs us->xs[i]? = some x->∃ u,us[i]? = some u/\RelV x u
 | _,_,_,_,.nil,e=>by simp at e
 | _,_,0,_,.cons r _,e=>by simp at e;subst e;exact⟨_,rfl,r⟩
 | _,_,i+1,x,.cons _ t,e=>by
  obtain⟨u,a,b⟩:=Vals.get (i:=i) (x:=x) t (by simpa using e)
  exact⟨u,by simpa using a,b⟩
theorem Vals.set (r:ZIg):∀ {xs:List V}{us:List Value}(i:Nat),Vals xs us->Vals (xs.set i x) (us.set i u)
 | _,_,_,.nil=>.nil
 | _,_,0,.cons _ t=>.cons r t
 | _,_,i+1,.cons q t=>.cons q (Vals.set r i t)
theorem Vals.append (h:Z85) (s:Vals ys ws):Vals (xs++ys) (us++ws):=by
 induction h with
 | nil=>exact s
 | cons r _ a=>exact .cons r a
theorem Vals.take:∀ {xs:List V}{us:List Value}(n:Nat),Vals xs us->Vals (xs.take n) (us.take n)
 | _,_,0,_=>.nil
 | _,_,_+1,.nil=>.nil
 | _,_,n+1,.cons r t=>.cons r (Vals.take n t)
theorem Vals.drop:∀ {xs:List V}{us:List Value}(n:Nat),Vals xs us->Vals (xs.drop n) (us.drop n)
 | _,_,0,r=>r
 | _,_,_+1,.nil=>.nil
 | _,_,n+1,.cons _ t=>Vals.drop n t
def fV:Option V->Option Value->Prop
 | some v,some u=>ZBd
 | none,none=>True
 | _,_=>False
def KV {κ:Type}:List (κ×V)->List (κ×Value)->Prop:=Paired λ(p:κ×V) (q:κ×Value)=>p.1=q.1/\RelV p.2 q.2
noncomputable def kV:Key->V
 | .inl i=>Z2M
 | .inr x=>ZVh
inductive HO where
 | lst (xs:Z11)
 | tup (xs:Z11)
 | dK (kvs:List (Key×V))|dT (kvs:List (List Key×V))
 | set (S:Int->Bool) (n:Nat)
 | ins (C dx:Addr) (fs:List (Str×V))
 | own (x:Addr)
 | xd (fs:List (Str×V))
 | met (f x:Addr)
 | rng (lo hi:Int)
 | frz (o:Obj) (u:HO)
 | tbl (ps:Z95)
 | ext (φ:Heap->Prop)
noncomputable abbrev Hp:=Addr->Option HO
noncomputable def upd (H:Hp) (a:Addr) (o:HO):Hp:=λ b=>if b=a then some o else H b
theorem aU:upd H a o a=some o:=by unfold upd;rw[Z1U]
theorem aV (h:b≠a):upd H a o b=H b:=by unfold upd;rw[ZMk]
theorem iI:upd Z4m a u=upd H a u:=by
 funext b;unfold upd;split<;>rfl
theorem eP {H:Hp}{a b:Addr}{o u:HO}(h:H a=some o) (h':H b=some u) (d:o≠u):a≠b:=by
 intro e;subst e;rw[h] at h';exact d (Option.some.inj h')
theorem ba {H:Hp}{a b:Addr}{o:HO}(h:H a=some o) (h':H b=none):a≠b:=by
 intro e;subst e;rw[h] at h';cases h'
section
variable (P:Program) (w:World)
def bP (H:Hp) (h:Heap) (a:Addr):HO->Prop
 | .lst xs=>xs.length<=sizeLine/\∃ (its:List Value) (n:Nat),Vals xs its/\h.get? a=some { cls:=ZO,data:=Z1s}
 | .tup xs=>xs.length<=sizeLine/\∃ its:List Value,Vals xs its/\IsTup h a its.toArray
 | .dK kvs=>kvs.length<=sizeLine/\(a == sysModules)=false/\∃ vs,KV kvs vs/\h.DictOf ZFF a vs
 | .dT kvs=>kvs.length<=sizeLine/\(a == sysModules)=false/\∃ xs:List (List Key×Addr×Value),
   Paired (λ(p:List Key×V) (q:List Key×Addr×Value)=>p.1=q.1/\H q.2.1=some ZIN/\RelV p.2 q.2.2) kvs xs /\
   ∃ o es ep,h.get? a=some o/\o.ExactDict/\o.data=.dict es ep/\es.toList=xs.map (entryOfKey Z4C)/\(xs.map (·.1)).Nodup
 | .set S n=>h.SetOf Z1B a S n
 | .ins C dx fs=>H dx=some ZFQ/\fs.length<=1000/\dx≠a/\h.get? a=some Z7G /\
   ∃ mA,h.Ns1 dx mA/\(∀ f,Z6o)/\PySem.Within mA (fs.map (·.1))
 | .own _=>∃ o,h.get? a=some o
 | .xd fs=>∃ mA,h.Ns1 a mA/\∀ f,Z6o
 | .rng lo hi=>∃ t u v,h.get? a=some { cls:=Z3H,data:=.fields #[Z9o,Z9q,ZBj] }
 | .frz o u=>h.get? a=some o/\bP H h a u
 | .tbl ps=>h.get? a=some { cls:=.none,data:=ZI2}
 | .met f x=>h.get? a=some (PySem.W.methodObj Z0X Z3j)
 | .ext φ=>φ h/\(∃ o,h.get? a=some o)/\∀ h1 h2:Heap,φ h1->(∀ o,h1.get? a=some o->h2.get? a=some o)->φ h2
def HOk (H:Hp) (h:Heap):Prop:=∀ a o,H a=some o->bP P w H h a o
end
section
variable {P:Program}{w:World}{H H':Hp}{h h':Heap}{a:Addr}{o:HO}
theorem bP.lt (x:ZDS):a<h.objs.size:=by
 cases o with
 | lst xs=>obtain⟨_,_,_,_,e⟩:=x;exact ZK
 | tup xs=>obtain⟨_,_,_,p⟩:=x;exact p.lt
 | dK kvs=>obtain⟨_,_,_,_,o,_,_,e,_⟩:=x;exact ZK
 | dT kvs=>obtain⟨_,_,_,_,o,_,_,e,_⟩:=x;exact ZK
 | set S n=>obtain⟨o,_,_,_,e,_⟩:=x;exact ZK
 | ins C dx fs=>obtain⟨_,_,_,e,_⟩:=x;exact ZK
 | own y=>obtain⟨_,e⟩:=x;exact ZK
 | xd fs=>obtain⟨_,⟨_,_,_,e,_⟩,_⟩:=x;exact ZK
 | rng lo hi=>obtain⟨_,_,_,e⟩:=x;exact ZK
 | frz ob u=>obtain⟨e,_⟩:=x;exact ZK
 | tbl ps=>exact Heap.lt_size (show h.get? a=some _ from x)
 | met f y=>exact Heap.lt_size (show h.get? a=some _ from x)
 | ext φ=>obtain⟨_,⟨_,e⟩,_⟩:=x;exact ZK
theorem Paired.ED (h:Paired F l₁ l₂) (f:∀ a b,F a b->G a b):Paired G l₁ l₂:=by
 induction h with
 | nil=>exact .nil
 | cons r _ c=>exact .cons (f _ _ r) c
theorem bP.kX (x:ZDS) (k:∀ b u,(b=a\/H b=some ZFQ)->h.get? b=some u->h'.get? b=some u)
  (ho:∀ b,H b=some ZFQ->H' b=some ZFQ) (ht:∀ b xs,H b=some Zb->H' b=some Zb):bP P w H' h' a o:=by
 induction o with
 | lst xs=>obtain⟨z,its,n,r,e⟩:=x;exact⟨z,its,n,r,Z0h⟩
 | tup xs=>obtain⟨z,its,r,ob,e,c⟩:=x;exact⟨z,its,r,ob,Z0h,c⟩
 | dK kvs=>obtain⟨z,y,vs,r,ob,es,ep,e,c⟩:=x;exact⟨z,y,vs,r,ob,es,ep,Z0h,c⟩
 | dT kvs=>
  obtain⟨z,y,xs,r,ob,es,ep,e,c⟩:=x
  exact⟨z,y,xs,Paired.ED r λ p q z=>⟨z.1,ht _ _ z.2.1,z.2.2⟩,ob,es,ep,Z0h,c⟩
 | set S n=>obtain⟨ob,es,ep,t,e,c⟩:=x;exact⟨ob,es,ep,t,Z0h,c⟩
 | ins C dx fs=>
  obtain⟨d,z,ne,e,mA,⟨od,es,ep,e2,c⟩,r⟩:=x
  exact⟨ho _ d,z,ne,Z0h,mA,⟨od,es,ep,k _ _ (.inr d) e2,c⟩,r⟩
 | own y=>obtain⟨ob,e⟩:=x;exact⟨ob,Z0h⟩
 | xd fs=>obtain⟨mA,⟨od,es,ep,e,c⟩,r⟩:=x;exact⟨mA,⟨od,es,ep,Z0h,c⟩,r⟩
 | rng lo hi=>obtain⟨t,u,v,e⟩:=x;exact⟨t,u,v,Z0h⟩
 | frz ob u ih=>obtain⟨e,q⟩:=x;exact⟨Z0h,ih q⟩
 | tbl ps=>
  have e:h.get? a=some { cls:=.none,data:=ZI2}:=x
  show h'.get? a=some { cls:=.none,data:=ZI2}
  exact ZRO
 | met f y=>
  have e:h.get? a=some ZAG:=x
  show h'.get? a=some ZAG
  exact ZRO
 | ext φ=>obtain⟨p,⟨o,e⟩,st⟩:=x;exact⟨st _ _ p λ o q=>k _ _ Z1x q,⟨o,Z0h⟩,st⟩
theorem HOk.lt (x:Z12) (e:H a=some o):a<h.objs.size:=(x a o e).lt
theorem HOk.fresh (x:Z12) (e:h.objs.size<=a):H a=none:=by
 cases q:H a with
 | none=>rfl
 | some u=>exact absurd (FA (x.lt q) e) ZB6
theorem HOk.kept (x:Z12) (k:∀ b u,h.get? b=some u->h'.get? b=some u):HOk P w H h':=λ a o e=>
 (x a o e).kX (λ b u _ q=>ZKv) ZI6 λ _ _ q=>q
theorem HOk.laid (x:Z12) (k:∀ b u,h.get? b=some u->h'.get? b=some u) (i:h.objs.size<=a) (d:bP P w Z4m h' a o):HOk P w Z4m h':=λ b u e=>by
 have g:=x.fresh i
 by_cases f:b=a
 ·subst f;rw[aU] at e;cases e;exact d
 ·rw[aV f] at e
  exact(x b u e).kX (λ c v _ q=>k c v q) (λ c q=>by rw[ZRc];exact q) λ c j q=>by rw[ZRc];exact q
end
def Rd (H:Hp) (a:Addr) (u:HO):Prop:=H a=some u\/∃ o,H a=some Z3M
theorem Rd.ok (r:ZWw) (x:Z12):ZMZ:=by
 rcases r with r|⟨o,r⟩
 ·exact x a u r
 ·obtain⟨_,q⟩:=x a _ r
  exact q
def Mut:Option HO->Prop
 | some (.lst _)=>True
 | some (.dK _)=>True
 | some (.dT _)=>True
 | some (.set _ _)=>True
 | some (.ins _ _ _)=>True
 | some (.ext _)=>True
 | _=>False
section
variable {P:Program}{w:World}{H:Hp}{h h':Heap}{x e:Addr}{o':HO}
theorem HOk.write (B:Z12) (l:ZLL) (s:e=x\/H e=some Z69) (k:∀ b u,b≠e->h.get? b=some u->h'.get? b=some u) (n:∃ u,h'.get? e=some u)
  (p:bP P w ZQg h' x o'):HOk P w ZQg h':=λ b u q=>by
 have f:∀ c y,H c=some (.own y)->c≠x:=λ c y r z=>by subst z;rw[r] at l;exact l
 have g:∀ c m,H c=some (.tup m)->c≠x:=λ c m r z=>by subst z;rw[r] at l;exact l
 by_cases i:b=x
 ·subst i;rw[aU] at q;cases q;exact p
 ·rw[aV i] at q
  by_cases d:b=e
  ·have t:H b=some Z69:=by
    rcases s with z|z
    ·exact absurd (d.trans z) i
    ·rw[d];exact z
   rw[q] at t;cases t
   obtain⟨v,A⟩:=n
   exact⟨v,by rw[d];exact A⟩
  ·refine(B b u q).kX (λ c v j r=>k c v ?_ r) (λ c r=>by rw[aV (f c b r)];exact r) λ c m r=>by rw[aV (g c m r)];exact r
   rcases j with rfl|j
   ·exact d
   ·rintro rfl
    rcases s with z|z
    ·exact f c b j z
    ·rw[j] at z;cases z;exact i rfl
end
structure Un (fs ex:List Addr) (H H':Hp) (h h':Heap):Prop where
 keep:∀ b o,h.get? b=some o->H b=none->b∉fs->b∉ex->h'.get? b=some o
 slot:∀ b o,h.get? b=some o->H b=none->b∈fs->b∉ex->∃ sl,h'.get? b=some { o with slots:=sl }
 free:∀ b o,h.get? b=some o->H b=none->b∉ex->H' b=none
 there:∀ b o,h.get? b=some o->b∉ex->∃ o',h'.get? b=some o'
 tups:∀ b xs,H b=some Zb->H' b=some Zb
 frzs:∀ b o u,H b=some Z3M->H' b=some Z3M
 tbls:∀ b ps,H b=some ZM8->∃ more,H' b=some (.tbl (ps++more))
section
variable {fs fs' ex ex':List Addr}{H H1 H2:Hp}{h h1 h2 h':Heap}{a x e:Addr}{o:HO}
theorem Un.any (u:ZIe) (q:h.get? b=some ob) (n:H b=none) (d:b∉ex):∃ f,h1.get? b=some { ob with slots:=f }:=by
 by_cases c:b∈fs
 ·exact u.slot b ob q n c d
 ·exact⟨ob.slots,u.keep b ob q n c d⟩
theorem Un.kept (k:∀ b u,h.get? b=some u->h'.get? b=some u):Un fs ex H H h h':=
 ⟨λ b c q _ _ _=>ZRN,λ b c q _ _ _=>⟨c.slots,ZRN⟩,λ _ _ _ n _=>n,λ b c q _=>⟨c,ZRN⟩,λ _ _ q=>q,λ _ _ _ q=>q,λ _ d q=>⟨#[],by rw[q];simp⟩⟩
theorem Un.refl:Un fs ex H H h h:=Un.kept λ _ _ q=>q
theorem Un.laid (k:∀ b u,h.get? b=some u->h'.get? b=some u) (d:h.objs.size<=a) (c:H a=none):Un fs ex H Z4m h h' where
 keep:=λ b u q _ _ _=>ZKv
 slot:=λ b u q _ _ _=>⟨u.slots,ZKv⟩
 free:=λ b u q n _=>by rw[aV (Fu (FA Z3Z d))];exact n
 there:=λ b u q _=>⟨u,ZKv⟩
 tups:=λ b f q=>by rw[ZHg];exact q
 frzs:=λ b u f q=>by rw[ZHg];exact q
 tbls:=λ b g q=>⟨#[],by rw[ZHg,q];simp⟩
theorem Un.write (d:ZLL) (l:e=x\/H e=some Z69) (k:∀ b u,b≠e->h.get? b=some u->h'.get? b=some u) (f:∃ u,h'.get? e=some u):Un fs ex H ZI7 h h':=by
 have j:∀ b,H b=none->b≠x:=λ b n z=>by subst z;rw[n] at d;exact d
 have i:∀ b,H b=none->b≠e:=λ b n z=>by
  subst z
  rcases l with r|r
  ·exact j b n r
  ·rw[n] at r;cases r
 have g:∀ b u,H b=some u->¬ Mut ZBm->b≠x:=λ b u q m z=>by subst z;rw[q] at d;exact m d
 refine⟨λ b u q n _ _=>ZKw,λ b u q n _ _=>⟨u.slots,ZKw⟩,λ b u q n _=>by rw[aV (j b n)];exact n,λ b u q _=>?_,
  λ b p q=>by rw[Z8M];exact q,λ b u p q=>by rw[Z8M];exact q,λ b s q=>⟨#[],by rw[Z8M,q];simp⟩⟩
 by_cases c:b=e
 ·subst c;exact f
 ·exact⟨u,k b u c q⟩
theorem Un.mono (u:ZIe) (hs:∀ b∈fs,b∈fs') (f:∀ b∈ex,b∈ex'):Un fs' ex' H H1 h h1:=
 ⟨λ b d q n g c=>u.keep b d q n (λ z=>g (hs b z)) λ z=>ZL8,λ _ _ q n _ c=>u.any q n λ z=>c (f _ z),λ b d q n c=>u.free b d q n λ z=>ZL8,λ b d q c=>u.there b d q λ z=>ZL8,u.tups,u.frzs,u.tbls⟩
end
noncomputable def trk (h:Heap) (H:Hp):Z09:=(Z7A).filter λ a=>(H a).isSome
noncomputable def kT (h:Heap) (H:Hp):Heap:=PySem.W.hideAll h ZLm
theorem sO (h) (H:Hp):(ZQ4).objs.size=h.objs.size:=PySem.W.hideAll_size _ _
theorem ug (e:h.get? b=some o) (n:H b=none):(ZQ4).get? b=some o:=
 PySem.W.hideAll_get _ e λ c=>by
  have q:(H b).isSome=true:=(FN.mp c).2
  rw[n] at q;simp at q
theorem wG (e:(ZQ4).get? b=some o):h.get? b=some o/\H b=none:=by
 have c:h.get? b=some o:=PySem.W.of_hideAll ZLm e
 refine⟨c,?_⟩
 cases q:H b with
 | none=>rfl
 | some x=>
  have d:b∈trk h H:=FN.mpr ⟨Hw.mpr ZKa,by simp[q]⟩
  have z:(ZQ4).get? b=none:=PySem.W.hideAll_none ZLm d
  rw[z] at e;cases e
noncomputable def wQ (g h:Heap) (L:Addr):List (Addr×Obj):=(Z7A).filterMap λ a=>if a=L\/(g.get? a).isSome=true then none else (ZWh).map λ o=>(a,o)
noncomputable def rest (g h:Heap) (L d:Addr):List (Addr×Obj):=(wQ g h L).filter λ p=>decide (p.1≠d)
structure Mod (K:PySem.W.Frag) (mg:Str->Option Value) (base:Heap):Prop where
 kin:K.In base
 glob:base.Ns mainGlobals mg
 blt:∃ mb,base.Ns builtinsNs mb/\∀ x:Str,x ≠ "__name__" -> mb x=bootBuiltins x
 nolimit:base.NoLimit
structure Cx where
 prog:Program
 w:World
 K:PySem.W.Frag
 mg:Str->Option Value
 base:Heap
 A:Around
 N:Zo
 s₀:Shared
 H₀:Hp
 env:Env
 outer:Z5Q
 stack:Z5Q
 ex:Z09
 fn:Str->Bool
 calm:Bool
 pn:List (Addr×Obj)
 xe:Value->Shared->Prop
noncomputable def frs (l:Z5Q):Z09:=l.filterMap (·.frame)
noncomputable abbrev Cx.fs (X:Cx):Z09:=frs X.outer
def Vis (sc:Scope) (x:Str):Prop:=sc.names.lookup x=some .local\/sc.names.lookup x=some .cell\/sc.names.lookup x=some .free
def Loc (sc:Scope) (x:Str):Prop:=sc.names.lookup x=some .local\/sc.names.lookup x=some .cell
def Look (env:Env) (h:Heap) (m:Str->Option Value) (x:Str) (u:Value):Prop:=
 (env.kindOf x=some .local/\m x=some u)\/((env.kindOf x=some .cell\/env.kindOf x=some .free)/\∃ c,env.cells.lookup x=some c/\h.IsCell c ZBm)
structure Cx.Ok (X:Cx):Prop where
 mod:ZHn
 kind:X.env.scope.kind=.function
 glob:X.env.globals=mainGlobals
 blt:X.env.builtins=builtinsNs
 above:X.s₀.heap.objs.size<=X.env.locals
 inj:∀ x y c,X.env.cells.lookup x=some c->X.env.cells.lookup y=some c->x=y
 has:∀ x,(X.env.kindOf x=some .cell\/X.env.kindOf x=some .free)->∃ c,X.env.cells.lookup x=some c
 cab:∀ x c,X.fn x=true->X.env.cells.lookup x=some c->X.s₀.heap.objs.size<=c
 hd:X.calm=true->X.A.handled=none
 frames:X.A.frames=some X.stack
 stk:X.stack=X.outer\/(X.stack=X.env::X.outer/\X.env.frame=some X.env.locals)
 exf:∀ b∈X.ex,b≠X.env.locals/\∀ x c,X.env.cells.lookup x=some c->c≠b
 bs:∀ b o,X.base.get? b=some o->X.s₀.heap.get? b=some o/\X.H₀ b=none
 bsz:X.base.objs.size<=X.s₀.heap.objs.size
 noex:∀ b o,X.base.get? b=some o->b∉X.ex
 exfs:∀ b∈X.ex,b∉X.fs
 iJ:X.s₀.heap.FunFrames X.base X.outer
 frf:∀ b∈X.fs,X.H₀ b=none
structure Inv (X:Cx) (pins:List (Addr×Obj)) (σ:List (Option V)) (H:Hp) (s:Shared):Prop where
 ok:X.Ok
 os:s.os=X.s₀.os
 bare:ZMr
 base:Un X.fs X.ex X.H₀ H X.s₀.heap s.heap
 loc:∃ m,s.heap.Ns X.env.locals m/\∀ (i:Nat) (x:Str) (v:V),X.N[i]? = some x->σ[i]? = some (Z4c)->Vis X.env.scope x->∃ u,RelV v u/\Look X.env s.heap m x u
 cell:∀ x c,X.env.cells.lookup x=some c->∃ v,s.heap.IsCell c v
 free:H X.env.locals=none
 freeC:∀ x c,X.env.cells.lookup x=some c->H c=none\/(X.fn x=false/\∃ o u,H c=some Z3M)
 pin:∀ p∈X.pn++pins,s.heap.get? p.1=some p.2/\H p.1=none/\p.1≠X.env.locals/\p.1∉X.fs/\∀ v,p.2.data≠.cell v
 hok:HOk X.prog X.w H s.heap
 len:σ.length=X.N.length
section
variable {X:Cx}{pins:List (Addr×Obj)}{σ:List (Option V)}{H H':Hp}{s:Shared}{h':Heap}
theorem Cx.Ok.E7 (d:X.Ok) (e:X.base.get? b=some o):b∉X.fs:=λ c=>by
 have:=(d.iJ.mem c).1
 rw[e] at this;cases this
theorem Inv.bs (I:Z8):∀ b o,X.base.get? b=some o->s.heap.get? b=some o/\H b=none:=λ b o e=>
 ⟨I.base.keep b o (Z9j).1 (Z9j).2 (I.ok.E7 e) ZJy,I.base.free b o (Z9j).1 (Z9j).2 ZJy⟩
theorem Inv.bk (I:Z8):∀ b o,X.base.get? b=some o->s.heap.get? b=some o:=λ b o e=>(I.bs b o e).1
theorem Inv.mod (I:Z8):ZHn:=I.ok.mod
theorem Inv.kIn (I:Z8):X.K.In s.heap:=I.ok.mod.kin.keeps I.bk
theorem Inv.lt (I:Z8):X.env.locals<s.heap.objs.size:=let ⟨_,b,_⟩:=I.loc;b.lt
theorem Inv.sz (I:Z8):X.s₀.heap.objs.size<=s.heap.objs.size:=FC I.ok.above (Gq I.lt)
theorem Inv.EY (I:Z8) (h:s.heap.objs.size<=a):a∉X.fs:=λ b=>by
 obtain⟨_,o,c,_⟩:=I.ok.iJ.mem b
 exact absurd (FA ZKa (FC I.sz h)) ZB6
theorem Inv.cne (I:Z8):∀ x c,X.env.cells.lookup x=some c->c≠X.env.locals:=λ x c e z=>by
 obtain⟨v,o,g,f⟩:=Z7l
 obtain⟨m,⟨o',j,i,d,b,_⟩,_⟩:=I.loc
 rw[z,d] at g;cases g;rw[b] at f;cases f
theorem Inv.iJ (I:Z8):s.heap.FunFrames X.base X.outer:=by
 have all:∀ (l:List Env),(∀ b∈frs l,b∈X.fs)->X.s₀.heap.FunFrames X.base l->s.heap.FunFrames X.base l:=by
  intro l
  induction l with
  | nil=>intro _ _;trivial
  | cons env r ih=>
   intro hs hl
   obtain⟨hk,⟨L,o,hf,hn,ho,hd⟩,hr⟩:=hl
   have hL:L∈X.fs:=hs L (by unfold frs;rw[JX,hf];exact Fn)
   obtain⟨sl,e⟩:=I.base.slot L o ho (I.ok.frf L hL) hL λ z=>I.ok.exfs L z hL
   exact⟨hk,⟨L,_,hf,hn,e,hd⟩,ih (λ b hb=>hs b (by unfold frs;rw[JX,hf];exact ZRv)) hr⟩
 exact all X.outer (λ _ hb=>hb) I.ok.iJ
theorem Inv.stack (I:Z8):s.heap.FunFrames X.base X.stack:=by
 rcases I.ok.stk with e|⟨e,b⟩
 ·rw[e];exact I.iJ
 ·rw[e]
  obtain⟨m,c,_⟩:=I.loc
  refine .cons (by rw[I.ok.kind];decide) b c ?_ I.iJ
  exact Heap.get?_none_of_le (FC I.ok.bsz I.ok.above)
theorem Inv.ni (I:Z8):∀ b∈frs X.stack,b∈X.env.locals::X.fs:=λ b hb=>by
 rcases I.ok.stk with e|⟨e,hf⟩
 ·rw[e] at hb;exact ZRv
 ·rw[e] at hb
  unfold frs at hb
  rw[JX,hf] at hb
  exact hb
theorem Inv.m7 (I:Z8):∀ b∈frs X.stack,H b=none:=λ b hb=>by
 rcases Fi.mp (I.ni b hb) with e|hb
 ·rw[e];exact I.free
 ·obtain⟨_,o,ho,_⟩:=I.ok.iJ.mem hb
  exact I.base.free b o ho (I.ok.frf b hb) λ z=>I.ok.exfs b z hb
theorem Inv.step {g':ZMq}{t':Nat}{d':Drawn}{ch:Z09}(I:Z8)
  (A:∀ b∈ch,(b∈X.ex\/X.s₀.heap.objs.size<=b)/\b≠X.env.locals/\(∀ x c,X.env.cells.lookup x=some c->c≠b)/\∀ p∈X.pn++pins,p.1≠b)
  (B:∀ b o,b≠X.env.locals->b∉X.fs->b∉ch->s.heap.get? b=some o->H b=none->h'.get? b=some o)
  (F:∀ b o,b≠X.env.locals->b∈X.fs->b∉ch->s.heap.get? b=some o->H b=none->∃ U,h'.get? b=some { o with slots:=U }) (g:∀ b o,b∉ch->s.heap.get? b=some o->H b=none->H' b=none)
  (L:∀ b o,b∉ch->s.heap.get? b=some o->∃ o',h'.get? b=some o')
  (R:∀ b xs,H b=some Zb->H' b=some Zb) (y:∀ b o u,H b=some Z3M->H' b=some Z3M) (Q:∀ b T,H b=some (.tbl T)->∃ N,H' b=some (.tbl (T++N)))
  (ns:∀ m,s.heap.Ns X.env.locals m->h'.Ns X.env.locals m) (M:Z8O) (hg:ZTp) :
  Inv X pins σ H' { s with heap:=h',gens:=g',drawn:=d',toks:=t' }:=by
 have O:∀ b o,X.s₀.heap.get? b=some o->b≠X.env.locals:=λ b o e=>Fu (FA ZK I.ok.above)
 have E:∀ b o,X.s₀.heap.get? b=some o->b∉X.ex->b∉ch:=λ b o e f J=>by
  rcases (A b J).1 with z|z
  ·exact f z
  ·exact absurd (FA ZK z) ZB6
 have t:∀ x c,X.env.cells.lookup x=some c->∀ v,s.heap.IsCell c v->h'.IsCell c v:=λ x c e v ⟨o,K,S⟩=>by
  have C:c∉ch:=λ z=>ZFM
  rcases I.freeC x c e with D|⟨_,of,uf,D⟩
  ·by_cases W:c∈X.fs
   ·obtain⟨U,q⟩:=F c o ZP8 W C K D
    exact⟨_,q,S⟩
   ·exact⟨o,B c o ZP8 W C K D,S⟩
  ·obtain⟨j,_⟩:=I.hok c _ D
   obtain⟨G,_⟩:=M c _ ZUL
   rw[K] at j;cases j
   exact⟨o,G,S⟩
 refine⟨I.ok,I.os,hg,⟨λ b o e n J f=>?_,λ b o e n J f=>?_,λ b o e n f=>?_,λ b o e f=>?_,λ b xs e=>R b xs (I.base.tups b xs e),λ b o xs e=>y b o xs (I.base.frzs b o xs e),λ b T e=>?_⟩,?_,λ x c e=>?_,?_,λ x c e=>?_,λ p Y=>?_,M,I.len⟩
 ·exact B b o ZW1 J ZCx (I.base.keep b o e n J f) Z6x
 ·obtain⟨U,j⟩:=I.base.slot b o e n J f
  obtain⟨V,G⟩:=F b _ ZW1 J ZCx j Z6x
  exact⟨V,G⟩
 ·obtain⟨o',j⟩:=ZH7
  exact g b o' ZCx j Z6x
 ·obtain⟨o',j⟩:=ZH7
  exact L b o' ZCx j
 ·obtain⟨m1,j⟩:=I.base.tbls b T e
  obtain⟨m2,G⟩:=Q b _ j
  exact⟨m1++m2,by rw[G,Array.append_assoc]⟩
 ·obtain⟨m,hn,hl⟩:=I.loc
  refine⟨m,ns m hn,λ i x v j G e3=>?_⟩
  obtain⟨u,r,l⟩:=hl i x v j G e3
  refine⟨u,r,?_⟩
  rcases l with l|⟨k,c,e,z⟩
  ·exact .inl l
  ·exact .inr ⟨k,c,e,t x c e _ z⟩
 ·obtain⟨v,z⟩:=Z7l
  exact⟨v,t x c e v z⟩
 ·obtain⟨m,⟨o,_,_,K,_⟩,_⟩:=I.loc
  exact g _ o (λ z=>(A _ z).2.1 rfl) K I.free
 ·obtain⟨v,o,K,S⟩:=Z7l
  rcases I.freeC x c e with D|⟨hf,of,uf,D⟩
  ·exact .inl (g c o (λ z=>ZFM) K D)
  ·exact .inr ⟨hf,of,uf,ZUL⟩
 ·obtain⟨e,n,Z,nf,d⟩:=I.pin p Y
  have C:p.1∉ch:=λ z=>(A p.1 z).2.2.2 p Y rfl
  exact⟨B p.1 p.2 Z nf C e n,g p.1 p.2 C e n,Z,nf,d⟩
theorem Inv.un {t':Nat}(I:Z8) (u:Un X.fs [] H H' s.heap h') (i:Z8O):Inv X pins σ H' { s with heap:=h',toks:=t' }:=by
 obtain⟨m,⟨o,t,q,j,r⟩,_⟩:=ZNb
 obtain⟨y,k⟩:=u.any j I.free ZA
 exact I.step (g':=s.gens) (d':=s.drawn) (ch:=[]) (λ _ z=>nomatch z) (λ b o _ g _ e n=>u.keep b o e n g ZA) (λ b o _ g _ e n=>u.slot b o e n g Zq) (λ b o _ e n=>u.free b o e n ZC6) (λ b o _ e=>u.there b o e ZM0) u.tups u.frzs u.tbls (λ v l=>by
  obtain⟨o',f,d,c,p⟩:=l
  rw[j] at c;cases c
  exact⟨_,f,d,k,p⟩) i I.bare
theorem Inv.call {g':ZMq}{t':Nat}{d':Drawn}{ch:Z09}(I:Z8) (u:Un ZOz ch H H' s.heap h') (hok:Z8O) (hg:ZTp)
  (hch:∀ b∈ch,(b∈X.ex\/X.s₀.heap.objs.size<=b)/\b≠X.env.locals/\(∀ x c,X.env.cells.lookup x=some c->c≠b)/\∀ p∈X.pn++pins,p.1≠b) :
  Inv X pins σ H' { s with heap:=h',gens:=g',drawn:=d',toks:=t' }:=by
 obtain⟨m,⟨o,es,ep,ho,r⟩,_⟩:=ZNb
 obtain⟨sl,hL⟩:=u.any ho I.free λ z=>(hch _ z).2.1 rfl
 exact I.step (ch:=ch) hch (λ b o hL hb hc e n=>u.keep b o e n (λ z=>(Fi.mp (I.ni b z)).elim hL hb) hc) (λ b o _ _ hc e n=>u.any e n hc) (λ b o hc e n=>u.free b o e n hc) (λ b o hc e=>u.there b o e hc) u.tups u.frzs u.tbls (λ m' hm=>by
  obtain⟨o',es',ep',ho',r'⟩:=hm
  rw[ho] at ho';cases ho'
  exact⟨_,es',ep',hL,r'⟩) hok hg
theorem Inv.turned {t':Nat}{d:Addr}(I:Z8) (k:∀ b o,b≠d->s.heap.get? b=some o->h'.get? b=some o) (B:H d=none) (i:d≠X.env.locals)
  (h1:d∈X.ex\/X.s₀.heap.objs.size<=d) (h2:∀ x c,X.env.cells.lookup x=some c->c≠d) (t:∀ p∈X.pn++pins,p.1≠d):Inv X pins σ H { s with heap:=h',toks:=t' }:=by
 have g:∀ b u,H b=some u->b≠d:=λ b u e z=>by rw[z,B] at e;cases e
 refine I.step (g':=s.gens) (d':=s.drawn) (ch:=[d]) (λ b y=>?_) (λ b o _ _ f e _=>k b o (λ z=>f (by simp[z])) e) (λ b o _ _ f e _=>⟨o.slots,k b o (λ z=>f (by simp[z])) e⟩) (λ _ _ _ _ n=>n)
  (λ b o f e=>⟨o,k b o (λ z=>f (by simp[z])) e⟩) (λ _ _ e=>e) (λ _ _ _ e=>e) (λ b D e=>⟨#[],by rw[e];simp⟩) (λ m A=>?_) (λ b u e=>?_) I.bare
 ·have e:b=d:=by simpa using y
  subst e
  exact⟨h1,i,h2,t⟩
 ·obtain⟨o,l,j,C,r⟩:=A
  exact⟨o,l,j,k _ o ZSl C,r⟩
 ·refine(ZHt).kX (λ c v f q=>k c v ?_ q) ZI6 λ _ _ q=>q
  rcases f with z|z
  ·rw[z];exact g b u e
  ·exact g c _ z
theorem Inv.tok (I:Z8) (t):Inv X pins σ H { s with toks:=t }:=I.un (h':=s.heap) (t':=t) Un.refl I.hok
theorem Inv.kept (I:Z8) (k:∀ b u,s.heap.get? b=some u->h'.get? b=some u):Inv X pins σ H { s with heap:=h',toks:=t' }:=I.un (Un.kept k) (I.hok.kept k)
theorem Inv.laid (I:Z8) (k:∀ b u,s.heap.get? b=some u->h'.get? b=some u) (c:s.heap.objs.size<=a) (d:ZEB) :
  Inv X pins σ Z4m { s with heap:=h',toks:=t' }:=I.un (Un.laid k c (I.hok.fresh c)) (I.hok.laid k c d)
theorem Inv.write (I:Z8) (g:ZLL) (f:e=x\/H e=some Z69) (k:∀ b u,b≠e->s.heap.get? b=some u->h'.get? b=some u) (c:∃ u,h'.get? e=some u)
  (d:bP X.prog X.w ZI7 h' x o):Inv X pins σ ZI7 { s with heap:=h',toks:=t' }:=I.un (Un.write g f k c) (I.hok.write g f k c d)
theorem Inv.rD (I:Z8) (h:∀ p∈b,s.heap.get? p.1=some p.2/\H p.1=none/\p.1≠X.env.locals/\p.1∉X.fs/\∀ v,p.2.data≠.cell v):Inv X b σ H s:=
 ⟨I.ok,I.os,I.bare,I.base,I.loc,I.cell,I.free,I.freeC,λ p c=>(Fm.mp c).elim (λ z=>I.pin p (Ge _ z)) (h p),I.hok,I.len⟩
theorem pj {N:Zo}(f:N.Nodup) {i j:Nat}{x:Str}(a:N[i]? = some x) (b:N[j]? = some x):i=j:=by
 obtain⟨h1,c⟩:=Fc.mp a
 obtain⟨h2,d⟩:=Fc.mp b
 exact(List.getElem_inj f).mp (c.trans d.symm)
theorem lQ {M:Model}{A:Around}{E:Value->Shared->Prop}{i:Nat}{x:Str}{v:V}{u:Value}{Q:Unit->Shared->Prop}(I:Z8) (hN:X.N.Nodup) (hi:X.N[i]? = some x) (hx:Z6S) (r:ZBd)
  (h:∀ s',Inv X pins ZDg H s'->(∃ a,Heap.SameBut a s.heap s'.heap/\(a=X.env.locals\/X.env.cells.lookup x=some a))->Q () s') (hf:X.fn x=true\/X.env.scope.names.lookup x=some .local:=by first|exact .inl rfl|exact .inr rfl|assumption):Z8K:=by
 obtain⟨m,hn,hl⟩:=ZNb
 have hcls:(X.env.scope.kind == .class || (X.env.scope.kind == .module && X.env.locals != X.env.globals))=false:=by rw[I.ok.kind];rfl
 have hiσ:i<σ.length:=by rw[I.len];exact(ZOO).1
 have cne:=I.cne
 have tracked:∀ {a:Addr} {h':Heap},(∃ o,s.heap.get? a=some o/\H a=none)->Heap.SameBut a s.heap h'->HOk X.prog X.w H h':=λ{a h'} ha hs b ob e=>by
  obtain⟨_,_,hfree⟩:=ha
  refine(I.hok b ob e).kX (λ c w' hc q=>(hs.2 c ?_).trans q) ZI6 λ _ _ q=>q
  rintro rfl
  rcases hc with rfl|hc
  ·rw[hfree] at e;cases e
  ·rw[hfree] at hc;cases hc
 rcases hx with hk|hk
 ·refine wpAny_storeName_local hk hn (λ h' hn' hs=>?_) hcls
  obtain⟨oL,_,_,hoL,_⟩:=id hn
  refine h _ ⟨I.ok,I.os,I.bare,Z1P,⟨_,hn',λ j y v' e1 e2 e3=>?_⟩,λ y c e=>?_,I.free,I.freeC,λ p hp=>?_,tracked ⟨oL,hoL,I.free⟩ hs,by simpa using I.len⟩ ⟨_,hs,.inl rfl⟩
  ·exact(Z4x).trans ZCv
  ·obtain⟨sl,e1⟩:=ZDX
   exact⟨sl,ZN8⟩
  ·obtain⟨o',e1⟩:=ZGK
   exact⟨o',ZN8⟩
  ·by_cases hj:j=i
   ·subst hj
    rw[hi] at e1;cases e1
    rw[FG hiσ] at e2
    cases e2
    exact⟨u,r,.inl ⟨hk,Zq⟩⟩
   ·rw[ZLZ] at e2
    obtain⟨u',r',q⟩:=ZIZ
    refine ZMF
    rcases q with ⟨k,e⟩|⟨k,c,e,z⟩
    ·refine .inl ⟨k,?_⟩
     have:y≠x:=λ e=>hj (pj hN e1 (e ▸ hi))
     simp[this,e]
    ·exact .inr ⟨k,c,e,ZDz⟩
  ·obtain⟨w',z⟩:=I.cell y c e
   exact⟨w',ZDz⟩
  ·obtain⟨e,n,ne,nf,d⟩:=ZEK
   exact⟨(hs.2 p.1 ne).trans e,n,ne,nf,d⟩
 ·have hfn:X.fn x=true:=by
   rcases hf with z|z
   ·exact z
   ·rw[z] at hk;cases hk
  obtain⟨c,hc⟩:=I.ok.has x ZGt
  obtain⟨w',z⟩:=ZOC
  refine wpAny_storeName_cell I.ok.kind hk hc z (λ h' hc' hs=>?_)
  obtain⟨oc,hoc,hocd⟩:=id z
  refine h { s with heap:=h' } ⟨I.ok,I.os,I.bare,Z1P,⟨m,hn.sameBut hs (Ne.symm (cne x c hc)),λ j y v' e1 e2 e3=>?_⟩,λ y c' e=>?_,I.free,I.freeC,λ p hp=>?_,tracked ⟨oc,hoc,(ZMh).elim id λ z=>absurd (hfn.symm.trans z.1) Z3⟩ hs,by simpa using I.len⟩ ⟨c,hs,.inr hc⟩
  ·exact(Z2g).trans ZCv
  ·obtain⟨sl,e1⟩:=ZDX
   exact⟨sl,ZNA⟩
  ·obtain⟨o',e1⟩:=ZGK
   exact⟨o',ZNA⟩
  ·by_cases hj:j=i
   ·subst hj
    rw[hi] at e1;cases e1
    rw[FG hiσ] at e2
    cases e2
    exact⟨u,r,.inr ⟨.inl hk,c,hc,hc'⟩⟩
   ·rw[ZLZ] at e2
    obtain⟨u',r',q⟩:=ZIZ
    refine ZMF
    rcases q with q|⟨k,c',e,z'⟩
    ·exact ZLi
    ·refine .inr ⟨k,c',e,z'.sameBut hs ?_⟩
     rintro rfl
     exact hj (pj hN e1 (I.ok.inj _ _ _ e hc ▸ hi))
  ·by_cases hcc:c'=c
   ·subst hcc;exact⟨_,hc'⟩
   ·obtain⟨w2,z2⟩:=I.cell y c' e
    exact⟨w2,z2.sameBut hs hcc⟩
  ·obtain⟨e,n,ne,nf,d⟩:=ZEK
   refine⟨(hs.2 p.1 ?_).trans e,n,ne,nf,d⟩
   intro q
   rw[q,hoc] at e
   have q':oc=p.2:=ZAR
   exact d w' (by rw[<- q'];exact hocd)
theorem kH (I:Z8) (d:X.N.Nodup) (hi:X.N[i]? = some x) (g:Z6S) (r:ZBd)
  (h:∀ b,Inv X pins ZDg H b->Q () b) (f:X.fn x=true\/X.env.scope.names.lookup x=some .local:=by first|exact .inl rfl|exact .inr rfl|assumption):Z8K:=
 lQ I d hi g r (λ b c _=>h b c) f
theorem Inv.AZ (I:Z8) (i:s'.os=s.os) (u:Un ZOz ch H H' s.heap s'.heap) (f:HOk X.prog X.w H' s'.heap) (g:ZLf)
  (d:∀ b∈ch,(b∈X.ex\/X.s₀.heap.objs.size<=b)/\b≠X.env.locals/\(∀ x c,X.env.cells.lookup x=some c->c≠b)/\∀ p∈X.pn++pins,p.1≠b):Inv X pins σ H' s':=by
 obtain⟨h',g',d',t',o'⟩:=s'
 have e:o'=s.os:=i
 subst e
 exact I.call (g':=g') (t':=t') (d':=d') u f g d
end
noncomputable abbrev XK:=Value->Option Addr->Hp->Prop
noncomputable abbrev St:=List ZIi
noncomputable abbrev VK:=V->Hp->Prop
noncomputable abbrev TE:=St->Hp->VK->Prop
noncomputable abbrev TT:=St->Hp->(Bool->Hp->Prop)->Prop
noncomputable abbrev TA:=St->Hp->(List V->Hp->Prop)->Prop
structure Ends where
 nx:St->Hp->Prop
 rt:VK
 bk:St->Hp->Prop:=λ _ _=>False
 ct:St->Hp->Prop:=λ _ _=>False
noncomputable abbrev TS:=Ends->St->Hp->Prop
inductive EP (X:Cx) (pins:List (Addr×Obj)) (σ:St) (Q:VK) (u:Value) (s':Shared):Prop
 | mk:∀ v H',Inv X pins σ H' s'->RelV v u->Q v H'->EP X pins σ Q u s'
inductive TP (X:Cx) (pins:List (Addr×Obj)) (σ:St) (Q:Bool->Hp->Prop) (b:Bool) (s':Shared):Prop
 | mk:∀ H',Inv X pins σ H' s'->Q b H'->TP X pins σ Q b s'
inductive AP (X:Cx) (pins:List (Addr×Obj)) (σ:St) (Q:List V->Hp->Prop) (us:List Value) (s':Shared):Prop
 | mk:∀ vs H',Inv X pins σ H' s'->Vals vs us->Q vs H'->AP X pins σ Q us s'
def SP (X:Cx) (pins:List (Addr×Obj)) (D:Ends) (f:Flow) (s':Shared):Prop:=
 match f with
 | .next=>∃ σ' H',Inv X pins σ' H' s'/\D.nx σ' H'
 | .brk=>∃ σ' H',Inv X pins σ' H' s'/\D.bk σ' H'
 | .cont=>∃ σ' H',Inv X pins σ' H' s'/\D.ct σ' H'
 | .ret u=>∃ v σ' H',Inv X pins σ' H' s'/\RelV v u/\D.rt v H'
def PE (X:Cx) (e:Expr) (t:TE):Prop:=
 ∀ (pins:List (Addr×Obj)) (s:Shared) (σ:St) (H:Hp) (Q:VK),Inv X pins σ H s->t σ H Q->wpAny Z5 X.A Z0k Z0N X.xe s
def PT (X:Cx) (e:Expr) (t:TT):Prop:=
 ∀ (pins:List (Addr×Obj)) (s:Shared) (σ:St) (H:Hp) (Q:Bool->Hp->Prop),Inv X pins σ H s->t σ H Q->wpAny Z5 X.A (isTrue e X.env Z0k) ZBQ X.xe s
def PW (X:Cx) (e:Expr) (t:TT):Prop:=
 ∀ (whole:Sem Value) (pins:List (Addr×Obj)) (s:Shared) (σ:St) (H:Hp) (Q:Bool->Hp->Prop),Inv X pins σ H s->t σ H Q->wpAny Z5 X.A (isTrue e X.env whole) ZBQ X.xe s
theorem PW.pt (h:PW X e t):PT X e t:=h _
def PA (X:Cx) (es:Z4L) (t:TA):Prop:=
 ∀ (pos:Pos) (pins:List (Addr×Obj)) (s:Shared) (σ:St) (H:Hp) (Q:List V->Hp->Prop),Inv X pins σ H s->t σ H Q->wpAny Z5 X.A (spliced Z0K) ZKc X.xe s
def PS (X:Cx) (st:Stmt) (t:TS):Prop:=
 ∀ (pins:List (Addr×Obj)) (s:Shared) (σ:St) (H:Hp) (D:Ends),Inv X pins σ H s->t D σ H->wpAny Z5 X.A (exec st X.env) ZP5 X.xe s
def PSs (X:Cx) (st:Z5f) (t:TS):Prop:=
 ∀ (pins:List (Addr×Obj)) (s:Shared) (σ:St) (H:Hp) (D:Ends),Inv X pins σ H s->t D σ H->wpAny Z5 X.A (execs st X.env) ZP5 X.xe s
theorem thn (h:wpAny M A t Q E s) (b:∀ a s,Q a s->Q' a s):wpAny M A t Q' E s:=Ga h b λ _ _ x=>x
section
variable {X:Cx}
inductive cu (i:Nat) (σ:St) (H:Hp) (Q:VK):Prop
 | mk:∀ v,σ[i]? = some (Z4c)->Q v H->cu i σ H Q
def tC (v:V):TE:=λ _ H Q=>Q v H
theorem zx (n:X.N[i]? = some x) (y:ZJV) (j:(x == ("__debug__" :ZHN))=false:=by decide) (g:(x == ("__classdict__" :ZHN))=false:=by decide):ZQJ:=by
 intro pins s σ H Q I h
 obtain⟨v,e,h⟩:=h
 obtain⟨m,t,p⟩:=I.loc
 obtain⟨u,r,l⟩:=p i x v n e y
 have d:EP X pins σ Q u s:=ZBs
 rcases l with ⟨f,q⟩|⟨f,c,k,b⟩
 ·exact wpAny_Name (wpAny_loadName_local I.ok.kind f t q d) j
 ·rcases f with f|f
  ·exact wpAny_Name (wpAny_loadName_cell I.ok.kind f k b d) j
  ·exact wpAny_Name (wpAny_loadName_free I.ok.kind f k b d g) j
theorem bh {i j pos}:PE X (.Constant Z2M j pos) ZXT:=λ _ _ _ H _ I h=>wpAny_Constant_int ⟨Z2M,H,Z2A,Z1_,h⟩
theorem fh {b j pos}:PE X (.Constant ZD0 j pos) (tC ZD1):=λ _ _ _ H _ I h=>Constant_bool ⟨ZVn,H,I,rfl,h⟩
theorem fX {j pos}:PE X (.Constant .none j pos) (tC .non):=λ _ _ _ H _ I h=>Constant_none ⟨.non,H,I,rfl,h⟩
theorem gA {x j pos}:PE X (.Constant ZBr j pos) (tC ZBr):=λ _ _ _ H _ I h=>Calls.Constant_str ⟨ZVh,H,Z2A,Z1_,h⟩
def Gl (X:Cx) (x:Str):Prop:=X.env.kindOf x=some .globalImplicit
theorem jH (I:Z8) (c:ZAw) (d:X.mg x=some u) (h:Q u s)
  (b:(x == ("__debug__" :ZHN))=false:=by decide):Z8v:=
 Calls.Name_function_global I.ok.kind c (Calls.loadGlobal_global (by rw[I.ok.glob];exact Z51) d h) b
theorem iG (I:Z8) (c:ZAw) (d:X.mg x=none) (g:bootBuiltins x=some u) (h:Q u s)
  (f:x ≠ "__name__":=by decide) (b:(x == ("__debug__" :ZHN))=false:=by decide):Z8v:=by
 obtain⟨i,h1,h2⟩:=I.mod.blt
 exact Calls.Name_function_global I.ok.kind c (Calls.loadGlobal_builtin (by rw[I.ok.glob];exact Z51) d (by rw[I.ok.blt];exact h1.keeps I.bk) ((h2 x f).trans g) h) b
theorem wW (c:ZAw) (d:X.mg x=some u) (r:ZBd) (b:(x == ("__debug__" :ZHN))=false:=by decide):ZLK:=
 λ _ _ _ H _ I h=>jH I c d ZBs b
theorem gY (c:ZAw) (d:X.mg x=none) (g:bootBuiltins x=some u) (r:ZBd) (f:x ≠ "__name__":=by decide) (b:(x == ("__debug__" :ZHN))=false:=by decide):ZLK:=
 λ _ _ _ H _ I h=>iG I c d g ZBs f b
variable {a b:Expr}{ta tb:TE}{pos:Pos}
def PC (X:Cx) (op:CmpOp) (a b:Expr) (t:TE):Prop:=
 ∀ (pins:List (Addr×Obj)) (s:Shared) (σ:St) (H:Hp) (Q:VK),Inv X pins σ H s->t σ H Q ->
  wpAny Z5 X.A Z7Z (λ v s₁=>wpAny Z5 X.A ZAr (λ u s₂=>wpAny Z5 X.A (compareOp op v u) Z0N X.xe s₂) X.xe s₁) X.xe s
theorem Dv (b:Expr) (h:op≠.In) (h2:op≠.NotIn):behindInMarks op b=false:=by
 have c:(op == CmpOp.In)=false:=by cases op<;>first|rfl|exact ZG3
 have d:(op == CmpOp.NotIn)=false:=by cases op<;>first|rfl|exact ZNp
 cases b<;>simp[behindInMarks,c,d]
inductive tBE (Q:Bool->Hp->Prop) (x:V) (H1:Hp):Prop
 | mk:∀ c,x=.bl c->Q c H1->tBE Q x H1
def tB (t:TE):TT:=λ σ H Q=>t σ H λ x H1=>tBE Q x H1
theorem iB (h:PC X op a b t) (h1:behindInMarks op b=false:=by first|exact f _ Z3 (Z3)|rfl):PT X Z6K (tB t):=by
 intro pins s σ H Q I i
 refine wpAny_isTrue_Compare1 (thn (h pins s σ H _ I i) λ v l h1=>thn h1 λ u m h2=>thn h2 λ c n z=>?_) h1
 obtain⟨x,H1,g,k,j⟩:=z
 obtain⟨d,rfl,q⟩:=j
 cases k
 exact GN ⟨H1,g,q⟩
theorem cC {e:Expr}{t:TE}(h:ZIh) (he:∀ whole,isTrue e X.env whole=(do let v <- whole;standAt e.pos;holding [v] ZEU):=by intro _;rfl):PT X e (tB t):=by
 intro pins s σ H Q I hw
 refine isTrue_plain (thn (h pins s σ H _ I hw) λ v s1 z=>?_) (he _)
 obtain⟨x,H1,I1,r1,q1⟩:=z
 obtain⟨d,rfl,q⟩:=q1
 cases r1
 exact GN ⟨H1,I1,q⟩
variable {tA tB':TT}{rest:List Expr}
def BV (t u:TT):TT:=λ σ H Q=>t σ H λ c H1=>if c=true then u σ H1 Q else Q false H1
def tOr (t u:TT):TT:=λ σ H Q=>t σ H λ c H1=>if c=true then Q true H1 else u σ H1 Q
def Cv (t:TT):TT:=λ σ H Q=>t σ H λ c H1=>Q (!c) H1
theorem fG (d:ZCH):PW X (.BoolOp .And [a] pos) tA:=by
 intro g pins s σ H Q I h
 refine isTrue_and Z7N
 cases c with
 | true=>exact isTrue_and_nil e
 | false=>exact e
theorem eg (d:ZCH):PW X (.BoolOp .Or [a] pos) tA:=by
 intro g pins s σ H Q I h
 refine isTrue_or Z7N
 cases c with
 | false=>exact isTrue_or_nil e
 | true=>exact e
theorem iE (g:ZCH) (i:PW X (.BoolOp .And (b::rest) pos) tB'):PW X (.BoolOp .And (a::b::rest) pos) (BV tA tB'):=by
 intro k pins s σ H Q I h
 refine isTrue_and ZFe
 obtain⟨H1,d,f⟩:=z
 cases c with
 | true=>exact ZFV
 | false=>exact ZPq
theorem eK (g:ZCH) (i:PW X (.BoolOp .Or (b::rest) pos) tB'):PW X (.BoolOp .Or (a::b::rest) pos) (tOr tA tB'):=by
 intro k pins s σ H Q I h
 refine isTrue_or ZFe
 obtain⟨H1,d,f⟩:=z
 cases c with
 | true=>exact ZPq
 | false=>exact ZFV
theorem cM (f:ZCH):PT X Z7y (Cv tA):=by
 intro pins s σ H Q I h
 exact isTrue_not (thn (f pins s σ H (λ c H1=>Q (!c) H1) I h) λ c g ⟨H1,d,q⟩=>⟨H1,d,q⟩)
inductive wh (tb:TE) (σ:St) (Q:VK) (x:V) (H1:Hp):Prop
 | mk:∀ c,x=.bl c->(if c=true then tb σ H1 Q else Q ZCh H1)->wh tb σ Q x H1
def uu (ta tb:TE):TE:=λ σ H Q=>ta σ H λ x H1=>wh tb σ Q x H1
inductive yl (tb:TE) (σ:St) (Q:VK) (x:V) (H1:Hp):Prop
 | mk:∀ c,x=.bl c->(if c=true then Q Z3O H1 else tb σ H1 Q)->yl tb σ Q x H1
def EW (ta tb:TE):TE:=λ σ H Q=>ta σ H λ x H1=>yl tb σ Q x H1
inductive uX (Q:VK) (x:V) (H1:Hp):Prop
 | mk:∀ c,x=.bl c->Q (.bl (!c)) H1->uX Q x H1
def AM (ta:TE):TE:=λ σ H Q=>ta σ H λ x H1=>uX Q x H1
theorem fu {op}(h:PE X a t):PE X (.BoolOp op [a] pos) t:=λ pins s σ H Q I c=>BoolOp_one (h pins s σ H Q I c)
theorem fL (g:Z3Y) (i:PE X (.BoolOp .And (b::rest) pos) tb):PE X (.BoolOp .And (a::b::rest) pos) (uu ta tb):=by
 intro pins s σ H Q I h
 refine BoolOp_and ZFd
 obtain⟨x,H1,f,j,d⟩:=z
 obtain⟨c,rfl,d⟩:=d
 cases j
 refine GN ?_
 cases c with
 | true=>exact ZH1
 | false=>exact⟨ZCh,H1,f,rfl,d⟩
theorem yG (g:Z3Y) (i:PE X (.BoolOp .Or (b::rest) pos) tb):PE X (.BoolOp .Or (a::b::rest) pos) (EW ta tb):=by
 intro pins s σ H Q I h
 refine BoolOp_or ZFd
 obtain⟨x,H1,f,j,d⟩:=z
 obtain⟨c,rfl,d⟩:=d
 cases j
 refine GN ?_
 cases c with
 | false=>exact ZH1
 | true=>exact⟨ZXP,H1,f,rfl,d⟩
theorem kr (g:Z3Y):PE X Z7y (AM ta):=by
 intro pins s σ H Q I h
 refine UnaryOp_ (thn Z26 λ v j z=>?_)
 obtain⟨x,H1,f,i,d⟩:=z
 obtain⟨c,rfl,d⟩:=d
 cases i
 exact not_of (GN ⟨.bl (!c),H1,f,rfl,d⟩)
end
def SqL (K:PySem.W.Frag) (H:Hp) (a:Addr) (xs:Z11):Prop:=
 Rd H a Zu \/
  ∃ (o:Obj) (its:Array Value) (n:Nat),K.lookup a=some o/\o.cls=.type "list" /\ o.dict=none/\o.data=.seq its n/\its.size<=sizeLine/\Vals xs its.toList
def SqT (K:PySem.W.Frag) (H:Hp) (a:Addr) (xs:Z11):Prop:=
 Rd H a Zb \/
  ∃ (o:Obj) (its:Array Value) (n:Nat),K.lookup a=some o/\o.cls=.type "tuple" /\ o.data=.seq its n/\its.size<=sizeLine/\Vals xs its.toList
noncomputable def E3:Value->Option V
 | .none=>some .non
 | .bool b=>some ZD1
 | .int i _=>ZWM
 | .str x _=>some ZBr
 | .bytes b _=>some (.byt b)
 | .float b _=>some (.flt b)
 | .ref a=>Z7S
 | .type n=>some (.ty n)
 | _=>none
theorem RelV.abs {x:V}{u:Value}(r:ZIg):E3 u=some x:=by
 cases x with
 | non=>cases r;rfl
 | bl _=>cases r;rfl
 | int _=>obtain⟨t,rfl⟩:=r;rfl
 | str _=>obtain⟨t,rfl⟩:=r;rfl
 | byt _=>obtain⟨t,rfl⟩:=r;rfl
 | flt _=>obtain⟨t,rfl⟩:=r;rfl
 | ref _=>cases r;rfl
 | ty _=>cases r;rfl
theorem RelV.inj (r:ZIg) (q:Z4J):x=y:=Option.some.inj (r.abs.symm.trans q.abs)
theorem Vals.inj (h:Z85) (k:Vals ys us):xs=ys:=by
 induction h generalizing ys with
 | nil=>cases k;rfl
 | cons r _ c=>
  cases k with
  | cons d f=>rw[r.inj d,c f]
section
variable {X:Cx}{pins:List (Addr×Obj)}{σ:St}{H:Hp}{s:Shared}{a:Addr}{xs ys:List V}
theorem SqL.of {K:PySem.W.Frag}(h:H a=some Zu):ZAt:=ZXO
theorem SqT.of {K:PySem.W.Frag}(h:H a=some Zb):ZG8:=ZXO
theorem Inv.list (I:Z8) (h:ZMe):∃ its:List Value,Vals xs its/\PlainL s.heap a its.toArray/\xs.length<=sizeLine:=by
 rcases h with h|⟨o,its,n,f,c,d,g,i,r⟩
 ·obtain⟨z,its,n,r,e⟩:=ZTI
  exact⟨its,r,⟨_,n,e,rfl,rfl,rfl⟩,z⟩
 ·refine⟨its.toList,r,⟨o,n,I.kIn a o f,c,d,by simpa using g⟩,?_⟩
  have e:=r.length
  simp only[Fs] at e
  lia
theorem Inv.tuple (I:Z8) (h:ZMd):∃ its:List Value,Vals xs its/\IsTup s.heap a its.toArray/\xs.length<=sizeLine:=by
 rcases h with h|⟨o,its,n,d,c,f,g,r⟩
 ·obtain⟨z,its,r,p⟩:=ZTI
  exact⟨its,r,p,z⟩
 ·refine⟨its.toList,r,⟨o,I.kIn a o d,c,n,by simpa using f⟩,?_⟩
  have e:=r.length
  simp only[Fs] at e
  lia
theorem Inv.iW (I:Z8) (h:ZMe) (h':SqL X.K H a ys):xs=ys:=by
 obtain⟨f,r,⟨o,n,e,_,_,d⟩,_⟩:=I.list h
 obtain⟨c,k,⟨o',l,i,_,_,g⟩,_⟩:=I.list h'
 rw[e] at i;cases i
 rw[d] at g
 injection g with j _
 have:f=c:=by simpa using congrArg Array.toList j
 subst this
 exact r.inj k
theorem Inv.sJ (I:Z8) (h:ZMd) (h':SqT X.K H a ys):xs=ys:=by
 obtain⟨f,r,⟨o,e,_,n,d⟩,_⟩:=I.tuple h
 obtain⟨c,k,⟨o',i,_,l,g⟩,_⟩:=I.tuple h'
 rw[e] at i;cases i
 rw[d] at g
 injection g with j _
 have:f=c:=by simpa using congrArg Array.toList j
 subst this
 exact r.inj k
end
noncomputable abbrev Cx.jA (X:Cx) (E:Value->Shared->Prop):Cx:={ X with xe:=E }
noncomputable abbrev Cx.nox (X:Cx):Cx:=X.jA λ _ _=>False
theorem Cx.Ok.jA {X:Cx}(c:X.Ok) (E:Value->Shared->Prop):ZSk:=
 ⟨c.mod,c.kind,c.glob,c.blt,c.above,c.inj,c.has,c.cab,c.hd,c.frames,c.stk,c.exf,c.bs,c.bsz,c.noex,c.exfs,c.iJ,c.frf⟩
theorem Cx.Ok.fY {X:Cx}{E:Value->Shared->Prop}(c:ZSk):X.Ok:=
 ⟨c.mod,c.kind,c.glob,c.blt,c.above,c.inj,c.has,c.cab,c.hd,c.frames,c.stk,c.exf,c.bs,c.bsz,c.noex,c.exfs,c.iJ,c.frf⟩
section
variable {X:Cx}{pins:List (Addr×Obj)}{σ:St}{H:Hp}{s:Shared}{E:Value->Shared->Prop}
theorem Inv.jA (I:Z8) (E:Value->Shared->Prop):ZEJ:=⟨I.ok.jA E,I.os,I.bare,I.base,I.loc,I.cell,I.free,I.freeC,I.pin,I.hok,I.len⟩
theorem Inv.fY (I:ZEJ):Z8:=⟨I.ok.fY,I.os,I.bare,I.base,I.loc,I.cell,I.free,I.freeC,I.pin,I.hok,I.len⟩
theorem SP.fY (h:SP (X.jA E) pins D f s'):SP X pins D f s':=by
 cases f with
 | next=>obtain⟨c,H',I,q⟩:=h;exact ZAJ
 | brk=>obtain⟨c,H',I,q⟩:=h;exact ZAJ
 | cont=>obtain⟨c,H',I,q⟩:=h;exact ZAJ
 | ret u=>obtain⟨v,c,H',I,r,q⟩:=h;exact⟨v,c,H',I.fY,r,q⟩
theorem PE.nox (h:PE X.nox e t):ZIh:=λ pins s σ H Q I d=>
 Ga (h pins s σ H Q ZP7 d) (λ _ _ ⟨v,H',c,r,q⟩=>⟨v,H',c.fY,r,q⟩) λ _ _ z=>ZQU
theorem PSs.nox {st:Z5f}{t:TS}(h:PSs X.nox st t):PSs X st t:=λ pins s σ H D I c=>
 Ga (h pins s σ H D ZP7 c) (λ _ _ q=>q.fY) λ _ _ z=>ZQU
end
section
variable {X:Cx}{st:Stmt}{rest:List Stmt}{t u:TS}{e:Expr}{te:TE}{pos:Pos}
def xO:TS:=λ D σ H=>D.nx σ H
def jF (t u:TS):TS:=λ D σ H=>t { D with nx:=u D } σ H
theorem bM:PSs X [] xO:=λ _ _ σ H _ I h=>JL ZME
theorem aW (h1:ZLJ) (h2:PSs X rest u):PSs X (st::rest) (jF t u):=by
 intro pins s σ H D I h
 refine Jz (thn (h1 pins s σ H { D with nx:=u D } I h) λ f s1 q=>?_)
 cases f with
 | next=>
  obtain⟨σ',H',I',q⟩:=q
  exact h2 pins s1 σ' H' D I' q
 | ret v=>exact q
 | brk=>exact q
 | cont=>exact q
theorem bg (h1:ZLJ):PSs X [st] t:=by
 intro pins s σ H D I h
 refine Jz (thn (h1 pins s σ H D I h) λ f c q=>?_)
 cases f with
 | next=>exact JL q
 | ret v=>exact q
 | brk=>exact q
 | cont=>exact q
theorem Inv.quiet (I:Z8):interactive X.env=false:=by simp[interactive,I.ok.kind]
def yE (te:TE):TS:=λ D σ H=>te σ H λ _ H1=>D.nx σ H1
theorem bN (d:Z5d) (hs:swapsWith e none pos.line X.env=pure false:=by rfl):PS X (.Expr e pos) (yE te):=by
 intro pins s σ H D I h
 exact wpAny_Expr_any (thn Z7u λ v i ⟨x,H1,c,g,f⟩=>⟨σ,H1,c,f⟩) I.quiet hs
def uZ (te:TE):TS:=λ D σ H=>te σ H D.rt
theorem bC (d:Z5d):PS X (.Return ZXV pos) (uZ te):=by
 intro pins s σ H D I h
 exact wpAny_Return_some (thn Z7u λ v i ⟨x,H1,c,g,f⟩=>⟨x,σ,H1,c,g,f⟩)
def DZ:TS:=λ D _ H=>D.rt .non H
theorem wO:PS X (.Return none pos) DZ:=λ _ _ σ H _ I h=>wpAny_Return_none ⟨.non,σ,H,I,rfl,h⟩
def Cn (c:TT) (t u:TS):TS:=λ D σ H=>c σ H λ b H1=>if b=true then t D σ H1 else u D σ H1
theorem bX (l:ZVL) (j:PSs X a t) (k:PSs X b u):PS X (.If c a b pos) (Cn tc t u):=by
 intro pins s σ H D I h
 refine wpAny_If (thn ZGe λ d i z=>?_)
 obtain⟨H1,f,g⟩:=z
 cases d with
 | true=>exact j pins i σ H1 D f g
 | false=>exact k pins i σ H1 D f g
def zP:TS:=λ _ _ _=>False
theorem gL:PS X st zP:=λ _ _ _ _ _ _ h=>h.elim
end
noncomputable abbrev TG:=V->St->Hp->(St->Hp->Prop)->Prop
noncomputable abbrev TGs:=List V->St->Hp->(St->Hp->Prop)->Prop
def PG (X:Cx) (target:Expr) (t:TG):Prop:=
 ∀ (pins:List (Addr×Obj)) (s:Shared) (σ:St) (H:Hp) (v:V) (u:Value) (Q:St->Hp->Prop),Inv X pins σ H s->RelV v u->t v σ H Q ->
  wpAny Z5 X.A (assign target X.env u) (λ _ s'=>∃ σ' H',Inv X pins σ' H' s'/\Q σ' H') X.xe s
def PGs (X:Cx) (ts:Z4L) (t:TGs):Prop:=
 ∀ (pins:List (Addr×Obj)) (s:Shared) (σ:St) (H:Hp) (vs:List V) (us:List Value) (Q:St->Hp->Prop),Inv X pins σ H s->Vals vs us->t vs σ H Q ->
  wpAny Z5 X.A (assignInOrder ((assignEach ts X.env).map (·.2)) us) (λ _ s'=>∃ σ' H',Inv X pins σ' H' s'/\Q σ' H') X.xe s
noncomputable abbrev yZ:=V->V->V->Hp->(Hp->Prop)->Prop
def Ax (X:Cx) (t:yZ):Prop:=
 ∀ (pins:List (Addr×Obj)) (s:Shared) (σ:St) (H:Hp) (o i v:V) (ov iv u:Value) (Q:Hp->Prop),Inv X pins σ H s->RelV o ov->RelV i iv->RelV v u->t o i v H Q ->
  wpAny Z5 X.A (setItem ov iv u) (λ _ s'=>∃ H',Inv X pins σ H' s'/\Q H') X.xe s
section
variable {X:Cx}{pos:Pos}
def dq (i:Nat):TG:=λ v σ H Q=>Q ZDg H
theorem bG (d:X.N.Nodup) (hi:X.N[i]? = some x) (g:Z6S) (f:X.fn x=true\/X.env.scope.names.lookup x=some .local:=by first|exact .inl rfl|exact .inr rfl|assumption):PG X Z3P ZEW:=by
 intro pins s σ H v u Q I r h
 exact wpAny_assign_Name (kH I d hi g r (λ j c=>⟨_,H,c,h⟩) f)
def E6:TGs:=λ vs σ H Q=>vs=[]/\Q σ H
inductive xV (t:TG) (u:TGs) (vs:List V) (σ:St) (H:Hp) (Q:St->Hp->Prop):Prop
 | mk:∀ v r,vs=v::r->(t v σ H λ σ' H'=>u r σ' H' Q)->xV t u vs σ H Q
theorem fi:PGs X [] E6:=by
 intro pins s σ H d c Q I r h
 obtain⟨e,h⟩:=h
 subst e
 cases r
 exact assignInOrder_nil ZME
theorem cq (h1:PG X e t) (h2:ZT_)
  (hs:(assignEach (e::es) X.env).map (·.2)=assign e X.env::(Z3l).map (·.2):=by rfl):PGs X (e::es) (xV t u):=by
 intro pins s σ H m k Q I r h
 obtain⟨v,l,f,h⟩:=h
 subst f
 cases r with
 | cons r i=>
  rw[hs]
  refine assignInOrder_cons (thn (h1 pins s σ H _ _ _ I r h) λ _ j z=>?_)
  obtain⟨c,H1,d,g⟩:=z
  exact h2 pins j c H1 _ _ Q d i g
inductive ze (K:PySem.W.Frag) (n:Nat) (t:TGs) (v:V) (σ:St) (H:Hp) (Q:St->Hp->Prop):Prop
 | mk:∀ a xs,v=.ref a->SqT K H a xs->xs.length=n->t xs σ H Q->ze K n t v σ H Q
theorem zh (j:X.calm=true) (h:PGs X es t)
  (m:(Z3l).length=n:=by rfl) (c:(Z3l).findIdx? (·.1)=none:=by rfl):PG X ZK3 (ze X.K n t):=by
 intro pins s σ H v u Q I r d
 obtain⟨a,xs,i,p,l,d⟩:=d
 subst i
 cases r
 obtain⟨z,f,q,A⟩:=I.tuple p
 refine assign_Tuple_tuple ZSn q (by simp[m,<- l,f.length]) c λ h' y=>?_
 have g:Inv X pins σ H { s with heap:=h' }:=I.kept (t':=s.toks) λ b o e=>y b o ZAg e
 exact h pins _ σ H xs _ Q g (by simpa using f) d
def ET (to ti:TE) (t:yZ):TG:=λ v σ H Q=>to σ H λ o H1=>ti σ H1 λ i H2=>t o i v H2 λ H3=>Q σ H3
theorem pM {o i:Expr}{to ti:TE}{t:yZ}(ho:ZCJ) (hi:PE X i ti) (hs:Ax X t)
  (ha:∀ v,assign Z8V X.env v=(do
   let ov <- holding [v] Z4u
   let iv <- holding [v,ov] (eval i X.env)
   standAt pos
   holding ZV8 (setItem ov iv v)
   release ZV8 []):=by intro _;rfl):PG X Z8V (ET to ti t):=by
 intro pins s σ H v u Q I r h
 rw[ha]
 refine E8 (F1 (thn (ho pins s σ H _ I h) λ ov s1 z=>?_))
 obtain⟨x,H1,I1,r1,q1⟩:=z
 refine E8 (F1 (thn (hi pins s1 σ H1 _ I1 q1) λ iv s2 z=>?_))
 obtain⟨y,H2,I2,r2,q2⟩:=z
 refine E8 (KC (E8 (F1 (thn (hs pins s2 σ H2 x y v ov iv u _ I2 r1 r2 r q2) λ _ s3 z=>?_))))
 obtain⟨H3,I3,q3⟩:=z
 exact wpAny_release ⟨σ,H3,I3,q3⟩
def qd (te:TE) (g:TG):TS:=λ D σ H=>te σ H λ x H1=>g x σ H1 D.nx
theorem jg (d:Z5d) (f:ZVM) (hs:swapsWithSole [tg] e pos.line X.env=pure false:=by rfl) (i:swappedStores [tg] e X.env=pure none:=by rfl)
  (h1:(assignEach [tg] X.env).map (·.2)=[assign tg X.env]:=by rfl):PS X (.Assign [tg] e pos) (qd te g):=by
 intro pins s σ H D I h
 refine wpAny_Assign_stores (thn Z7u λ v l z=>?_) hs i
 obtain⟨x,H1,c,k,j⟩:=z
 rw[h1]
 exact thn (f pins l σ H1 x v _ c k j) λ _ m q=>q
theorem bz (f:X.N.Nodup) (hi:X.N[i]? = some x) (k:Z6S) (g:Z5d) (hs:swapsWith e (some ZQd) pos.line X.env=pure false:=by rfl) (j:X.fn x=true\/X.env.scope.names.lookup x=some .local:=by first|exact .inl rfl|exact .inr rfl|assumption) :
  PS X (.Assign [ZQd] e pos) (qd te ZEW):=by
 intro pins s σ H D I h
 refine wpAny_Assign_Name (thn Z26 λ v n z=>?_) hs
 obtain⟨y,H1,c,m,l⟩:=z
 exact kH c f hi k m (λ p d=>⟨_,H1,d,l⟩) j
end
section
variable {X:Cx}{pos:Pos}
def z8 (c:TT) (tb:TS):TS:=λ D σ H=>∃ W:Nat->St->Hp->Prop,(∃ m,W m σ H)/\∀ m σ H,W m σ H ->
 c σ H λ b H1=>if b=true then ∃ N:St->Hp->Prop,(∀ σ' H',N σ' H'->∃ m',m'<m/\W m' σ' H')/\tb { D with nx:=N,ct:=N,bk:=ZGQ} σ H1 else D.nx σ H1
theorem i7 (C:ZCG) (J:ZVL) (G:ZO1):PS X (.While c body [] pos) (z8 tc tb):=by
 intro pins s σ H D I h
 obtain⟨W,⟨K,Q⟩,j⟩:=h
 refine wpAny_While (codeAny_whileLoop (λ n L=>∃ k H',Inv X pins k H' L/\W n k H') ?_ K ⟨σ,H,I,Q⟩)
 rintro n M ⟨g,H1,F,R⟩
 refine HZ C (thn (J pins M g H1 _ F (j n g H1 R)) λ b O z=>?_)
 obtain⟨H2,A,l⟩:=z
 cases b with
 | true=>
  obtain⟨N,B,l⟩:=l
  rw[Z1U]
  refine HZ C (thn (G pins O g H2 _ A l) λ f S m=>?_)
  cases f with
  | next=>
   obtain⟨d,i,p,y⟩:=m
   obtain⟨r,q,z⟩:=B d i y
   exact ZJB
  | cont=>
   obtain⟨d,i,p,y⟩:=m
   obtain⟨r,q,z⟩:=B d i y
   exact ZJB
  | brk=>exact m
  | ret v=>exact m
 | false=>
  rw[ZV_]
  exact JL ⟨g,H2,A,l⟩
end
structure It where
 go:Nat->Hp->Prop
 yld:Nat->Hp->V->Hp->Prop
 stop:Nat->Hp->Prop
def kQ (X:Cx) (pins:List (Addr×Obj)) (H:Hp) (b:Addr):Prop:=
 H b=none/\b≠X.env.locals/\b∉X.fs/\(b∈X.ex\/X.s₀.heap.objs.size<=b)/\(∀ x c,X.env.cells.lookup x=some c->c≠b)/\∀ p∈X.pn++pins,p.1≠b
theorem Inv.mO (I:Z8) (d:s.heap.objs.size<=b) (f:H' b=none):ZDO:=by
 refine⟨f,Gp (FA I.lt d),I.EY d,.inr (FC I.sz d),λ x c e z=>?_,λ p g z=>?_⟩
 ·obtain⟨v,q⟩:=Z7l
  exact absurd (FA q.lt (by rw[z];exact d)) ZB6
 ·exact absurd (FA (Heap.lt_size (I.pin p g).1) (by rw[z];exact d)) ZB6
structure Turn (P:Program) (w:World) (K:PySem.W.Frag) (tg:Expr) (J:It) (fp:List Addr) (it:Addr) (tn:Nat->Heap->Prop):Prop where
 mem:it∈fp
 obj:∀ i h,tn i h->∀ b∈fp,∃ o,h.get? b=some o/\∀ v,o.data≠.cell v
 keep:∀ i h h',tn i h->(∀ b∈fp,∀ o,h.get? b=some o->h'.get? b=some o)->tn i h'
 item:∀ (X:Cx),X.prog=P->X.w=w->X.K=K->X.calm=true->∀ (i:Nat) (pins:List (Addr×Obj)) (s:Shared) (σ:St) (H:Hp) (E:Value->Shared->Prop),Inv X pins σ H s->(∀ b∈fp,Z4E)->tn i s.heap->J.go i H ->
  wpAny Zh X.A Z40 (λ r s1=>∃ u,r=some u /\
   wpAny Zh X.A Z5v (λ _ s2=>∃ x H',Inv X pins σ H' s2/\RelV x u/\J.yld i H x H'/\tn (i+1) s2.heap/\∀ b∈fp,H' b=none) E s1) E s
 done:∀ (X:Cx),X.prog=P->X.w=w->X.K=K->X.calm=true->∀ (i:Nat) (pins:List (Addr×Obj)) (s:Shared) (σ:St) (H:Hp) (E:Value->Shared->Prop),Inv X pins σ H s->(∀ b∈fp,Z4E)->tn i s.heap->J.stop i H ->
  wpAny Zh X.A Z40 (λ r s1=>r=none/\Inv X pins σ H s1) E s
 self:∀ (A:Around) (i:Nat) (s:Shared) (Q:Value->Shared->Prop) (E:Value->Shared->Prop),tn i s.heap->Q Z0m s->wpAny Zh A (pyIter Z0m) Q E s
noncomputable abbrev TI:=St->Hp->(It->Hp->Prop)->Prop
def PIE (X:Cx) (pins:List (Addr×Obj)) (σ:St) (tg:Expr) (R:It->Hp->Prop) (itv:Value) (s2:Shared):Prop:=
 ∃ (it:Addr) (fp:List Addr) (tn:Nat->Heap->Prop) (J:It) (H':Hp),itv=.ref it/\Inv X pins σ H' s2/\Turn X.prog X.w X.K tg J fp it tn/\tn 0 s2.heap/\(∀ b∈fp,ZDO)/\R J H'
def PI (X:Cx) (tg iter:Expr) (wi:TI):Prop:=
 ∀ (pins:List (Addr×Obj)) (s:Shared) (σ:St) (H:Hp) (R:It->Hp->Prop),Inv X pins σ H s->wi σ H R ->
  wpAny Z5 X.A ZJu (λ v s1=>wpAny Z5 X.A (pyIter v) ZHJ X.xe s1) X.xe s
theorem rE (i:s.heap.get? it=some o) (d:o.cls=.type n) (f:o.data=.fields vs)
    (g:["enumerate","zip","dict_itemiterator","dict_reverseitemiterator","odict_iterator","itertools.zip_longest","itertools.pairwise"].contains n=false) (c:Q () s):wpAny M A Z5v Q E s:=by
  unfold letOwnedTupleGo
  cases tg<;>first
    | exact Fb c
    | (cases u<;>first
        | exact Fb c
        | (refine E8 (wpAny_load i ?_)
           rw[d,f]
           show wpAny M A (if (["enumerate","zip","dict_itemiterator","dict_reverseitemiterator","odict_iterator","itertools.zip_longest","itertools.pairwise"].contains n && vs[0]? == some (rawInt _))=true then _ else _) Q E s
           rw[Fj (by intro h;rw[g,Jn] at h;cases h)]
           exact Fb c))
noncomputable def Itl (K:PySem.W.Frag) (a:Addr):It:=
 ⟨λ i H=>∃ xs x,SqL K H a xs/\xs[i]? = some x,λ i H x H'=>H'=H/\∀ xs,SqL K H a xs->xs[i]? = some x,λ i H=>∃ xs,SqL K H a xs/\xs.length<=i⟩
noncomputable def Itt (K:PySem.W.Frag) (a:Addr):It:=
 ⟨λ i H=>∃ xs x,SqT K H a xs/\xs[i]? = some x,λ i H x H'=>H'=H/\∀ xs,SqT K H a xs->xs[i]? = some x,λ i H=>∃ xs,SqT K H a xs/\xs.length<=i⟩
noncomputable def Itr (lo:Int) (n:Nat):It:=⟨λ i _=>i<n,λ i H x H'=>H'=H/\x=.int (lo+i),λ i _=>n<=i⟩
theorem rZ {P:Program}{w:World}{K:PySem.W.Frag}{W:Expr}(a g:Addr):Turn P w K W Z94 [g] g (λ i h=>h.IsListIter g a i) where
 mem:=Zq
 obj:=λ i h st b f=>by
  have e:b=g:=by simpa using f
  subst e
  obtain⟨o,e,c,d⟩:=st
  exact⟨o,e,λ v z=>by rw[d] at z;cases z⟩
 keep:=λ i h h' st k=>ZE1
 item:=by
  intro X C F B M i pins s σ H E I l st D
  subst C F B
  obtain⟨xs,x,m,G⟩:=D
  obtain⟨J,L,p,T⟩:=ZX2
  obtain⟨u,R,U⟩:=L.get G
  obtain⟨n,q,Q,r,y,A⟩:=l g ZA
  refine wpAny_pyNext_list_item st p.isList (x:=u) (by simpa using R) λ h' j V=>?_
  have N:Inv X pins σ H { s with heap:=h' }:=I.turned (t':=s.toks) ZA_ n q r y A
  obtain⟨o,e,c,d⟩:=id j
  exact⟨u,rfl,rE (s:={ s with heap:=h' }) e c d Z3 ⟨x,H,N,U,⟨rfl,λ ys S=>by rw[I.iW S m];exact G⟩,j,λ b f=>(l b f).1⟩⟩
 done:=by
  intro X C F B M i pins s σ H E I l st D
  subst C F B
  obtain⟨xs,m,G⟩:=D
  obtain⟨J,L,p,T⟩:=ZX2
  obtain⟨n,q,Q,r,y,A⟩:=l g ZA
  have Y:=L.length
  exact wpAny_pyNext_list_end ZSo st p.isList (by simp;lia) λ h' O=>⟨rfl,I.turned (t':=s.toks) ZF7 n q r y A⟩
 self:=λ _ _ _ _ _ st h=>wpAny_pyIter_listiter st h
theorem pT {P:Program}{w:World}{K:PySem.W.Frag}{W:Expr}(a g:Addr):Turn P w K W ZM4 [g] g (λ i h=>h.IsTupleIter g a i) where
 mem:=Zq
 obj:=λ i h st b f=>by
  have e:b=g:=by simpa using f
  subst e
  obtain⟨o,e,c,d⟩:=st
  exact⟨o,e,λ v z=>by rw[d] at z;cases z⟩
 keep:=λ i h h' st k=>ZE1
 item:=by
  intro X D G C M i pins s σ H E I m st F
  subst D G C
  obtain⟨xs,x,n,J⟩:=F
  obtain⟨j,L,p,T⟩:=ZVS
  obtain⟨u,R,U⟩:=L.get J
  obtain⟨q,r,Q,y,A,B⟩:=m g ZA
  refine wpAny_pyNext_tuple_item st (show s.heap.IsTuple a j.toArray from p) (x:=u) (by simpa using R) λ h' l V=>?_
  have N:Inv X pins σ H { s with heap:=h' }:=I.turned (t':=s.toks) ZA_ q r y A B
  obtain⟨o,e,c,d⟩:=id l
  exact⟨u,rfl,rE (s:={ s with heap:=h' }) e c d Z3 ⟨x,H,N,U,⟨rfl,λ ys S=>by rw[I.sJ S n];exact J⟩,l,λ b f=>(m b f).1⟩⟩
 done:=by
  intro X D G C M i pins s σ H E I m st F
  subst D G C
  obtain⟨xs,n,J⟩:=F
  obtain⟨j,L,p,T⟩:=ZVS
  obtain⟨q,r,Q,y,A,B⟩:=m g ZA
  have Y:=L.length
  exact wpAny_pyNext_tuple_end ZSo st (show s.heap.IsTuple a j.toArray from p) (by simp;lia) λ h' O=>⟨rfl,I.turned (t':=s.toks) ZF7 q r y A B⟩
 self:=λ _ _ _ _ _ st h=>wpAny_pyIter_tupleiter st h
theorem pD {P:Program}{w:World}{K:PySem.W.Frag}{N:Expr}(c:Addr) (lo:Int) (n:Nat):Turn P w K N ZEv [c] c (λ i h=>IsRangeIter h c (lo+(i:Nat)*1) ((n:Int)-(i:Nat)) 1) where
 mem:=Zq
 obj:=λ i h st b d=>by
  have e:b=c:=by simpa using d
  subst e
  exact⟨_,st,λ v z=>by
   have O:Data.fields _=Data.cell v:=z
   cases O⟩
 keep:=λ i h h' st k=>k c ZA _ st
 item:=by
  intro X y C r A i pins s σ H E I g st B
  subst y C r
  obtain⟨j,l,J,m,p,q⟩:=g c ZA
  have W:=Walks.range (prog:=X.prog) (w:=X.w) ZSp c lo 1 n
  refine W.item i s _ _ B st λ v h' D L f M=>?_
  obtain⟨t,rfl⟩:=L
  have F:Inv X pins σ H { s with heap:=h',toks:=D }:=I.turned (λ b o d e=>M b o (by simpa using d) e) j l m p q
  refine⟨_,rfl,rE (s:={ s with heap:=h',toks:=D }) (n:="range_iterator") f rfl rfl Z3 ⟨.int (lo+i),H,F,⟨t,?_⟩,Z0a,f,λ b d=>(g b d).1⟩⟩
  rw[Int.mul_one]
 done:=by
  intro X y C r A i pins s σ H E I g st B
  subst y C r
  obtain⟨j,l,J,m,p,q⟩:=g c ZA
  exact wpAny_pyNext_range_end ZSp st (by have:n<=i:=B;lia) λ h' G=>⟨rfl,I.turned (t':=s.toks) (λ b o d e=>G b o d e) j l m p q⟩
 self:=λ _ _ _ _ _ st h=>wpAny_pyIter_rangeiter st h
section
variable {X:Cx}{tg:Expr}
inductive uW (K:PySem.W.Frag) (R:It->Hp->Prop) (x:V) (H1:Hp):Prop
 | mk:∀ a,x=.ref a->(∃ xs,SqL K H1 a xs)->R Z94 H1->uW K R x H1
def ym (K:PySem.W.Frag) (tl:TE):TI:=λ σ H R=>tl σ H λ x H1=>uW K R x H1
inductive yj (K:PySem.W.Frag) (R:It->Hp->Prop) (x:V) (H1:Hp):Prop
 | mk:∀ a,x=.ref a->(∃ xs,SqT K H1 a xs)->R ZM4 H1->yj K R x H1
def CY (K:PySem.W.Frag) (tl:TE):TI:=λ σ H R=>tl σ H λ x H1=>yj K R x H1
theorem wF {l:Expr}{f:TE}(i:PE X l f):PI X tg l (ym X.K f):=by
 intro pins s σ H R I h
 refine thn ZGi λ v d z=>?_
 obtain⟨x,H1,c,n,m⟩:=z
 obtain⟨a,e,⟨xs,j⟩,q⟩:=m
 subst e
 cases n
 obtain⟨k,y,p,r⟩:=c.list j
 refine Jq p.isList ?_
 refine⟨d.heap.objs.size,[d.heap.objs.size],_,_,H1,rfl,c.kept (t':=d.toks) λ b o e=>ZG,rZ a _,Z2i,λ b g=>?_,q⟩
 have e:b=d.heap.objs.size:=by simpa using g
 subst e
 exact ZE9
theorem zI {l:Expr}{g:TE}(j:PE X l g):PI X tg l (CY X.K g):=by
 intro pins s σ H R I h
 refine thn ZGg λ v c z=>?_
 obtain⟨x,H1,d,n,m⟩:=z
 obtain⟨a,e,⟨xs,k⟩,q⟩:=m
 subst e
 cases n
 obtain⟨f,y,p,r⟩:=d.tuple k
 refine wpAny_pyIter_tuple (show c.heap.IsTuple a f.toArray from p) ?_
 refine⟨c.heap.objs.size,[c.heap.objs.size],_,_,H1,rfl,d.kept (t':=c.toks) λ b o e=>ZG,pT a _,Z2i,λ b i=>?_,q⟩
 have e:b=c.heap.objs.size:=by simpa using i
 subst e
 exact d.mO Z9 (d.hok.fresh Z9)
theorem va {pins:List (Addr×Obj)}{σ:St}{H:Hp}{s:Shared}{R:It->Hp->Prop}{E:Value->Shared->Prop}{lo hi:Int}{t u v:Tok}{d:Nat}(I:Z8) (h1 : -(2 ^ 62)<=lo) (h2:lo<2 ^ 62) (i : -(2 ^ 62)<=hi) (j:hi<2 ^ 62)
  (q:R (Itr lo (hi-lo).toNat) H):wpAny Z5 X.A (pyIter ZI) ZHJ E { s with heap:=s.heap.push { cls:=Z3H,data:=.fields #[Z9o,Z9q,ZBj] },toks:=d }:=by
 refine wpAny_pyIter_range (IsRange.new ..) (small_one h1 h2 i j) ?_
 have c:Inv X pins σ H { s with heap:=s.heap.push { cls:=Z3H,data:=.fields #[Z9o,Z9q,ZBj] },toks:=d }:=I.kept λ b o e=>ZG
 refine⟨(s.heap.push { cls:=Z3H,data:=.fields #[Z9o,Z9q,ZBj] }).objs.size,[(s.heap.push { cls:=Z3H,data:=.fields #[Z9o,Z9q,ZBj] }).objs.size],_,_,H,rfl,
  c.kept (t':=d) λ b o e=>ZG,pD _ lo (hi-lo).toNat,?_,λ b k=>?_,q⟩
 ·have f:lo+((0:Nat):Int)*1=lo:=Zq
  have g:(((hi-lo).toNat:Nat):Int)-((0:Nat):Int)=Builtin.Range.rangeSize lo hi 1:=by rw[rangeSize_one];split<;>lia
  show IsRangeIter _ _ (lo+((0:Nat):Int)*1) ((((hi-lo).toNat:Nat):Int)-((0:Nat):Int)) 1
  rw[f,g]
  exact ZH
 ·have e:b=(s.heap.push { cls:=Z3H,data:=.fields #[Z9o,Z9q,ZBj] }).objs.size:=by simpa using k
  subst e
  exact ZE9
inductive tI (R:It->Hp->Prop) (vs:List V) (H1:Hp):Prop
 | mk:∀ j:Int,vs=[Z2k] -> -(2 ^ 62)<=j->j<2 ^ 62->R (Itr 0 j.toNat) H1->tI R vs H1
def yS (ta:TA):TI:=λ σ H R=>ta σ H λ vs H1=>tI R vs H1
theorem c8 {a:Expr}{ta:TA}{p pos:Pos}(g:Gl X "range") (i:X.mg "range" = none) (f:ZRk) (hs:starEach [a] X.env=[(false,Z7Z)]:=by rfl):PI X tg (.Call (.Name "range" p) [a] [] pos) (yS ta):=by
 intro pins s σ H R I h
 refine Call_ (iG I g i boot_range (Ie (thn (f pos pins s σ H _ I h) λ v n z=>?_) hs rfl))
 obtain⟨y,H1,d,l,c⟩:=z
 obtain⟨j,e,c,k,q⟩:=c
 subst e
 cases l with
 | cons r m=>
  cases m
  obtain⟨t,rfl⟩:=r
  exact call_range_1 (va d Z2 Z2 c k (by simpa using q))
def Eu (wi:TI) (g:TG) (tb:TS):TS:=λ D σ H=>wi σ H λ J H1=>∃ W:Nat->Nat->St->Hp->Prop,(∃ m,W 0 m σ H1)/\∀ i m σ H,W i m σ H ->
 (J.stop i H/\D.nx σ H)\/(J.go i H/\∃ N:St->Hp->Prop,(∀ σ' H',N σ' H'->∃ m',m'<m/\W (i+1) m' σ' H')/\∀ x H',J.yld i H x H'->g x σ H' λ σ2 H2=>tb { D with nx:=N,ct:=N,bk:=ZGQ} σ2 H2)
noncomputable def mD (fp:Z09) (h:Heap):List (Addr×Obj):=fp.filterMap λ b=>(h.get? b).map λ o=>(b,o)
theorem fI (c:b∈fp) (e:h.get? b=some o):(b,o)∈mD fp h:=List.mem_filterMap.mpr ⟨b,c,by rw[e];rfl⟩
theorem rS (f:p∈mD fp h):p.1∈fp/\h.get? p.1=some p.2:=by
 obtain⟨b,d,e⟩:=List.mem_filterMap.mp f
 cases q:h.get? b with
 | none=>rw[q] at e;cases e
 | some o=>
  rw[q] at e
  have c:(b,o)=p:=ZAR
  subst c
  exact⟨d,q⟩
theorem Inv.pinned (I:Z8) (l:∀ b∈f,Z4E) (m:∀ b∈f,∃ o,s.heap.get? b=some o/\∀ v,o.data≠.cell v):Inv X (pins++mD f s.heap) σ H s:=
 I.rD λ p n=>(Fm.mp n).elim (λ z=>I.pin p (FP _ z)) λ z=>by
  obtain⟨g,e⟩:=rS z
  obtain⟨i,j,k,_⟩:=l p.1 g
  obtain⟨o,c,d⟩:=m p.1 g
  rw[e] at c;cases c
  exact⟨e,i,j,k,d⟩
theorem Inv.iZ (I:Inv X (pins++pl) σ H s):Z8:=I.rD λ p c=>I.pin p (FP _ (Ge _ c))
theorem dD {iter:Expr}{body:Z5f}{wi:TI}{g:TG}{tb:TS}{pos:Pos}(hp:ZCG) (hc:X.calm=true) (hi:ZCI) (hg:ZVM) (hb:ZO1)
  (hs:∀ x,foldedSetIterable iter X.env x=pure x:=by intro _;rfl):PS X (.For tg iter body [] pos) (Eu wi g tb):=by
 intro pins s σ H D I h
 refine wpAny_For Z19 hs
 obtain⟨it,fp,tn,J,H2,e,I2,T,st2,f2,W,⟨m0,w0⟩,turn⟩:=h2
 subst e
 have stat:∀ {H':Hp},(∀ b∈fp,H' b=none)->∀ b∈fp,ZDO:=λ hn b hb=>⟨hn b hb,(f2 b hb).2⟩
 refine codeAny_forLoop_any (λ n s'=>∃ i σ' H',Inv X pins σ' H' s'/\tn i s'.heap/\(∀ b∈fp,H' b=none)/\W i n σ' H') ?_ m0 ⟨0,σ,H2,I2,st2,λ b hb=>(f2 b hb).1,w0⟩
 rintro n s3 ⟨i,σ3,H3,I3,st3,fr3,w3⟩
 rcases turn i n σ3 H3 w3 with ⟨stop,qn⟩|⟨go,N,hN,step⟩
 ·refine HZ hp (thn (T.done X rfl rfl rfl hc i pins s3 σ3 H3 X.xe I3 ZU0 st3 stop) λ r s4 z=>?_)
  obtain⟨hr,I4⟩:=z
  subst hr
  exact JL ⟨σ3,H3,I4,qn⟩
 ·refine HZ hp (thn (T.item X rfl rfl rfl hc i pins s3 σ3 H3 X.xe I3 ZU0 st3 go) λ r s4 z=>?_)
  obtain⟨u,hr,h4⟩:=z
  subst hr
  refine HZ hp (thn h4 λ _ s5 z=>?_)
  obtain⟨x,H5,I5,r5,y5,st5,fr5⟩:=z
  have I5':=I5.pinned (stat fr5) (T.obj _ _ st5)
  refine HZ hp (thn (hg _ s5 σ3 H5 x u _ I5' r5 (step x H5 y5)) λ _ s6 z=>?_)
  obtain⟨σ6,H6,I6,q6⟩:=z
  refine HZ hp (thn (hb _ s6 σ6 H6 _ I6 q6) λ f s7 q7=>?_)
  have again:∀ {σ7:St} {H7:Hp},Inv X (pins++mD fp s5.heap) σ7 H7 s7->N σ7 H7->∃ m,m<n/\∃ i σ' H',Inv X pins σ' H' s7/\tn i s7.heap/\(∀ b∈fp,H' b=none)/\W i m σ' H':=λ{σ7 H7} I7 n7=>by
   obtain⟨m',hm,w7⟩:=hN σ7 H7 n7
   refine⟨m',hm,i+1,σ7,H7,I7.iZ,T.keep _ _ _ st5 λ b hb o e=>(I7.pin (b,o) ZFL).1,λ b hb=>?_,w7⟩
   obtain⟨o,e,d⟩:=T.obj _ _ st5 b hb
   exact(I7.pin (b,o) ZFL).2.1
  cases f with
  | next=>obtain⟨σ7,H7,I7,n7⟩:=q7;exact ZRa
  | cont=>obtain⟨σ7,H7,I7,n7⟩:=q7;exact ZRa
  | brk=>obtain⟨σ7,H7,I7,q7⟩:=q7;exact⟨σ7,H7,I7.iZ,q7⟩
  | ret v=>obtain⟨x7,σ7,H7,I7,r7,q7⟩:=q7;exact⟨x7,σ7,H7,I7.iZ,r7,q7⟩
end
theorem i6 {K:PySem.W.Frag}{a:Addr}{xs:Z11}{g:TG}{tb:TS}{D:Ends}{σ:St}{H:Hp}(Pv:Nat->St->Hp->Prop) (h0:ZGD) (hl:∀ i σ H,i<=xs.length->Pv i σ H->SqL K H a xs)
  (hs:∀ i x σ H,xs[i]? = some x->Pv i σ H->g x σ H λ σ2 H2=>tb { D with nx:=Pv (i+1),ct:=Pv (i+1),bk:=ZGQ} σ2 H2) (hd:∀ σ H,Pv xs.length σ H->D.nx σ H) :
  ∃ W:Nat->Nat->St->Hp->Prop,(∃ m,ZED)/\∀ i m σ H,W i m σ H ->
   ((Z94).stop i H/\D.nx σ H)\/((Z94).go i H/\∃ N:St->Hp->Prop,(∀ σ' H',N σ' H'->∃ m',m'<m/\W (i+1) m' σ' H')/\∀ x H',(Z94).yld i H x H'->g x σ H' λ σ2 H2=>tb { D with nx:=N,ct:=N,bk:=ZGQ} σ2 H2):=by
 refine⟨λ i m σ H=>m=xs.length-i/\i<=xs.length/\Pv i σ H,ZD3,?_⟩
 rintro i m σ H ⟨rfl,hi,p⟩
 have q:=ZDP
 by_cases hlt:i<xs.length
 ·refine .inr ⟨⟨xs,xs[i],q,by simp[hlt]⟩,Pv (i+1),λ σ' H' p'=>⟨xs.length-(i+1),by lia,rfl,hlt,p'⟩,λ x H' y=>?_⟩
  obtain⟨e,y⟩:=y
  subst e
  exact hs i x σ _ ZXR p
 ·have e:i=xs.length:=Z2
  subst e
  exact Z9K
theorem dQ {lo:Int}{n:Nat}{g:TG}{tb:TS}{D:Ends}{σ:St}{H:Hp}(Pv:Nat->St->Hp->Prop) (h0:ZGD)
  (hs:∀ i σ H,i<n->Pv i σ H->g (.int (lo+i)) σ H λ σ2 H2=>tb { D with nx:=Pv (i+1),ct:=Pv (i+1),bk:=ZGQ} σ2 H2) (hd:∀ σ H,Pv n σ H->D.nx σ H) :
  ∃ W:Nat->Nat->St->Hp->Prop,(∃ m,ZED)/\∀ i m σ H,W i m σ H ->
   ((ZEv).stop i H/\D.nx σ H)\/((ZEv).go i H/\∃ N:St->Hp->Prop,(∀ σ' H',N σ' H'->∃ m',m'<m/\W (i+1) m' σ' H')/\∀ x H',(ZEv).yld i H x H'->g x σ H' λ σ2 H2=>tb { D with nx:=N,ct:=N,bk:=ZGQ} σ2 H2):=by
 refine⟨λ i m σ H=>m=n-i/\i<=n/\Pv i σ H,⟨n,Zq,ZH9,h0⟩,?_⟩
 rintro i m σ H ⟨rfl,hi,p⟩
 by_cases hlt:i<n
 ·refine .inr ⟨hlt,Pv (i+1),λ σ' H' p'=>⟨n-(i+1),Z2,rfl,hlt,p'⟩,λ x H' y=>?_⟩
  obtain⟨e,y⟩:=y
  subst e y
  exact hs i σ _ hlt p
 ·have e:i=n:=Z2
  subst e
  exact .inl ⟨Z9,ZUo⟩
noncomputable abbrev R2:=V->V->Hp->VK->Prop
def OpR (X:Cx) (f:Value->Value->Sem Value) (r:R2):Prop:=
 ∀ (pins:List (Addr×Obj)) (s:Shared) (σ:St) (H:Hp) (x y:V) (v u:Value) (Q:VK),Inv X pins σ H s->RelV x v->RelV y u->r x y H Q ->
  wpAny Z5 X.A ZSa Z0N X.xe s
def UnR (X:Cx) (f:Value->Sem Value) (r:V->Hp->VK->Prop):Prop:=
 ∀ (pins:List (Addr×Obj)) (s:Shared) (σ:St) (H:Hp) (x:V) (v:Value) (Q:VK),Inv X pins σ H s->RelV x v->r x H Q ->
  wpAny Z5 X.A (f v) Z0N X.xe s
def cN (X:Cx) (f:Value) (r:List V->Hp->VK->Prop):Prop:=
 ∀ (pins:List (Addr×Obj)) (s:Shared) (σ:St) (H:Hp) (xs:List V) (us:List Value) (Q:VK),Inv X pins σ H s->Vals xs us->r xs H Q ->
  wpAny Z5 X.A (call f us) Z0N X.xe s
def ER (X:Cx) (r:V->Hp->(Bool->Hp->Prop)->Prop):Prop:=
 ∀ (pins:List (Addr×Obj)) (s:Shared) (σ:St) (H:Hp) (x:V) (v:Value) (Q:Bool->Hp->Prop),Inv X pins σ H s->RelV x v->r x H Q ->
  wpAny Z5 X.A ZEU ZBQ X.xe s
def tOp (r:R2) (ta tb:TE):TE:=λ σ H Q=>ta σ H λ x H1=>tb σ H1 λ y H2=>r x y H2 Q
def tUn (r:V->Hp->VK->Prop) (ta:TE):TE:=λ σ H Q=>ta σ H λ x H1=>r x H1 Q
inductive rI (C:Int->Int->Prop) (g:Int->Int->V) (x:V) (y:V) (H:Hp) (Q:VK):Prop
 | mk:∀ i j,x=.int i->y=.int j->C i j->Q Z6u H->rI C g x y H Q
inductive rI0 (g:Int->Int->V) (x:V) (y:V) (H:Hp) (Q:VK):Prop
 | mk:∀ i j,x=.int i->y=.int j->Q Z6u H->rI0 g x y H Q
inductive rU (g:Int->V) (x:V) (H:Hp) (Q:VK):Prop
 | mk:∀ i,x=.int i->Q (g i) H->rU g x H Q
section
variable {X:Cx}{a b c:Expr}{ta tb tc:TE}{pos:Pos}
theorem z9 (l:Z3Y) (m:ZCL) {pins:List (Addr×Obj)}{s:Shared}{σ:St}{H:Hp}{R:V->V->Hp->Prop}(I:Z8)
  (h:ta σ H λ x H1=>tb σ H1 λ y H2=>R x y H2) {Q:Value->Shared->Prop} {f:Value->Value->Sem Value}
  (n:∀ v u i x y H2,Inv X pins σ H2 i->RelV x v->RelV y u->R x y H2->wpAny Z5 X.A ZSa Q X.xe i) :
  wpAny Z5 X.A Z7Z (λ v d=>wpAny Z5 X.A ZAr (λ u g=>wpAny Z5 X.A ZSa Q X.xe g) X.xe d) X.xe s:=by
 refine thn ZGe λ v A z=>?_
 obtain⟨x,H1,j,r,p⟩:=z
 refine thn (m pins A σ H1 _ j p) λ u i w=>?_
 obtain⟨y,H2,k,z,q⟩:=w
 exact n v u i x y H2 k r z q
theorem bB {op:Operator}{r:R2}(i:OpR X (binaryOp op) r) (f:Z3Y) (g:ZCL):PE X (.BinOp a op b pos) Z9w:=by
 intro pins s σ H Q I h
 exact wpAny_BinOp (z9 f g I h λ v u l x y H2 d j k q=>i pins l σ H2 x y v u Q d j k q)
theorem jv (g:UnR X (unaryOp op) r) (f:Z3Y):PE X (.UnaryOp op a pos) (tUn r ta):=by
 intro pins s σ H Q I h
 exact UnaryOp_ (thn (f pins s σ H _ I h) λ v k ⟨x,H1,d,j,i⟩=>g pins k σ H1 x v Q d j i)
theorem opI {f:Value->Value->Sem Value}{C:Int->Int->Prop}{g:Int->Int->Int}
  (d:∀ (i j:Int) (t u:Tok) (s:Shared) (Q:Value->Shared->Prop) (E:Value->Shared->Prop),C i j->Q ZK2 { s with toks:=s.toks+1 }->wpAny Z5 X.A Z6H Q E s) :
  OpR X f (rI C λ i j=>ZXL):=by
 intro pins s σ H x y v u Q I l m h
 obtain⟨i,j,rfl,rfl,k,q⟩:=h
 obtain⟨t,rfl⟩:=l
 obtain⟨n,rfl⟩:=m
 exact d i j t n s _ _ k ZD5
theorem Dq {f:Value->Value->Sem Value}{g:Int->Int->Int}
  (d:∀ (i j:Int) (t u:Tok) (s:Shared) (Q:Value->Shared->Prop) (E:Value->Shared->Prop),Q ZK2 { s with toks:=s.toks+1 }->wpAny Z5 X.A Z6H Q E s) :
  OpR X f (rI0 λ i j=>ZXL):=by
 intro pins s σ H x y v u Q I k l h
 obtain⟨i,j,rfl,rfl,q⟩:=h
 obtain⟨t,rfl⟩:=k
 obtain⟨m,rfl⟩:=l
 exact d i j t m s _ _ ZD5
theorem xy {f:Value->Value->Sem Value}{g:Int->Int->Bool}
  (d:∀ (i j:Int) (t u:Tok) (s:Shared) (Q:Value->Shared->Prop) (E:Value->Shared->Prop),Q (.bool Z6u) s->wpAny Z5 X.A Z6H Q E s) :
  OpR X f (rI0 λ i j=>.bl Z6u):=by
 intro pins s σ H x y v u Q I k l h
 obtain⟨i,j,rfl,rfl,q⟩:=h
 obtain⟨t,rfl⟩:=k
 obtain⟨m,rfl⟩:=l
 exact d i j t m s _ _ ⟨.bl Z6u,H,I,rfl,q⟩
def oz (i j:Int):Prop:=0<j/\j<1073741824
def oC (i j:Int):Prop:=(-(2 ^ 64)<i/\i<2 ^ 64)\/(-(2 ^ 64)<j/\j<2 ^ 64)
theorem oC.ok (h:oC i j):IntMulOk i j:=by
 rcases h with ⟨h1,h2⟩|⟨h1,h2⟩
 ·exact .of_left ZGh
 ·exact .of_right ZGh
theorem cY:OpR X ZM1 (rI0 λ i j=>.int (i+j)):=Dq λ _ _ _ _ _ _ _ q=>add_int q
theorem nH:OpR X (binaryOp .Sub) (rI0 λ i j=>.int (i-j)):=Dq λ _ _ _ _ _ _ _ q=>sub_int q
theorem iC:OpR X ZKT (rI oC λ i j=>.int (i*j)):=opI λ _ _ _ _ _ _ _ d q=>mul_int q d.ok
theorem cx:OpR X (binaryOp .FloorDiv) (rI oz λ i j=>.int (i/j)):=opI λ i j _ _ _ _ _ d q=>by
 have h1:(0:Int)<j:=d.1
 have h2:j<1073741824:=d.2
 exact floordiv_int Z2 (by rw[Int.fdiv_eq_ediv_of_nonneg i Z2];exact q) (.inl (PyProof.noPylong_small Z2))
theorem bU:OpR X (binaryOp .Mod) (rI (λ _ j=>0<j) λ i j=>.int (i%j)):=opI λ i j _ _ _ _ _ d q=>by
 have h1:(0:Int)<j:=d
 exact mod_int' Z2 (by rw[Int.fmod_eq_emod_of_nonneg i Z2];exact q)
theorem unI {f:Value->Sem Value}{g:Int->Int}
  (d:∀ (i:Int) (t:Tok) (s:Shared) (Q:Value->Shared->Prop) (E:Value->Shared->Prop),Q (.int (g i) s.toks) { s with toks:=s.toks+1 }->wpAny Z5 X.A (f ZBh) Q E s) :
  UnR X f (rU λ i=>ZTv):=by
 intro pins s σ H x v Q I j h
 obtain⟨i,rfl,q⟩:=h
 obtain⟨t,rfl⟩:=j
 exact d i t s _ _ ⟨ZTv,H,Z2A,Z1_,q⟩
theorem gM:UnR X (unaryOp .USub) (rU λ i=>.int (-i)):=unI λ _ _ _ _ _ q=>neg_int q
end
noncomputable def Bq:V->V->Bool
 | .non,.non=>true | .non,.int _=>true | .int _,.non=>true | .non,.bl _=>true | .bl _,.non=>true | .non,.str _=>true | .str _,.non=>true
 | .int _,.int _=>true | .bl _,.bl _=>true | .str _,.str _=>true | .byt _,.byt _=>true
 | .int _,.str _=>true | .str _,.int _=>true | .bl _,.str _=>true | .str _,.bl _=>true
 | _,_=>false
def rEq:R2:=λ x y H Q=>Bq x y=true/\Q (.bl (decide (x=y))) H
def rNe:R2:=λ x y H Q=>Bq x y=true/\Q (.bl (!decide (x=y))) H
theorem q9:decide (V.int i=V.int j)=(i == j):=by
 rw[Ib]
 simp
theorem tP:decide (V.bl i=V.bl j)=(i == j):=by
 rw[Ib]
 simp
theorem qU:decide (V.str i=V.str j)=(i == j):=by
 rw[Ib]
 simp
theorem qS:decide (V.byt i=V.byt j)=(i.toList == j.toList):=by
 rw[Ib]
 cases i
 cases j
 simp
section
variable {X:Cx}{a b c:Expr}{ta tb tc:TE}{pos:Pos}
theorem bZ (I:Z8) (q:Q (.bl k) H) (e:k=k'):EP X pins σ Q (.bool k') s:=by
 subst e
 exact⟨.bl k,H,I,rfl,q⟩
theorem eX:OpR X ZCn rEq:=by
 intro pins s σ H x y v u Q I rx ry h
 obtain⟨hs,q⟩:=h
 cases x with
 | non=>
  cases rx
  cases y with
  | non=>cases ry;exact PySem.EqNone.eq_none_none Z0W
  | bl j=>cases ry;exact PySem.EqNone.eq_none_bool Z0W
  | int j=>obtain⟨t',rfl⟩:=ry;exact PySem.EqNone.eq_none_int Z0W
  | str j=>obtain⟨t',rfl⟩:=ry;exact PySem.EqNone.eq_none_str Z0W
  | _=>exact absurd (show false=true from hs) Fv
 | bl i=>
  cases rx
  cases y with
  | non=>cases ry;exact PySem.EqNone.eq_bool_none Z0W
  | bl j=>cases ry;exact eq_bool (bZ I q tP)
  | str j=>obtain⟨t',rfl⟩:=ry;exact PySem.EqMixed.eq_bool_str Z0W
  | _=>exact absurd (show false=true from hs) Fv
 | int i=>
  obtain⟨t,rfl⟩:=rx
  cases y with
  | non=>cases ry;exact PySem.EqNone.eq_int_none Z0W
  | int j=>obtain⟨t',rfl⟩:=ry;exact eq_int (bZ I q q9)
  | str j=>obtain⟨t',rfl⟩:=ry;exact PySem.EqMixed.eq_int_str Z0W
  | _=>exact absurd (show false=true from hs) Fv
 | str i=>
  obtain⟨t,rfl⟩:=rx
  cases y with
  | non=>cases ry;exact PySem.EqNone.eq_str_none Z0W
  | bl j=>cases ry;exact PySem.EqMixed.eq_str_bool Z0W
  | int j=>obtain⟨t',rfl⟩:=ry;exact PySem.EqMixed.eq_str_int Z0W
  | str j=>obtain⟨t',rfl⟩:=ry;exact eq_str (bZ I q qU)
  | _=>exact absurd (show false=true from hs) Fv
 | byt i=>
  obtain⟨t,rfl⟩:=rx
  cases y with
  | byt j=>obtain⟨t',rfl⟩:=ry;exact PySem.W.eq_bytes (bZ I q qS)
  | _=>exact absurd (show false=true from hs) Fv
 | _=>cases y<;>exact absurd (show false=true from hs) Fv
theorem qM:OpR X ZA0 rNe:=by
 intro pins s σ H x y v u Q I rx ry h
 obtain⟨hs,q⟩:=h
 cases x with
 | non=>
  cases rx
  cases y with
  | non=>cases ry;exact PySem.EqNone.ne_none_none Z0W
  | bl j=>cases ry;exact PySem.EqNone.ne_none_bool Z0W
  | int j=>obtain⟨t',rfl⟩:=ry;exact PySem.EqNone.ne_none_int Z0W
  | str j=>obtain⟨t',rfl⟩:=ry;exact PySem.EqNone.ne_none_str Z0W
  | _=>exact absurd (show false=true from hs) Fv
 | bl i=>
  cases rx
  cases y with
  | non=>cases ry;exact PySem.EqNone.ne_bool_none Z0W
  | bl j=>cases ry;exact ne_bool (bZ I q (congrArg not tP))
  | str j=>obtain⟨t',rfl⟩:=ry;exact PySem.EqMixed.ne_bool_str Z0W
  | _=>exact absurd (show false=true from hs) Fv
 | int i=>
  obtain⟨t,rfl⟩:=rx
  cases y with
  | non=>cases ry;exact PySem.EqNone.ne_int_none Z0W
  | int j=>obtain⟨t',rfl⟩:=ry;exact ne_int (bZ I q (congrArg not q9))
  | str j=>obtain⟨t',rfl⟩:=ry;exact PySem.EqMixed.ne_int_str Z0W
  | _=>exact absurd (show false=true from hs) Fv
 | str i=>
  obtain⟨t,rfl⟩:=rx
  cases y with
  | non=>cases ry;exact PySem.EqNone.ne_str_none Z0W
  | bl j=>cases ry;exact PySem.EqMixed.ne_str_bool Z0W
  | int j=>obtain⟨t',rfl⟩:=ry;exact PySem.EqMixed.ne_str_int Z0W
  | str j=>obtain⟨t',rfl⟩:=ry;exact ne_str (bZ I q (congrArg not qU))
  | _=>exact absurd (show false=true from hs) Fv
 | byt i=>
  obtain⟨t,rfl⟩:=rx
  cases y with
  | byt j=>obtain⟨t',rfl⟩:=ry;exact PySem.W.ne_bytes (bZ I q (congrArg not qS))
  | _=>exact absurd (show false=true from hs) Fv
 | _=>cases y<;>exact absurd (show false=true from hs) Fv
theorem jr:OpR X (compareOp .Lt) (rI0 λ i j=>.bl (decide (i<j))):=xy λ _ _ _ _ _ _ _ q=>lt_int q
theorem rK:OpR X (compareOp .LtE) (rI0 λ i j=>.bl (decide (i<=j))):=xy λ _ _ _ _ _ _ _ q=>le_int q
theorem tJ:OpR X (compareOp .Gt) (rI0 λ i j=>.bl (decide (j<i))):=xy λ _ _ _ _ _ _ _ q=>gt_int q
theorem qB:OpR X (compareOp .GtE) (rI0 λ i j=>.bl (decide (j<=i))):=xy λ _ _ _ _ _ _ _ q=>ge_int q
theorem iO:OpR X (compareOp .IsNot) (λ x y H Q=>y=.non/\Q (.bl (!decide (x=.non))) H):=by
 intro pins s σ H x y v u Q I d f h
 obtain⟨rfl,q⟩:=h
 cases f
 refine isnot_none_gen (bZ I q ?_)
 cases x<;>first
  | (cases d;rfl)
  | (obtain⟨t,rfl⟩:=d;rfl)
theorem bJ (b:Expr) (h:op≠.In:=by decide) (h2:op≠.NotIn:=by decide):behindInMarks op b=false:=by
 have d:(op == CmpOp.In)=false:=by cases op<;>first|rfl|exact ZG3
 have f:(op == CmpOp.NotIn)=false:=by cases op<;>first|rfl|exact ZNp
 cases b<;>simp[behindInMarks,d,f]
theorem cX {op:CmpOp}{r:R2}(j:ZFX) (f:Z3Y) (g:ZCL) (i:behindInMarks op b=false):PE X Z6K Z9w:=by
 intro pins s σ H Q I h
 exact wpAny_Compare1 (z9 f g I h λ v u m x y H2 d k l q=>j pins m σ H2 x y v u Q d k l q) i
inductive uN (Q:Bool->Hp->Prop) (x:V) (H':Hp):Prop
 | mk:∀ k,x=.bl k->Q k H'->uN Q x H'
def i5 (t:TE):TT:=λ σ H Q=>t σ H λ x H'=>uN Q x H'
theorem bH (n:ZFX) (j:Z3Y) (l:ZCL) (m:behindInMarks op b=false):PT X Z6K (i5 Z9w):=by
 intro pins s σ H Q I h
 refine wpAny_isTrue_Compare1 (thn ZGg λ v F ⟨x,H1,f,B,p⟩=>thn (l pins F σ H1 _ f p) λ u G ⟨y,H2,g,C,q⟩=>
  thn (n pins G σ H2 x y v u _ g B C q) λ c J ⟨z,d,i,D,k,e,A⟩=>?_) m
 subst e
 cases D
 exact GN ⟨d,i,A⟩
def y6 (K:PySem.W.Frag) (x:V) (H:Hp) (k:Bool):Prop:=
 match x with
 | .non=>k=false
 | .bl b=>k=b
 | .int i=>k=(i != 0)
 | .str y=>y.length<=sizeLine/\k=((y.length:Int) != 0)
 | .byt y=>y.size<=sizeLine/\k=((y.size:Int) != 0)
 | .ref p=>(∃ xs,SqL K H p xs/\k = !xs.isEmpty)\/(∃ xs,SqT K H p xs/\k = !xs.isEmpty)\/∃ kvs,H p=some Z2e/\k = !kvs.isEmpty
 | _=>False
theorem pO (r:Z7i):(!vs.isEmpty) = !kvs.isEmpty:=by
 cases r<;>rfl
theorem kF (r:Vals xs its):(!its.toArray.isEmpty) = !xs.isEmpty:=by
 cases r<;>simp
theorem j9:(sizeLine:Nat)<2 ^ 63:=by rw[GG];decide
theorem vy:ER X (λ x H Q=>∃ k,y6 X.K x H k/\Q k H):=by
 intro pins s σ H x v Q I rx h
 obtain⟨k,e,q⟩:=h
 have hl:=j9
 have hs:sizeLine=16777216:=GG
 cases x with
 | non=>
  cases rx
  have e':k=false:=e
  subst e'
  exact truthy_none ZHU
 | bl b=>
  cases rx
  have e':k=b:=e
  subst e'
  exact GN ZHU
 | int i=>
  obtain⟨t,rfl⟩:=rx
  have e':k=(i != 0):=e
  subst e'
  exact PySem.P.truthy_int ZHU
 | str y=>
  obtain⟨t,rfl⟩:=rx
  obtain⟨hy,e'⟩:y.length<=sizeLine/\k=((y.length:Int) != 0):=e
  subst e'
  exact PySem.P.truthy_str Z2 ZNJ
 | byt y=>
  obtain⟨t,rfl⟩:=rx
  obtain⟨hy,e'⟩:y.size<=sizeLine/\k=((y.size:Int) != 0):=e
  subst e'
  exact PySem.W.truthy_bytes Z2 ZNJ
 | ref p=>
  cases rx
  have e':(∃ xs,SqL X.K H p xs/\k = !xs.isEmpty)\/(∃ xs,SqT X.K H p xs/\k = !xs.isEmpty)\/∃ kvs,H p=some Z2e/\k = !kvs.isEmpty:=e
  rcases e' with ⟨xs,hx,e'⟩|⟨xs,hx,e'⟩|⟨kvs,hx,e'⟩
  ·subst e'
   obtain⟨its,r,pl,hz⟩:=I.list hx
   have hlen:=r.length
   exact wpAny_truthy_list pl.isList (by simp only[FD];lia) ⟨H,Z2A,by rw[kF r];exact q⟩
  ·subst e'
   obtain⟨its,r,pl,hz⟩:=I.tuple hx
   have hlen:=r.length
   exact truthy_tuple pl (by simp only[FD];lia) ⟨H,Z2A,by rw[kF r];exact q⟩
  ·subst e'
   obtain⟨hz,hS,vs,r,m⟩:kvs.length<=sizeLine/\(p == sysModules)=false/\∃ vs,KV kvs vs/\s.heap.DictOf (cy X.prog X.w) p vs:=I.hok p _ hx
   have hlen:kvs.length=vs.length:=Z2y
   exact wpAny_truthy_dict hS m Z2 ⟨H,Z2A,by rw[pO r];exact q⟩
 | _=>exact(show False from e).elim
inductive tX (K:PySem.W.Frag) (Q:Bool->Hp->Prop) (x:V) (H':Hp):Prop
 | mk:∀ k,y6 K x H' k->Q k H'->tX K Q x H'
theorem uV (ha:Z3Y) (he:∀ whole,isTrue a X.env whole=(do let v <- whole;standAt a.pos;holding [v] ZEU)) :
  PT X a (λ σ H Q=>ta σ H λ x H'=>tX X.K Q x H'):=by
 intro pins s σ H Q I h
 exact isTrue_plain (thn ZFi λ v s1 ⟨x,H1,I1,r1,k,t,q⟩=>vy pins s1 σ H1 x v Q I1 r1 ⟨k,t,q⟩) (he _)
theorem vals1 (r:ZRf):∃ u,us=[u]/\RelV x u:=by
 cases r with
 | cons d f=>cases f;exact⟨_,rfl,d⟩
theorem vals2 (r:Vals [x,y] us):∃ u d,us=[u,d]/\RelV x u/\RelV y d:=by
 cases r with
 | cons f g=>
  cases g with
  | cons i j=>cases j;exact⟨_,_,rfl,f,i⟩
theorem su (f:X.calm=true):cN X ZBS (λ xs H Q=>∃ i j,xs=[Z2M,Z2k]/\Q (.int (if j<i then j else i)) H):=by
 intro pins s σ H xs m Q I r h
 obtain⟨i,j,rfl,q⟩:=h
 obtain⟨u,n,rfl,⟨t,rfl⟩,⟨g,rfl⟩⟩:=ZRA
 refine min_two_ints (I.ok.hd f) λ h' l k=>⟨_,H,I.kept k,?_,q⟩
 by_cases d:j<i
 ·rw[Fl d,Fl d];exact Z1_
 ·rw[Fj d,Fj d];exact Z1_
end
structure pI (h:Heap) (x dx C:Addr) (mA:Str->Option Value):Prop where
 obj:h.get? x=some Z7G
 ns:h.Ns1 dx mA
 ne:dx≠x
theorem sW {h:Heap}{f:Addr}{i:Str->Option Value}(n:h.Ns1 f i):∃ od,h.get? f=some od/\∀ name,PySem.W.lookIn name od=some (i name):=by
 obtain⟨o,g,v,p,k,l,_,m⟩:=n
 refine⟨o,p,λ name=>?_⟩
 have e:=m name
 unfold nsFind findBy at e
 rw[<- Array.find?_toList] at e
 unfold PySem.W.lookIn
 rw[k]
 dsimp only
 split
 ·rename_i y q
  rw[q] at e
  exact Z5b
 ·rename_i q
  rw[q] at e
  have a:g.toList.any (·.refKey)=false:=by
   rw[List.any_eq_false]
   intro y r
   obtain⟨z,t,d⟩:=l y (Array.mem_toList_iff.mp r)
   simp[DictEntry.refKey,d]
  have j:¬ g.toList.any (·.refKey)=true:=by rw[a];exact Fv
  rw[Fj j]
  exact Z5b
theorem pI.look (I:pI h x dx C mA):∃ od,PySem.W.InstAt h x Z7G C (some od)/\∀ name,PySem.W.lookIn name od=some (mA name):=
 let ⟨od,f,d⟩:=sW I.ns
 ⟨od,⟨I.obj,rfl,rfl,f⟩,d⟩
section
variable {prog:Program}{w:World}{A:Around}{E:Value->Shared->Prop}{s:Shared}{K:PySem.W.Frag}{x dx C f:Addr}{mA:Str->Option Value}{name:Str}{v:Value}
theorem get_map (X:Z3n) (I:Z8x) (i:PySem.W.plainGet K C name=true) (j:PySem.W.hasDictIn K C=true)
  (g:PySem.W.findIn K Z0w name=some none) (l:mA name=some v) (d:PySem.W.handedIn v=true) (h:Q v { s with toks:=s.toks+1 }) :
  wpAny ZE A (getAttr Z3j name expr) Q E s:=by
 obtain⟨m,J,k⟩:=I.look
 exact PySem.W.get_value X J (Iq i).1 (PySem.W.findObj_own j g rfl (by rw[k,l])) d h
theorem vp (X:Z3n) (I:Z8x) (d:PySem.W.plainGet K C name=true)
  (g:PySem.W.findIn K Z0w name=some Z38) (j:PySem.W.isFn K Z0X=true) (k:mA name=none) (h:Q (ZCY,[ZVi]) s) :
  wpAny ZE A (getMethod Z3j name pl) Q E s:=by
 obtain⟨l,J,i⟩:=I.look
 exact PySem.W.method_fn X J (Iq d).1 (Iq d).2 g (Hv.mp j) (by show (PySem.W.lookIn name l).map (·.isSome)=some false;rw[i,k];rfl) h
theorem w6 (X:Z3n) (I:Z8x)
  (hs:PySem.W.findIn K Z0w "__setattr__" = some Z8E) (z:PySem.W.plainOver K C=true) (B:PySem.W.takerIn K C name=some none) (q:PySem.W.hasDictIn K C=true)
  (D:PySem.Within mA ns) (hsz:ns.length<=sizeLine)
  (h:∀ h',pI h' x dx C (λ y=>if y=name then some v else mA y)->Heap.SameBut dx s.heap h'->Q () { s with heap:=h',toks:=s.toks+2 }) :
  wpAny ZE A (setAttr Z3j name v) Q E s:=by
 obtain⟨N,J,L⟩:=I.look
 refine PySem.W.set_plain X J hs (PySem.W.osa_open (s:={ s with toks:=s.toks+1 }) (r:=none) X J z B λ b=>?_)
 obtain⟨G,p,j⟩:=PySem.W.any_some q
 have F:s.heap.get? x=some ⟨.ref C,some dx,.plain,#[]⟩:=I.obj
 refine E8 (Fb (E8 (E8 (wpAny_loadPart F (E8 (PySem.W.Looks.here (s:={ s with toks:=s.toks+1 }) (PySem.W.looks_clsIn X p) ?_))))))
 rw[j]
 refine Fb (a:=some dx) ZS7
 refine wpAny_nsSet1 (s:={ s with toks:=s.toks+1 }) I.ns λ h' d g=>?_
 obtain⟨M,n,m,l,k,i⟩:=d.count (PySem.Within.cons name v D)
 refine E8 (wpAny_lookBehind l (by rw[k];exact pastItsLine_dict (FC i (by rw[FV];lia))) ?_)
 exact Fb (h _ ⟨(g.2 _ (Ne.symm I.ne)).trans I.obj,d,I.ne⟩ g)
theorem vK (X:Z3n) (k:PySem.W.makesIn K C=true)
  (hi:PySem.W.findIn K Z0w "__init__" = some Z38) (j:PySem.W.typeIn K Z0X=some Z3g)
  (h:codeAny ZE (A.under (.builtin "type.__call__" ⟨.ref C::vs,kw⟩)) (.call Z0X ⟨.ref (s.heap.objs.size+1)::vs,kw⟩) (PySem.W.InitBack (s.heap.objs.size+1) R)
   { s with heap:=ZCq}) :
  codeAny ZE A (.call Z0w ⟨vs,kw⟩) R s:=by
 obtain⟨l,g,d,t,m⟩:=s
 exact PySem.W.make_core ZXf ZCs (λ i=>PySem.W.bind_fn X i j) Z1x h
theorem sL (X:Z3n) (k:PySem.W.makesIn K C=true)
  (hi:PySem.W.findIn K Z0w "__init__" = some ZU2)
  (j:∀ i,PySem.W.Looks ZE s.heap (bindSpecial Z21 i) (Z21,[i]))
  (h:codeAny ZE (A.under (.builtin "type.__call__" ⟨[.ref C],[]⟩)) (.call Z21 ⟨[.ref (s.heap.objs.size+1)],[]⟩) (PySem.W.InitBack (s.heap.objs.size+1) R)
   { s with heap:=ZCq}) :
  codeAny ZE A (.call Z0w Z8s) R s:=by
 obtain⟨l,g,d,t,m⟩:=s
 exact PySem.W.make_core ZXf ZCs j ZOZ h
end
noncomputable def bx (f:Str) (v:V):List (Str×V)->List (Str×V)
 | []=>[(f,v)]
 | (g,x)::r=>if g=f then (g,v)::r else (g,x)::bx f v r
theorem cb (f g) (v):∀ fs:List (Str×V),(ZC7).lookup g=if g=f then some v else fs.lookup g
 | []=>by
  show List.lookup g [(f,v)]=_
  by_cases h:g=f
  ·have d:(g == f)=true:=ZOD
   simp only[List.lookup,d,Fl h]
  ·have d:(g == f)=false:=ZOE
   simp only[List.lookup,d,Fj h]
 | (k,x)::r=>by
  have j:=cb f g v r
  rw[show bx f v ((k,x)::r)=(if k=f then (k,v)::r else (k,x)::bx f v r) from rfl]
  by_cases i:k=f
  ·rw[Fl i]
   by_cases h:g=k
   ·have d:(g == k)=true:=ZOD
    simp only[List.lookup,d,Fl (h.trans i)]
   ·have d:(g == k)=false:=ZOE
    simp only[List.lookup,d,Fj (λ e:g=f=>h (e.trans i.symm))]
  ·rw[Fj i]
   by_cases h:g=k
   ·have d:(g == k)=true:=ZOD
    simp only[List.lookup,d,Fj (λ e:g=f=>i (h.symm.trans e))]
   ·have d:(g == k)=false:=ZOE
    simp only[List.lookup,d]
    exact j
theorem je (f) (v):∀ fs:List (Str×V),f∈(ZC7).map (·.1)/\∀ g,g∈fs.map (·.1)->g∈(ZC7).map (·.1)
 | []=>⟨by simp[bx],λ g h=>by simp at h⟩
 | (k,x)::r=>by
  obtain⟨i,j⟩:=je f v r
  rw[show bx f v ((k,x)::r)=(if k=f then (k,v)::r else (k,x)::bx f v r) from rfl]
  by_cases d:k=f
  ·rw[Fl d]
   subst d
   exact⟨Zq,λ g h=>by simpa using h⟩
  ·rw[Fj d]
   refine⟨?_,λ g h=>?_⟩
   ·rw[FL]
    exact Fo _ i
   ·rw[FL] at h ⊢
    rcases Fi.mp h with e|e
    ·exact Fi.mpr ZGX
    ·exact Fo _ (j g e)
theorem ck (f) (v):∀ fs:List (Str×V),(ZC7).length<=fs.length+1
 | []=>by simp[bx]
 | (k,x)::r=>by
  have g:=ck f v r
  rw[show bx f v ((k,x)::r)=(if k=f then (k,v)::r else (k,x)::bx f v r) from rfl]
  by_cases d:k=f
  ·rw[Fl d,FV,FV];lia
  ·rw[Fj d,FV,FV];lia
theorem fV.some_of (r:fV Z4c o):∃ u,o=some u/\RelV v u:=by
 cases o with
 | none=>exact(show False from r).elim
 | some u=>exact⟨u,rfl,r⟩
theorem fV.none_of (r:fV none o):o=none:=by
 cases o with
 | none=>rfl
 | some u=>exact(show False from r).elim
theorem sM {v:V}{u:Value}(r:ZBd):PySem.W.handedIn u=true:=by
 cases v with
 | non=>cases (show u=Value.none from r);rfl
 | bl b=>cases (show u=Value.bool b from r);rfl
 | int i=>obtain⟨t,e⟩:=(show ∃ t,u=Value.int i t from r);cases e;rfl
 | str x=>obtain⟨t,e⟩:=(show ∃ t,u=Value.str x t from r);cases e;rfl
 | byt b=>obtain⟨t,e⟩:=(show ∃ t,u=Value.bytes b t from r);cases e;rfl
 | flt b=>obtain⟨t,e⟩:=(show ∃ t,u=Value.float b t from r);cases e;rfl
 | ref a=>cases (show u=Value.ref a from r);rfl
 | ty n=>cases (show u=Value.type n from r);rfl
section
variable {P:Program}{w:World}{H H':Hp}{h h':Heap}{a C dx:Addr}{fs fs':List (Str×V)}
theorem iM (g:Z12) (e:H a=some Z0T):∃ mA,pI h a dx C mA/\(∀ f,Z6o)/\PySem.Within mA (fs.map (·.1))/\fs.length<=1000/\H dx=some ZFQ:=by
 obtain⟨d,z,i,j,mA,n,r,q⟩:=(show bP P w H h a Z0T from g a _ e)
 exact⟨mA,⟨j,n,i⟩,r,q,z,d⟩
end
structure Cls (K:PySem.W.Frag) (C:Addr):Prop where
 pg:PySem.W.plainGet K C Str.empty=true
 hd:PySem.W.hasDictIn K C=true
 po:PySem.W.plainOver K C=true
 sa:PySem.W.findIn K Z0w "__setattr__" = some Z8E
theorem Cls.get {K:PySem.W.Frag}{C:Addr}(c:ZS9) (f:Str):PySem.W.plainGet K C f=true:=c.pg
def b9 (K:PySem.W.Frag) (C:Addr) (f:Str):Prop:=PySem.W.findIn K Z0w f=some none
theorem b9.Er {K:PySem.W.Frag}{C:Addr}{f:Str}(n:b9 K C f):PySem.W.takerIn K C f=some none:=by
 unfold PySem.W.takerIn
 rw[show PySem.W.findIn K Z0w f=some none from n]
 rfl
structure Meth (K:PySem.W.Frag) (C:Addr) (m:Str) (f:Addr):Prop where
 at_:PySem.W.findIn K Z0w m=some Z38
 fn:PySem.W.isFn K Z0X=true
 kp:PySem.W.keepIn K Z0X=true
section
variable {X:Cx}{pins:List (Addr×Obj)}{σ:St}{H:Hp}{s:Shared}{a C dx:Addr}{fs:List (Str×V)}{f:Str}{v:V}{A:Around}{E:Value->Shared->Prop}
theorem kG (I:Z8) (e:H a=some Z0T) (c:Z7o) (n:ZTP) (l:fs.lookup f=some v)
  (h:∀ u g,Inv X pins σ H g->RelV v u->Q u g):wpAny Z5 A (getAttr ZY f b) Q E s:=by
 obtain⟨mA,O,r,_,_,_⟩:=ZE4
 obtain⟨u,i,d⟩:=fV.some_of (v:=v) (o:=mA f) (by rw[<- l];exact r f)
 exact get_map I.kIn O (c.get f) c.hd n i (sM d) (h u _ Z2A d)
theorem j3 (I:Z8) (e:H a=some Z0T) (c:Z7o) (k:Meth X.K C m g) (l:fs.lookup m=none)
  (h:Q (.ref g,ZLC) s):Z8X:=by
 obtain⟨mA,O,r,_,_,_⟩:=ZE4
 have d:mA m=none:=fV.none_of (by rw[<- l];exact r m)
 exact vp I.kIn O ZLz k.at_ k.fn d h
theorem pW (I:Z8) (e:H a=some Z0T) (c:Z7o) (n:ZTP) (J:fs.length<1000) (F:Z4J)
  (h:∀ j,Inv X pins σ (upd H a ZFR) j->Q () j):wpAny Z5 A (setAttr ZY f u) Q E s:=by
 obtain⟨mA,O,r,k,_,i⟩:=ZE4
 have D:(fs.map (·.1)).length<=sizeLine:=by rw[Fe,GG];lia
 refine w6 I.kIn O c.sa c.po n.Er c.hd k D λ h' d G=>ZQA
 have p:∃ o,h'.get? dx=some o:=let ⟨o,_,_,l,_⟩:=d.ns;⟨o,l⟩
 refine I.write (x:=a) (e:=dx) (by rw[e];exact True.intro) (.inr i) (λ b q m z=>(G.2 b m).trans z) p ?_
 refine⟨by rw[aV O.ne];exact i,?_,O.ne,d.obj,_,d.ns,λ g=>?_,λ g B=>?_⟩
 ·have:=ck f y fs;lia
 ·show fV ((bx f y fs).lookup g) (if g=f then some u else mA g)
  rw[cb]
  by_cases q:g=f
  ·rw[ZQS,ZQS];exact F
  ·rw[ZQT,ZQT];exact r g
 ·by_cases q:g=f
  ·rw[q];exact(ZUe).1
  ·refine(ZUe).2 g (k g λ z=>B ?_)
   show (if g=f then some u else mA g)=none
   rw[ZQT];exact z
theorem Inv.made (I:Z8):Inv X pins σ (upd (upd H s.heap.objs.size (.own (s.heap.objs.size+1))) (s.heap.objs.size+1) ZDC)
  { s with heap:=ZCq}:=by
 have d:(Z0L).get? s.heap.objs.size=some PySem.W.emptyDict:=Heap.get?_push_size s.heap rfl
 have j:((Z0L).push Z0c).get? (s.heap.objs.size+1)=some (Z0c):=by
  have:=Heap.get?_push_size Z0L (o:=Z0c) rfl
  rwa [Heap.size_push] at this
 have k:(Z0L).Ns s.heap.objs.size ZQf:=⟨PySem.W.emptyDict,#[],_,d,rfl,(λ e l=>absurd l ZA),λ _=>rfl⟩
 have i:=I.laid (a:=s.heap.objs.size) (o:=.own (s.heap.objs.size+1)) (h':=Z0L) (t':=s.toks) ZMv Z9 ⟨_,d⟩
 refine i.laid (a:=s.heap.objs.size+1) (o:=ZDC) (t':=s.toks) ZMv (Il (Heap.size_push _ _)) ?_
 have g:s.heap.objs.size≠s.heap.objs.size+1:=ZGM
 refine⟨by rw[aV g,aU],ZH9,g,j,λ _=>none,(Heap.Ns1.of_empty k).at λ o q=>Zz,λ _=>True.intro,λ y m=>absurd rfl m⟩
theorem wB (g:attributeBase e f env (ZJN)=eval e env)
  (h:wpAny ZE A ZJN (λ o d=>wpAny ZE A (getAttr o f true) Q E d) E s):wpAny ZE A (eval Z8W env) Q E s:=
 Attribute_any_ h (by rw[arm_eval_Attribute,g])
end
inductive xN (K:PySem.W.Frag) (f:Str) (Q:VK) (x:V) (H1:Hp):Prop
 | mk:∀ a C dx fs v,x=.ref a->H1 a=some Z0T->Cls K C->b9 K C f->fs.lookup f=some v->Q v H1->xN K f Q x H1
def qr (K:PySem.W.Frag) (ta:TE) (f:Str):TE:=λ σ H Q=>ta σ H λ x H1=>xN K f Q x H1
inductive xK (K:PySem.W.Frag) (f:Str) (D:Ends) (σ:St) (y:V) (x:V) (H2:Hp):Prop
 | mk:∀ a C dx fs,x=.ref a->H2 a=some Z0T->Cls K C->b9 K C f->fs.length<1000->D.nx σ (upd H2 a ZFR)->xK K f D σ y x H2
def Cd (K:PySem.W.Frag) (ta tv:TE) (f:Str):TS:=λ D σ H=>tv σ H λ y H1=>ta σ H1 λ x H2=>xK K f D σ y x H2
section
variable {X:Cx}{o e value:Expr}{f:Str}{pos pos' tpos:Pos}{ta tv:TE}
theorem yT (k:ZVN) (j:attributeBase e f X.env (Z0k)=eval e X.env):PE X Z8W (qr X.K ta f):=by
 intro pins s σ H Q I h
 refine wB j (thn (k pins s σ H _ I h) λ u r z=>?_)
 obtain⟨x,H1,d,p,a,C,dx,fs,v,ex,i,c,n,l,q⟩:=z
 subst ex
 obtain rfl:u=Value.ref a:=p
 exact kG d i c n l λ z y g m=>⟨v,H1,g,m,q⟩
theorem zi (k:ZGE) (m:ZEu) (hs:swapsWith value ZU1 pos.line X.env=pure false):PS X ZDy (Cd X.K ta tv f):=by
 intro pins s σ H D I h
 refine plainObj_wpAny_Assign_Attribute (thn (m pins s σ H _ I h) λ u F ⟨y,H1,d,B,q⟩=>thn (k pins F σ H1 _ d q) λ p G w=>?_) hs
 obtain⟨x,H2,g,z,a,C,dx,fs,ex,j,c,n,l,r⟩:=w
 subst ex
 obtain rfl:p=Value.ref a:=z
 exact pW g j c n l B λ J i=>⟨σ,_,i,r⟩
end
section
variable {X:Cx}{pins:List (Addr×Obj)}{σ:St}{H:Hp}{s:Shared}{A:Around}{E:Value->Shared->Prop}{Q:Value->Shared->Prop}{c:Value}{b:Bool}
inductive jh (K:PySem.W.Frag) (H:Hp):V->Value->Prop where
 | non:jh K H .non (.type "NoneType")
 | bl (x:Bool):jh K H (.bl x) ZDw
 | int (i:Int):jh K H Z2M Z96
 | str (x:Str):jh K H ZBr (.type "str")
 | flt (x:UInt64):jh K H (.flt x) (.type "float")
 | lst {a:Addr} {xs:Z11} (e:H a=some Zu):ZQ5
 | frz {a:Addr} {o:Obj} {xs:Z11} (e:H a=some ZSy):ZQ5
 | tup {a:Addr} {xs:Z11} (e:H a=some Zb):jh K H ZY Z0U
 | dK {a:Addr} {kvs:List (Key×V)} (e:H a=some Z2e):ZN_
 | dT {a:Addr} {kvs:List (List Key×V)} (e:H a=some Zk):ZN_
 | ins {a C dx:Addr} {fs:List (Str×V)} (e:H a=some Z0T) (cl:ZS9) (ha:PySem.W.findIn K Z0w "__class__" = some ZGb)
   (hn:PySem.W.specialIn K Zl "__get__" = some ZEV) (htk:PySem.W.takesIn K (Zl)=some true)
   (hm:PySem.W.mroIn K C (Z6F)=some true):jh K H ZY Z0w
theorem sP {x:V}{u t:Value}(I:Z8) (rx:ZIg) (ty:jh X.K H x t) (e:PySem.W.kitOne X.K t c=some b) (h:∀ tk,Q ZD0 { s with toks:=tk }) :
  wpAny Z5 A (call Z1h [u,c]) Q E s:=by
 cases ty with
 | non=>cases (show u=Value.none from rx);exact GP PySem.W.kitx_none I.kIn True.intro e (λ z=>nomatch z) h
 | bl y=>cases (show u=Value.bool y from rx);exact GP PySem.W.kitx_bool I.kIn True.intro e (λ z=>nomatch z) h
 | int i=>obtain⟨t,q⟩:=(show ∃ t,u=Value.int i t from rx);cases q;exact GP PySem.W.kitx_int I.kIn True.intro e (λ z=>nomatch z) h
 | str y=>obtain⟨t,q⟩:=(show ∃ t,u=Value.str y t from rx);cases q;exact GP PySem.W.kitx_str I.kIn True.intro e (λ z=>nomatch z) h
 | flt y=>obtain⟨t,q⟩:=(show ∃ t,u=Value.float y t from rx);cases q;exact GP PySem.W.kitx_float I.kIn True.intro e (λ z=>nomatch z) h
 | @lst a xs ea=>
  cases (show u=Value.ref a from rx)
  obtain⟨_,_,n,_,h1⟩:=(show bP X.prog X.w H s.heap a Zu from Z7k)
  exact GP PySem.W.kitx_list I.kIn ZMI e (λ z=>nomatch z) h
 | @frz a ob xs ea=>
  cases (show u=Value.ref a from rx)
  obtain⟨_,_,_,n,_,h1⟩:=(show bP X.prog X.w H s.heap a (.frz ob Zu) from Z7k)
  exact GP PySem.W.kitx_list I.kIn ZMI e (λ z=>nomatch z) h
 | @tup a xs ea=>
  cases (show u=Value.ref a from rx)
  obtain⟨_,_,_,p⟩:=(show bP X.prog X.w H s.heap a Zb from Z7k)
  obtain⟨o,h1,h2,_⟩:=p
  exact GP PySem.W.kitx_tuple I.kIn ⟨o,h1,h2⟩ e (λ z=>nomatch z) h
 | @dK a kvs ea=>
  cases (show u=Value.ref a from rx)
  obtain⟨_,_,vs,_,p⟩:=(show bP X.prog X.w H s.heap a Z2e from Z7k)
  obtain⟨o,es,ep,h1,h2,_⟩:=p
  exact GP PySem.W.kitx_dict I.kIn ZKk e (λ z=>nomatch z) h
 | @dT a kvs ea=>
  cases (show u=Value.ref a from rx)
  obtain⟨_,_,xs,_,o,es,ep,h1,h2,_⟩:=(show bP X.prog X.w H s.heap a Zk from Z7k)
  exact GP PySem.W.kitx_dict I.kIn ZKk e (λ z=>nomatch z) h
 | @ins a C dx fs ea cl ha hn htk hm=>
  cases (show u=Value.ref a from rx)
  obtain⟨mA,O,_⟩:=iM I.hok ea
  obtain⟨od,J,_⟩:=O.look
  exact GP (PySem.W.kitx_own (cl.get _) cl.hd ha hn htk hm) I.kIn J e (λ z=>nomatch z) h
end
structure dk (k:Nat) (A:Around):Prop where
 hd:A.handled=none
 dp:A.depth+3*k+5<recursionLimit
 un:A.units+16*k+200<cLine
theorem dk.mono (r:ZQD) (h:j<=k):dk j A:=⟨r.hd,by have:=r.dp;lia,by have:=r.un;lia⟩
theorem dk.deeper (r:dk (k+1) A) (env:Env):dk k (A.deeper env):=
 ⟨r.hd,by have:=r.dp;show A.depth+1+3*k+5<_;lia,by have:=r.un;show A.units+3+16*k+200<_;lia⟩
theorem pK {A:Around}{C:Addr}{us:Zr}{kw:List (Str×Value)}:(A.under (.builtin "type.__call__" ⟨.ref C::us,kw⟩)).depth=A.depth+1:=by
 first|rfl|simp[Around.under,Code.weight,Code.isCreation,Code.isGuard,Code.isCaller,Code.frames,Code.isFrame,guardIds]
theorem qj {A:Around}{C:Addr}{us:Zr}{kw:List (Str×Value)}:(A.under (.builtin "type.__call__" ⟨.ref C::us,kw⟩)).units=A.units+1:=by
 first|rfl|simp[Around.under,Code.cUnits,Code.frames,Code.isFrame]
theorem dk.make (r:dk (k+1) A) (C) (us) (kw):dk k (A.under (.builtin "type.__call__" ⟨.ref C::us,kw⟩)):=
 ⟨r.hd,by have:=r.dp;rw[pK];lia,by have:=r.un;rw[qj];lia⟩
theorem dk.depth (r:ZQD):A.depth<recursionLimit:=by have:=r.dp;lia
theorem dk.units (r:ZQD):A.units+64<cLine:=by have:=r.un;lia
def gv:TA:=λ _ H Q=>Q [] H
def dH (ta:TE) (tr:TA):TA:=λ σ H Q=>ta σ H λ x H1=>tr σ H1 λ xs H2=>Q (x::xs) H2
section
variable {X:Cx}{e:Expr}{es:List Expr}{te:TE}{t:TA}{pos:Pos}
theorem aZ:PA X [] gv:=λ _ _ _ _ H Q I h=>Calls.spliced_nil ZHT
theorem xj (i:Z5d) (j:ZGH) (hs:starEach (e::es) X.env=(false,Z0k)::starEach es X.env:=by rfl):PA X (e::es) ZLv:=by
 intro pos pins s σ H Q I h
 rw[hs]
 show wpAny _ _ (spliced ((false,Z0k)::backTo pos (starEach es X.env))) _ _ s
 refine Calls.spliced_cons (thn ZGi λ u p z=>?_)
 obtain⟨x,H1,d,m,k⟩:=z
 exact thn (j pos pins p σ H1 _ d k) λ r q ⟨xs,H2,g,n,l⟩=>⟨x::xs,H2,g,.cons m n,l⟩
def yU (t:TA):TE:=λ σ H Q=>t σ H λ xs H1=>xs.length<=sizeLine/\∀ p,H1 p=none->Q Z00 (upd H1 p Zb)
def tG (t:TA):TE:=λ σ H Q=>t σ H λ xs H1=>xs.length<=sizeLine/\∀ p,H1 p=none->Q Z00 (upd H1 p Zu)
theorem cE {l}(h:ZGH):PE X (.Tuple es l pos) (yU t):=by
 intro pins s σ H Q I j
 refine wpAny_Tuple_spliced (thn ZDq λ k d ⟨xs,H1,g,r,z,q⟩=>⟨by rw[<- r.length];exact z,?_⟩)
 have i:H1 d.heap.objs.size=none:=ZMU
 refine⟨Z53,upd H1 d.heap.objs.size Zb,Z7K,rfl,q _ i⟩
 exact⟨z,k,r,⟨_,ZH,rfl,_,rfl⟩⟩
theorem cg (h:ZGH):PE X (.List es pos) (tG t):=by
 intro pins s σ H Q I j
 refine wpAny_List_spliced (thn ZDq λ k d ⟨xs,H1,g,r,z,q⟩=>⟨by rw[<- r.length];exact z,?_⟩)
 have i:H1 d.heap.objs.size=none:=ZMU
 refine⟨Z53,upd H1 d.heap.objs.size Zu,Z7K,rfl,q _ i⟩
 exact⟨z,k,0,r,ZH⟩
end
noncomputable abbrev Sp:=List V->Hp->VK->XK->Prop
noncomputable abbrev CXT:=List Env->Hp->Shared->XK->Value->Shared->Prop
structure kY (P:Program) (w:World) (K:PySem.W.Frag) (mg:Str->Option Value) (base:Heap) (A:Around) (outer:List Env) (s:Shared) (H:Hp):Prop where
 frames:A.frames=some outer
 mod:Mod K mg base
 bs:∀ b o,base.get? b=some o->s.heap.get? b=some o/\H b=none
 bsz:base.objs.size<=s.heap.objs.size
 iJ:s.heap.FunFrames base outer
 frf:∀ b∈frs outer,H b=none
 hok:HOk P w H s.heap
 bare:ZMr
def CE (outer:Z5Q) (P:Program) (w:World) (H:Hp) (s:Shared) (Q:VK) (u:Value) (s':Shared):Prop:=
 ∃ v H',s'.os=s.os/\AllBare s'.gens/\Un (frs outer) [] H H' s.heap s'.heap/\HOk P w H' s'.heap/\RelV v u/\Q v H'
def CR (CX:CXT) (outer:Z5Q) (P:Program) (w:World) (H:Hp) (s:Shared) (Q:VK) (E:XK) (r:Result) (s':Shared):Prop:=
 match r with
 | .ok (.ret u)=>CE outer P w H s Q u s'
 | .ok _=>False
 | .error e=>CX outer H s E e s'
structure bR (P:Program) (w:World) (K:PySem.W.Frag) (mg:Str->Option Value) (base:Heap) (CX:CXT) (k:Nat) (f:Addr) (fd:FuncData) (ps:List Str) (sp:Sp):Prop where
 len:∀ vs H Q E,sp vs H Q E->vs.length=ps.length
 run:∀ (A:Around) (outer:List Env) (s:Shared) (H:Hp) (args:Args) (us:List Value) (vs:List V) (Q:VK) (E:XK),dk k A->kY P w K mg base A outer s H->BindsTo s fd args (Z9a)->Vals vs us->sp vs H Q E ->
  codeAny Zh A (.call Z0X args) Z6J s
theorem bR.mono {P:Program}{w:World}{K:PySem.W.Frag}{l:Str->Option Value}{base:Heap}{CX:CXT}{j k:Nat}{f:Addr}{i:FuncData}{m:Zo}{sp:Sp}(F:bR P w K l base CX j f i m sp) (h:j<=k) :
  bR P w K l base CX k f i m sp:=⟨F.len,λ A d s H g p q Q E n=>F.run A d s H g p q Q E (n.mono h)⟩
theorem kY.make {P:Program}{w:World}{K:PySem.W.Frag}{g:Str->Option Value}{base:Heap}{A:Around}{d:Z5Q}{s:Shared}{H:Hp}(e:kY P w K g base A d s H) (C:Addr) (us:Zr) (kw:List (Str×Value)) :
  kY P w K g base (A.under (.builtin "type.__call__" ⟨.ref C::us,kw⟩)) d s H:=⟨by first|exact e.frames|(simpa [Around.under,Code.envs,Code.isFrame,pushEnvs] using e.frames),e.mod,e.bs,e.bsz,e.iJ,e.frf,e.hok,e.bare⟩
section
variable {X:Cx}{pins:List (Addr×Obj)}{σ:St}{H:Hp}{s s':Shared}
theorem Inv.zH (I:Z8):kY X.prog X.w X.K X.mg X.base X.A X.stack s H:=
 ⟨I.ok.frames,I.ok.mod,I.bs,ZKJ,I.stack,I.m7,I.hok,I.bare⟩
theorem Inv.after (I:Z8) (h:CE X.stack X.prog X.w H s Q u s'):EP X pins σ Q u s':=by
 obtain⟨v,H',m,i,n,j,r,q⟩:=h
 obtain⟨l,g,d,t,k⟩:=s'
 obtain rfl:k=s.os:=m
 exact⟨v,H',I.call (h':=l) (g':=g) (d':=d) (t':=t) (ch:=[]) n j i (λ b z=>ZCA),r,q⟩
end
def rz (sp:Sp) (dvs:Z11) (E:XK) (t:TA):TE:=λ σ H Q=>t σ H λ vs H1=>sp (vs++dvs) H1 Q E
inductive uE (C:Addr) (m:Str) (sp:Sp) (dvs:List V) (E:XK) (t:TA) (σ:St) (Q:VK) (x:V) (H1:Hp):Prop
 | mk:∀ a dx fs,x=.ref a->H1 a=some (.ins C dx fs)->fs.lookup m=none->(t σ H1 λ vs H2=>sp (x::(vs++dvs)) H2 Q E)->uE C m sp dvs E t σ Q x H1
def uF (C:Addr) (m:Str) (sp:Sp) (dvs:Z11) (E:XK) (ta:TE) (t:TA):TE:=λ σ H Q=>ta σ H λ x H1=>uE C m sp dvs E t σ Q x H1
def Cg (C:Addr) (sp:Sp) (dvs:Z11) (E:XK) (t:TA):TE:=λ σ H Q=>t σ H λ vs H1=>∀ x dx,H1 x=none->H1 dx=none->dx≠x ->
 sp (.ref x::(vs++dvs)) (upd (upd H1 dx Z69) x (.ins C dx [])) (λ v H2=>v=.non/\Q Z3j H2) E
def Binds (K:PySem.W.Frag) (fd:FuncData) (ps:Zo) (ds:Zr):Prop:=
 ∀ (s:Shared) (us:List Value),K.In s.heap->(us++ds).length=ps.length->BindsTo s fd Z5Y (ps.zip (us++ds))
theorem Binds.all {K:PySem.W.Frag}{g:FuncData}{d:Zo}(h:∀ us:List Value,us.length=d.length->bindArgs g Z5Y=pure (d.zip us)):Binds K g d []:=λ s us _ i=>by
 rw[Gf] at i ⊢
 exact .of_eq (h us i)
def Passes (CX:CXT) (X:Cx) (E:XK):Prop:=∀ (pins:List (Addr×Obj)) (σ:St) (H:Hp) (s:Shared) (e:Value) (s':Shared),Inv X pins σ H s->CX X.stack H s E e s'->X.xe e s'
section
variable {X:Cx}{CX:CXT}{k:Nat}{f C:Addr}{fd:FuncData}{ps:List Str}{sp:Sp}{dvs:List V}{ds:List Value}{E:XK}{x m:Str}{p pos apos:Pos}{e o:Expr}{es:List Expr}{ta:TE}{t:TA}
theorem qh (F:Z0B) (q:ZB_) (j:Z2j) (l:Z6p) (y:Z3D)
  (I:Z8) (r:ZEE) (h:sp (vs++dvs) H Q E):wpAny Z5 X.A (call Z0X us) Z0N X.xe s:=by
 have g:Vals (vs++dvs) (us++ds):=r.append l
 have n:(us++ds).length=ps.length:=by rw[<- g.length];exact F.len _ _ _ _ h
 refine IV (Jh (F.run X.A X.stack s H Z5Y (us++ds) (vs++dvs) Q E q I.zH (j s us I.kIn n) g h) λ r s' d=>?_)
 cases r with
 | error e=>exact y pins σ H s e s' I d
 | ok i=>
  cases i with
  | ret u=>exact I.after d
  | next=>exact Z62
  | brk=>exact Z62
  | cont=>exact Z62
theorem bA (F:Z0B) (G:ZB_) (z:ZAw) (D:X.mg x=some Z0X) (B:PySem.W.keepIn X.K Z0X=true) (l:Z2j) (n:Z6p) (J:Z3D)
  (j:PA X (e::es) t) (d:(x == ("__debug__" :ZHN))=false:=by decide) (y:starEach (e::es) X.env=(false,Z0k)::starEach es X.env:=by rfl) (g:(Z0K).any (·.1)=false:=by rfl) :
  PE X (.Call Z9F (e::es) [] pos) (rz sp dvs E t):=by
 intro pins s σ H Q I h
 refine HX (jH I z D ?_ d)
 refine Jl (h₀:=X.base) I.ok.mod.kin B (thn ZDo λ M L ⟨N,H1,i,r,q⟩=>ZMG) y g
 exact qh F G l n J i r q
theorem bQ {pl:ZNz}(he:ZGE) (c:Z7o) (hm:ZMf) (F:Z0B) (hr:ZB_) (hb:Z2j) (hd:Z6p) (hx:Z3D) (ha:PA X (e::es) t)
  (hst:starEach (e::es) X.env=(false,Z0k)::starEach es X.env:=by rfl) (hpl:(Z0K).any (·.1)=false:=by rfl)
  (ht:eval (.Call Z27 (e::es) [] pos) X.env=(do
   let ov <- eval o X.env
   standAt apos.atName
   let (f,first) <- holding [ov] Z9B
   callWith pos f first (backTo pos (starEach (e::es) X.env)) ZA1):=by rfl) :
  PE X (.Call Z27 (e::es) [] pos) (uF C m sp dvs E ta t):=by
 intro pins s σ H Q I h
 refine Z50
 obtain⟨x,H1,I1,rx,a,dx,fs,ex,ea,l,q⟩:=z
 subst ex
 obtain rfl:u=Value.ref a:=rx
 refine ZIY
 refine Jl (first:=ZLC) (h₀:=X.base) I.ok.mod.kin hm.kp (thn (ha pos pins s1 σ H1 _ I1 q) λ us s2 ⟨vs,H2,I2,r,q2⟩=>⟨I2.kIn,?_⟩) hst hpl
 exact qh (us:=.ref a::us) (vs:=.ref a::vs) F hr hb hd hx I2 (.cons rfl r) q2
theorem bI {pl:ZNz}(he:ZGE) (c:Z7o) (hm:ZMf) (F:Z0B) (hr:ZB_) (hb:Z2j) (hd:Z6p) (hx:Z3D)
  (ht:eval ZGv X.env=(do
   let ov <- eval o X.env
   standAt apos.atName
   let (f,first) <- holding [ov] Z9B
   callWith pos f first (backTo pos (starEach [] X.env)) ZA1):=by rfl) :
  PE X ZGv (uF C m sp dvs E ta gv):=by
 intro pins s σ H Q I h
 refine Z50
 obtain⟨x,H1,I1,rx,a,dx,fs,ex,ea,l,q⟩:=z
 subst ex
 obtain rfl:u=Value.ref a:=rx
 refine ZIY
 exact PySem.W.callWith_K0 (first:=ZLC) I1.kIn hm.kp (qh (us:=ZLC) (vs:=ZLC) F hr hb hd hx I1 ZKh q)
structure Mk (K:PySem.W.Frag) (C f:Addr):Prop where
 makes:PySem.W.makesIn K C=true
 init:PySem.W.findIn K Z0w "__init__" = some Z38
 fn:PySem.W.isFn K Z0X=true
 kp:PySem.W.keepIn K Z0w=true
theorem v8 (M:ZTc) (F:Z0B) (D:dk (k+1) X.A) (y:Z2j) (z:Z6p)
  (G:Z3D) (I:Z8) (r:ZEE)
  (h:∀ x dx,H x=none->H dx=none->dx≠x->sp (.ref x::(vs++dvs)) Z8S (λ v H2=>v=.non/\Q Z3j H2) E) :
  wpAny Z5 X.A (call Z0w us) Z0N X.xe s:=by
 have i:=h (s.heap.objs.size+1) s.heap.objs.size ZJz Z2f ZGM
 have g:=ZJd
 have j:Vals (V.ref (s.heap.objs.size+1)::(vs++dvs)) (Value.ref (s.heap.objs.size+1)::(us++ds)):=.cons rfl (r.append z)
 have B:(Value.ref (s.heap.objs.size+1)::us++ds).length=ps.length:=by
  have e:=j.length
  rw[F.len _ _ _ _ i] at e
  exact e.symm
 refine IV (vK (f:=f) I.kIn M.makes M.init (Hv.mp M.fn) (Jh (F.run _ X.stack _ _ ⟨Value.ref (s.heap.objs.size+1)::us,[]⟩ (Value.ref (s.heap.objs.size+1)::(us++ds)) _ _ E (D.make C us [])
  (g.zH.make C us []) (y _ (Value.ref (s.heap.objs.size+1)::us) g.kIn B) j i) λ r s' d=>?_))
 cases r with
 | error e=>exact G pins σ _ _ e s' g d
 | ok q=>
  cases q with
  | ret u=>
   obtain⟨v,H',l,L,n,J⟩:=g.after d
   subst n
   exact⟨L,⟨V.ref (s.heap.objs.size+1),H',l,rfl,J⟩⟩
  | next=>exact Z62
  | brk=>exact Z62
  | cont=>exact Z62
theorem fS (M:ZTc) (F:Z0B) (D:dk (k+1) X.A) (z:ZAw) (B:X.mg x=some Z0w) (l:Z2j) (n:Z6p) (G:Z3D)
  (j:PA X (e::es) t) (d:(x == ("__debug__" :ZHN))=false:=by decide) (y:starEach (e::es) X.env=(false,Z0k)::starEach es X.env:=by rfl) (g:(Z0K).any (·.1)=false:=by rfl) :
  PE X (.Call Z9F (e::es) [] pos) (Cg C sp dvs E t):=by
 intro pins s σ H Q I h
 refine HX (jH I z B ?_ d)
 refine Jl (h₀:=X.base) I.ok.mod.kin M.kp (thn ZDo λ L J ⟨N,H1,i,r,q⟩=>ZMG) y g
 exact v8 M F D l n G i r q
end
def PK (X:Cx) (kws:ZAv) (t:TA):Prop:=
 ∀ (pos:Pos) (pins:List (Addr×Obj)) (s:Shared) (σ:St) (H:Hp) (Q:List V->Hp->Prop),Inv X pins σ H s->t σ H Q->wpAny Z5 X.A (evalAll ((Z8_).map (·.2))) ZKc X.xe s
section
variable {X:Cx}{CX:CXT}{k:Nat}{f C:Addr}{fd:FuncData}{ps ks:List Str}{sp:Sp}{E:XK}{x m:Str}{p pos apos kpos:Pos}{e o:Expr}{es:List Expr}{kws:List Keyword}{te ta:TE}{t tk:TA}{nm:Option Str}
theorem zO:PK X [] gv:=λ _ _ _ _ H Q I h=>wpAny_evalAll_nil ZHT
theorem w5 (ha:Z5d) (hr:PK X kws t):PK X (⟨nm,e,kpos⟩::kws) ZLv:=by
 intro pos pins s σ H Q I h
 show wpAny _ _ (evalAll ((do let v <- eval e X.env;standAt pos;pure v)::(Z8_).map (·.2))) _ _ s
 refine wpAny_evalAll_cons (E8 (thn ZFi λ u s1 ⟨x,H1,I1,r1,q1⟩=>E8 (KC Zm)))
 exact thn (hr pos pins s1 σ H1 _ I1 q1) λ us s2 ⟨xs,H2,I2,r2,q2⟩=>⟨x::xs,H2,I2,.cons r1 r2,q2⟩
variable {g:List Value->List Value->List Value}{gV:List V->List V->List V}
end
structure bq (N P:List Str) (sc:Scope):Prop where
 kind:sc.kind=.function
 co:sc.isCoroutine=false
 gen:sc.isGenerator=false
 nd:N.Nodup
 pre:N.take P.length=P
 par:∀ x∈P,sc.names.lookup x=some .local\/sc.names.lookup x=some .cell
 nofree:∀ y∈sc.names,y.2≠.free
theorem lR {i:Str->Option NameKind}{x:Str}:∀ {d:List (Str×Value)}{m:Str->Option Value},(∀ v,(x,v)∉d)->bindL i d m x=m x
 | [],_,_=>rfl
 | (n,v)::r,m,h=>by
  unfold bindL
  rw[lR λ w j=>h w ZJ6]
  split
  ·have:x≠n:=by rintro rfl;exact h v Fn
   simp[this]
  ·rfl
theorem lU {i:Str->Option NameKind}{x:Str}:∀ {d:List (Str×Value)}{m:Str->Option Value},(∀ v,(x,v)∉d)->bindC i d m x=m x
 | [],_,_=>rfl
 | (n,v)::r,m,h=>by
  unfold bindC
  rw[lU λ w j=>h w ZJ6]
  split
  ·rfl
  ·have:x≠n:=by rintro rfl;exact h v Fn
   simp[this]
theorem ji {d:Str->Option NameKind}{x:Str}{v:Value}:∀ {P:List Str}{vs:List Value}{i:Nat}{m:Str->Option Value},P.Nodup->P[i]? = some x->vs[i]? = some v->d x=some .local ->
  bindL d ZUB m x=some v
 | [],_,_,_,_,h,_,_=>by simp at h
 | _::_,[],_,_,_,_,h,_=>by simp at h
 | p::P,w::vs,0,m,nd,h1,h2,hk=>by
  simp at h1 h2;subst h1;subst h2
  show bindL d ((p,w)::P.zip vs) m p=_
  unfold bindL
  rw[lR λ v j=>ZKY,Fl hk]
  simp
 | p::P,w::vs,i+1,m,nd,h1,h2,hk=>by
  show bindL d ((p,w)::P.zip vs) m x=_
  unfold bindL
  exact ji (i:=i) (ZBg).2 (by simpa using h1) (by simpa using h2) hk
theorem lA {d:Str->Option NameKind}{x:Str}{v:Value}:∀ {P:List Str}{vs:List Value}{i:Nat}{m:Str->Option Value},P.Nodup->P[i]? = some x->vs[i]? = some v->d x≠some .local ->
  bindC d ZUB m x=some v
 | [],_,_,_,_,h,_,_=>by simp at h
 | _::_,[],_,_,_,_,h,_=>by simp at h
 | p::P,w::vs,0,m,nd,h1,h2,hk=>by
  simp at h1 h2;subst h1;subst h2
  show bindC d ((p,w)::P.zip vs) m p=_
  unfold bindC
  rw[lU λ v j=>ZKY,Fj hk]
  simp
 | p::P,w::vs,i+1,m,nd,h1,h2,hk=>by
  show bindC d ((p,w)::P.zip vs) m x=_
  unfold bindC
  exact lA (i:=i) (ZBg).2 (by simpa using h1) (by simpa using h2) hk
noncomputable def start (N:Zo) (vs:Z11):St:=vs.map some++List.replicate (N.length-vs.length) none
noncomputable def nv (CX:CXT) (P:Program) (w:World) (K:PySem.W.Frag) (mg:Str->Option Value) (base:Heap) (N:Zo) (qual:Str) (scope:Scope) (f:Addr) (cd:Value) (A:Around) (outer:Z5Q) (s:Shared) (H:Hp) (E:XK):Cx where
 prog:=P
 w:=w
 K:=K
 mg:=mg
 base:=base
 A:=ZQY
 N:=N
 s₀:=s
 H₀:=H
 env:=Z0P
 outer:=outer
 stack:=envOfC qual scope s.heap.objs.size f cd::outer
 ex:=[]
 calm:=true
 fn:=λ _=>true
 pn:=[]
 xe:=λ e s'=>wpAny Zh ZQY (leaving Z0P e) ZAE Z9N s'
theorem kN {sc:Scope}{n:Nat}{x:Str}(h:sc.names.lookup x=some .cell):∃ c,(cellsFrom n sc.names []).lookup x=some c:=by
 have q:=JJ sc.names n [] Z9t
 exact Option.isSome_iff_exists.mp q
theorem my {CX:CXT}{P:Program}{w:World}{K:PySem.W.Frag}{mg:Str->Option Value}{base:Heap}{N ps:Zo}{qual:Str}{scope:Scope}{f:Addr}{cd:Value}{A:Around}{outer:Z5Q}{s s1:Shared}{H:Hp}{E:XK}{us:Zr}{vs:Z11}
  (S:ZNm) (hd:A.handled=none) (e0:ZBY) (hl:vs.length=ps.length) (r:ZEE)
  (x:InCallC s s.heap.objs.size (bindL (Z0P).kindOf Z9a λ _=>none) (cellsFrom (s.heap.objs.size+1) scope.names []) (bindC (Z0P).kindOf Z9a λ _=>none) s1) :
  Inv Z5_ [] Z34 H s1:=by
 have hpl:ps.length<=N.length:=by have:=congrArg List.length S.pre;rw[F0] at this;lia
 obtain⟨h1,tk,rfl,hk⟩:=x.done
 have noA:∀ b:Addr,b∉(Z5_).ex:=λ b z=>absurd (show b∈([]:Z09) from z) ZA
 refine⟨⟨e0.mod,S.kind,rfl,rfl,Z9,λ y z c h1 h2=>?_,λ y hy=>?_,λ y c _ h=>?_,λ _=>hd,ZAz,ZOZ,λ b z=>Z73,e0.bs,e0.bsz,λ b _ _=>noA b,λ b z=>Z73,e0.iJ,e0.frf⟩,
  rfl,e0.bare,ZTT,⟨_,x.toInCall.ns,λ i y v h1 h2 h3=>?_⟩,λ y c h=>⟨_,x.cell y c h⟩,ZL2,λ y c h=>?_,λ p hp=>absurd (show p∈([]:List (Addr×Obj)) from hp) ZA,ZMY,?_⟩
 ·exact name_of_addr x.apart (Gg h1) (Gg h2)
 ·have hy:scope.names.lookup y=some .cell\/scope.names.lookup y=some .free:=hy
  rcases hy with hy|hy
  ·exact kN hy
  ·exact absurd rfl (S.nofree _ (Gg hy))
 ·exact ZEx
 ·have hi:i<vs.length:=by
   unfold start at h2
   by_cases hi:i<vs.length
   ·exact hi
   ·rw[FI (by simpa using hi)] at h2
    rw[JH] at h2
    split at h2<;>cases h2
  have ha:vs[i]? = some v:=by
   unfold start at h2
   rw[F4 (by simpa using hi),Ff] at h2
   cases e:vs[i]? with
   | none=>rw[e] at h2;cases h2
   | some a=>rw[e] at h2;cases h2;rfl
  obtain⟨u,hu,rv⟩:=ZWV
  have hp:ps[i]? = some y:=by
   rw[<- S.pre,Ju Z2];exact h1
  have ndP:ps.Nodup:=by rw[<- S.pre];exact ZGC
  refine⟨u,rv,?_⟩
  rcases S.par y (Fg hp) with k|k
  ·exact ZCf
  ·obtain⟨c,e⟩:=kN (n:=s.heap.objs.size+1) k
   refine .inr ⟨.inl k,c,e,?_⟩
   have q:=x.cell y c e
   rw[lA ndP hp hu (by show scope.names.lookup y≠_;rw[k];decide)] at q
   exact q
 ·exact .inl (e0.hok.fresh ZEx)
 ·unfold start
  show _=N.length
  rw[Fh,Fe,HD]
  lia
theorem CP {CX:CXT}{P:Program}{w:World}{K:PySem.W.Frag}{U:Str->Option Value}{base:Heap}{k:Nat}{f:Addr}{name qual:Str}{l:Arguments}{z:Z5f}{d:Scope}{dV kV L pm j ct oc:Value}{an od:ZCM}
  {a0:Z8Q}{N ps:Zo}{sp:Sp}(lk:K.lookup f=some ⟨oc,od,.func Z5y,a0⟩) (W:PySem.W.codeIn K j qual=true) (S:bq N ps d)
  (T:∀ vs H Q E,sp vs H Q E->vs.length=ps.length)
  (D:∀ (A:Around) (i:List Env) (s:Shared) (H:Hp) (vs:List V) (Q:VK) (E:XK),dk k (A.deeper (envOfC qual d s.heap.objs.size f j))->sp vs H Q E ->
   ∃ t,PSs Z2Z z t/\t { nx:=λ _ H'=>ZVK,rt:=Q } Z34 H) :
  bR P w K U base CX (k+1) f Z5y ps sp:=by
 refine⟨T,λ A i s H a1 us vs Q E Y M hb r R=>?_⟩
 have hl:=T _ _ _ _ R
 have KX:Z3n:=Z7L
 have Z:s.heap.NoLimit:=Z6d
 have F:∀ y∈ps.zip us,d.names.lookup y.1=some .local\/(d.names.lookup y.1=some .cell/\((cellsFrom (s.heap.objs.size+1) d.names []).lookup y.1).isSome=true):=λ⟨n,v⟩ hy=>by
  rcases S.par n (Je hy).1 with q|q
  ·exact ZLi
  ·exact ZB0
 refine Z1l
 refine wpAny_newFunctionEnv_cells S.kind F λ a2 he s1 x=>?_
 subst he
 refine⟨Z.keeps x.toInCall.keep,ZL4⟩
 obtain⟨t,ht,hq⟩:=D A i s H vs Q E ZQw R
 have I:Inv Z2Z [] Z34 H s1:=ZIV
 refine Ga (ht [] s1 Z34 H _ I hq) (λ fl s' G=>?_) λ e s' G=>G
 have O:∀ {B:St} {H':Hp} {v:V} {u:Value},Inv Z2Z [] B H' s'->RelV v u->Q v H'->CE i P w H s Q u s':=
  λ{B H' v u} J rv q=>Z7I
 cases fl with
 | ret u=>
  obtain⟨v,B,H',J,rv,q⟩:=G
  exact O J rv q
 | next=>
  obtain⟨B,H',J,q⟩:=G
  exact O (v:=V.non) (u:=Value.none) J rfl q
 | brk=>
  obtain⟨_,_,_,q⟩:=G
  exact Z3x
 | cont=>
  obtain⟨_,_,_,q⟩:=G
  exact Z3x
section
variable {X:Cx}{x:Str}{p pos:Pos}{e:Expr}{es:List Expr}{t:TA}{id T:String}{r:List V->Hp->VK->Prop}
def tCB (r:List V->Hp->VK->Prop) (t:TA):TE:=λ σ H Q=>t σ H λ vs H1=>r vs H1 Q
theorem bL (n:cN X Z1g r) (y:ZAw) (z:X.mg x=none) (D:bootBuiltins x=some Z1g) (l:PA X (e::es) t) (B:x ≠ "__name__":=by decide) (d:(x == ("__debug__" :ZHN))=false:=by decide)
  (q:starEach (e::es) X.env=(false,Z0k)::starEach es X.env:=by rfl) (i:(Z0K).any (·.1)=false:=by rfl):PE X (.Call Z9F (e::es) [] pos) ZVp:=by
 intro pins s σ H Q I h
 refine ZFY
 exact PyProof.Rows.callWith_builtin1 (thn ZDn λ L J ⟨M,H1,j,G,F⟩=>ZD7) q i
theorem cF (n:cN X ZCz r) (y:ZAw) (z:X.mg x=none) (D:bootBuiltins x=some ZCz) (l:PA X (e::es) t) (B:x ≠ "__name__":=by decide) (d:(x == ("__debug__" :ZHN))=false:=by decide)
  (q:starEach (e::es) X.env=(false,Z0k)::starEach es X.env:=by rfl) (i:(Z0K).any (·.1)=false:=by rfl):PE X (.Call Z9F (e::es) [] pos) ZVp:=by
 intro pins s σ H Q I h
 refine ZFY
 exact Ie (thn ZDn λ L J ⟨M,H1,j,G,F⟩=>ZD7) q i
end
end L2
namespace HT
open PySem PyProof.Rows
section
open PySem.SeqAt
open PySem.AutoSeq1 (wpAny_loadPart')
open PySem.MeetsSeq PySem.MeetsSeq2 PySem.MeetsSeq3
end
section
variable {prog:Program}{w:World}{A:Around}{E:Value->Shared->Prop}{s:Shared}
noncomputable def sIx (n d:Nat):Option Int->Nat
 | none=>d
 | some v=>if v<0 then (v+(n:Int)).toNat else min v.toNat n
end
end HT
namespace L2
open PySem PySem.Spec PyProof.Rows
noncomputable abbrev TO:=St->Hp->(Option Int->Hp->Prop)->Prop
def PO (X:Cx) (e:Option Expr) (t:TO):Prop:=
 ∀ (pins:List (Addr×Obj)) (s:Shared) (σ:St) (H:Hp) (Q:Option Int->Hp->Prop),Inv X pins σ H s->t σ H Q ->
  wpAny Z5 X.A (evalPart e X.env) (λ u s'=>∃ o H',Inv X pins σ H' s'/\IsPart u o/\Q o H') X.xe s
def m9:TO:=λ _ H Q=>Q none H
inductive uz (Q:Option Int->Hp->Prop) (x:V) (H1:Hp):Prop
 | mk:∀ i,x=.int i->Q (some i) H1->uz Q x H1
def u9 (t:TE):TO:=λ σ H Q=>t σ H λ x H1=>uz Q x H1
section
variable {X:Cx}{e:Expr}{te:TE}{lo hi:Option Expr}{tl th:TO}{pos p2:Pos}
theorem eO:PO X none m9:=by
 intro pins s σ H Q I h
 rw[evalPart_none]
 exact Fb ⟨none,H,I,.none,h⟩
theorem eY (h:Z5d):PO X ZXV (u9 te):=by
 intro pins s σ H Q I j
 rw[evalPart_some]
 refine thn (h pins s σ H _ I j) λ u y z=>?_
 obtain⟨x,H1,d,n,l⟩:=z
 obtain⟨i,rfl,q⟩:=l
 obtain⟨t,rfl⟩:=n
 exact⟨some i,H1,d,ZBh,q⟩
def SlR (X:Cx) (r:V->Option Int->Option Int->Hp->VK->Prop):Prop:=
 ∀ (pins:List (Addr×Obj)) (s:Shared) (σ:St) (H:Hp) (x:V) (v vl vu:Value) (lo hi:Option Int) (sl:Addr) (Q:VK),Inv X pins σ H s->RelV x v->s.heap.IsSliceOf sl vl vu .none->IsPart vl lo->IsPart vu hi->r x lo hi H Q ->
  ∃ T id,typeLookup ZCz "__getitem__" = pure (ZWN)/\s.TypeIs v T/\wpAny Z5 X.A (getItem v (.ref sl)) Z0N X.xe s
def tSl (r:V->Option Int->Option Int->Hp->VK->Prop) (te:TE) (tl th:TO):TE:=λ σ H Q=>te σ H λ x H1=>tl σ H1 λ l H2=>th σ H2 λ u H3=>r x l u H3 Q
theorem dZ (M:SlR X r) (G:Z5d) (L:PO X lo tl) (O:PO X hi th):PE X (.Subscript e ZFm pos) (tSl r te tl th):=by
 intro pins s σ H Q I h
 refine Subscript_ (thn ZGo λ v Z z=>?_)
 obtain⟨x,H1,y,Y,U⟩:=z
 refine wpAny_Slice (thn (L pins Z σ H1 _ y U) λ i s2 ⟨l,H2,z,R,V⟩=>thn (O pins s2 σ H2 _ z V) λ j d w=>?_)
 obtain⟨u,n,B,S,W⟩:=w
 rw[evalPart_none]
 refine Z5t
 have D:Inv X pins σ n { d with heap:=d.heap.push { cls:=ZF2,data:=.fields #[i,j,.none] } }:=B.kept (t':=d.toks) λ b ob q=>Zz
 obtain⟨T,id,F,N,J⟩:=M pins { d with heap:=d.heap.push { cls:=ZF2,data:=.fields #[i,j,.none] } } σ n x v i j l u d.heap.objs.size Q D Y (Heap.IsSliceOf.new ..) R S W
 show wpAny Z5 X.A (subscriptTail e ZFm v Z53) Z0N X.xe { d with heap:=d.heap.push { cls:=ZF2,data:=.fields #[i,j,.none] } }
 exact tail_any (ops:=[Z53,v]) N F J (by with_unfolding_all rfl)
noncomputable def dU (xs:Z11) (lo hi:ZJb):Z11:=(xs.drop ZFJ).take (HT.sIx xs.length xs.length hi-HT.sIx xs.length 0 lo)
theorem gB (xs) (lo hi):(ZHd).length<=xs.length:=by
 unfold dU
 rw[F0,JG]
 lia
end
noncomputable def ixN (n:Nat) (i:Int):Z5V:=if 0<=i then (if i<n then some i.toNat else none) else if -(n:Int)<=i then some (i+n).toNat else none
noncomputable def atI {α:Type}(xs:ZLN) (i:Int):Option α:=(ixN xs.length i).bind λ j=>xs[j]?
theorem qA (h:ixN n i=some j):seqIndex? i n=some j/\j<n /\ -(n:Int)<=i/\i<n:=by
 unfold ixN at h
 by_cases d:0<=i
 ·rw[Fl d] at h
  by_cases h1:i<n
  ·rw[Fl h1] at h
   have e:i.toNat=j:=Z4t
   exact⟨by rw[seqIndex_of d h1,e],Z2,Z2,h1⟩
  ·rw[Fj h1] at h;cases h
 ·rw[Fj d] at h
  by_cases h1 : -(n:Int)<=i
  ·rw[Fl h1] at h
   have e:(i+n).toNat=j:=Z4t
   exact⟨by rw[seqIndex_neg Z2 h1,e],Z2,h1,Z2⟩
  ·rw[Fj h1] at h;cases h
theorem ro (h:atI xs i=some v):∃ j,seqIndex? i xs.length=some j/\xs[j]? = some v/\j<xs.length /\ -(xs.length:Int)<=i/\i<xs.length:=by
 unfold atI at h
 cases e:ixN xs.length i with
 | none=>rw[e] at h;cases h
 | some j=>
  rw[e] at h
  obtain⟨h1,h2,d,l⟩:=qA e
  exact⟨j,h1,h,h2,d,l⟩
theorem cW {d:Type}{xs:List d}{j:Nat}{v:d}(h:xs[j]? = some v):atI xs (j:Int)=some v:=by
 have i:j<xs.length:=Z36
 have e:ixN xs.length (j:Int)=some j:=by
  unfold ixN
  rw[ZDZ,ZDZ];simp
 unfold atI;rw[e];exact h
theorem fA (xs) (v:α):atI (xs++[v]) (-1)=some v:=by
 have d:(xs++[v]).length=xs.length+1:=Zq
 have e:ixN (xs++[v]).length (-1)=some xs.length:=by
  unfold ixN
  rw[d,ZBH,ZDZ]
  congr 1
  lia
 unfold atI
 rw[e]
 show (xs++[v])[xs.length]? = some v
 simp
def wL (b:Expr):Prop:=∀ o i,subscripted b false o i=operate [o,i] ZOy
def IxR (X:Cx) (r:R2):Prop:=
 ∀ (value slice:Expr) (pins:List (Addr×Obj)) (s:Shared) (σ:St) (H:Hp) (x y:V) (v u:Value) (Q:VK),Inv X pins σ H s->RelV x v->RelV y u->r x y H Q ->
  subscripted slice false v u=operate [v,u] (getItem v u)->wpAny Z5 X.A (subscriptTail value slice v u) Z0N X.xe s
def MtR (X:Cx) (id:String) (r:V->List V->Hp->VK->Prop):Prop:=
 ∀ (pins:List (Addr×Obj)) (s:Shared) (σ:St) (H:Hp) (x:V) (xs:List V) (v:Value) (us:List Value) (Q:VK),Inv X pins σ H s->RelV x v->Vals xs us->r x xs H Q ->
  wpAny Z5 X.A (call Z1g (v::us)) Z0N X.xe s
section
variable {X:Cx}{a b:Expr}{ta tb:TE}{pos:Pos}
theorem bF {r:R2}(l:IxR X r) (i:Z3Y) (j:ZCL) (hs:wL b):PE X (.Subscript a b pos) Z9w:=by
 intro pins s σ H Q I h
 exact Subscript_ (z9 i j I h λ v u B x y H2 d n z q=>l a b pins B σ H2 x y v u Q d n z q (hs _ _))
inductive sC (K:PySem.W.Frag) (x:V) (y:V) (H:Hp) (Q:VK):Prop
 | mk:∀ p xs i v,x=.ref p->y=.int i->SqL K H p xs->atI xs i=some v->Q v H->sC K x y H Q
inductive xB (K:PySem.W.Frag) (x:V) (y:V) (H:Hp) (Q:VK):Prop
 | mk:∀ p xs i v,x=.ref p->y=.int i->SqT K H p xs->atI xs i=some v->Q v H->xB K x y H Q
theorem xa:IxR X (sC X.K):=by
 intro value F pins s σ H x y v u Q I U V h L
 obtain⟨p,xs,i,z,rfl,rfl,S,O,q⟩:=h
 cases U
 obtain⟨t,rfl⟩:=V
 obtain⟨n,r,B,Z⟩:=I.list S
 obtain⟨j,h1,h2,W,M,N⟩:=ro O
 obtain⟨w,G,D⟩:=ZWW
 have R:=r.length
 have Y:=j9
 have d:ZIn:=⟨z,H,I,D,q⟩
 by_cases J:0<=i
 ·have l:i.toNat=j:=by
   rw[seqIndex_of J N] at h1
   exact Z4K
  exact item_listR B.isList J Z2 (by rw[l];simpa using G) d L
 ·have l:(i+(n.toArray.size:Int)).toNat=j:=by
   rw[seqIndex_neg Z2 M] at h1
   rw[FD,<- R]
   exact Z4K
  exact subscriptTail_builtinR (x:=w) B.isList.typeIs slot_list_getitem.lookup
   (wpAny_getItem_list_neg (Q:=λ r s'=>r=w/\EP X pins σ Q r s') B.isList Z2 (by rw[FD]<;>lia) Z2 (by rw[l];simpa using G) ⟨rfl,d⟩) L
theorem zG:IxR X (xB X.K):=by
 intro value n pins s σ H x y v u Q I N O h L
 obtain⟨p,xs,i,z,rfl,rfl,J,F,q⟩:=h
 cases N
 obtain⟨t,rfl⟩:=O
 obtain⟨M,r,B,W⟩:=I.tuple J
 obtain⟨j,h1,h2,R,S,U⟩:=ro F
 obtain⟨w,D,l⟩:=ZWW
 have G:=r.length
 have V:=j9
 have d:ZIn:=⟨z,H,I,l,q⟩
 exact subscriptTail_builtinR (x:=w) B.typeIs slot_tuple_getitem.lookup
  (getItem_tuple (j:=j) (Q:=λ r s'=>r=w/\EP X pins σ Q r s') B Z2 Z2 (by rw[FD,<- G];exact h1) (by simpa using D) ⟨rfl,d⟩) L
theorem ql (its:Zr) (n j:Nat) (u:Value):Obj.mapSeq (·.setIfInBounds j u) { cls:=ZO,data:=Z1s}={ cls:=ZO,data:=.seq (its.set j u).toArray n }:=by
 simp[Obj.mapSeq]
theorem Inv.lst (I:Z8) (h:H p=some Zu) :
  ∃ (its:List Value) (n:Nat),Vals xs its/\s.heap.get? p=some { cls:=ZO,data:=Z1s}/\xs.length<=sizeLine:=by
 obtain⟨z,its,n,r,e⟩:=I.hok p _ h
 exact⟨its,n,r,e,z⟩
theorem Inv.zk {pins:List (Addr×Obj)}{σ:St}{H:Hp}{s:Shared}{p:Addr}{xs ys:Z11}{its its':Zr}{n d:Nat}{f:Obj->Obj}(I:Z8) (h:H p=some Zu)
  (l:s.heap.get? p=some { cls:=ZO,data:=Z1s}) (i:f { cls:=ZO,data:=Z1s}={ cls:=ZO,data:=ZHC}) (r:ZQH) (hz:ys.length<=sizeLine) (t:Nat) :
  Inv X pins σ (upd H p Z03) { s with heap:=ZJG,toks:=t }:=by
 have e:(ZJG).get? p=some { cls:=ZO,data:=ZHC}:=by
  rw[Heap.get?_update_self f l (by rw[i]<;>rfl),i]
 refine I.write (x:=p) (e:=p) (by rw[h];trivial) Z1x (λ b u j q=>(Heap.get?_update_other _ _ (Ne.symm j)).trans q) Z49 ?_
 exact⟨hz,its',d,r,e⟩
inductive yr (o:V) (i:V) (v:V) (H:Hp) (Q:Hp->Prop):Prop
 | mk:∀ p xs k j,o=.ref p->i=.int k->H p=some Zu->ixN xs.length k=some j->Q ZBM->yr o i v H Q
theorem set_list:Ax X yr:=by
 intro pins s σ H o i v V U u Q I O N R h
 obtain⟨p,xs,k,j,rfl,rfl,J,L,q⟩:=h
 cases O
 obtain⟨t,rfl⟩:=N
 obtain⟨d,n,r,z,M⟩:=I.lst J
 obtain⟨h1,h2,F,G⟩:=qA L
 have y:=r.length
 have S:=j9
 have B:Inv X pins σ ZBM { s with heap:=s.heap.update p (Obj.mapSeq (·.setIfInBounds j u)) }:=
  I.zk J z (ql d n j u) (r.set R j) (by rw[GK];exact M) s.toks
 by_cases D:0<=k
 ·have l:k.toNat=j:=by
   rw[seqIndex_of D G] at h1
   exact Z4K
  exact PySem.W.ki_setAt z D Z2 (by rw[FD,<- y];exact G) (by rw[l];exact ZR8)
 ·have l:(k+(d.toArray.size:Int)).toNat=j:=by
   rw[seqIndex_neg Z2 F] at h1
   rw[FD,<- y]
   exact Z4K
  exact PySem.W.ki_setBack z Z2 (by rw[FD,<- y];exact F) Z2 (by rw[l];exact ZR8)
theorem mH (lo hi) (n):(Z6O).1=((HT.sIx n 0 lo:Nat):Int)/\(Z6O).2.1=((HT.sIx n n hi:Nat):Int)/\(Z6O).2.2=1:=by
 refine⟨?_,?_,rfl⟩
 ·cases lo with
  | none=>simp[sliceBounds,HT.sIx]
  | some i=>
   simp only[sliceBounds,HT.sIx,Option.getD_none,show (1:Int)>0 by decide,HB]
   by_cases h:i<0
   ·simp only[h,HB]<;>lia
   ·simp only[h,Gi]<;>lia
 ·cases hi with
  | none=>simp[sliceBounds,HT.sIx]
  | some i=>
   simp only[sliceBounds,HT.sIx,Option.getD_none,show (1:Int)>0 by decide,HB]
   by_cases h:i<0
   ·simp only[h,HB]<;>lia
   ·simp only[h,Gi]<;>lia
theorem lj (its:Zr) (lo hi:ZJb):slicePick its.toArray lo hi none=((its.drop (HT.sIx its.length 0 lo)).take (HT.sIx its.length its.length hi-HT.sIx its.length 0 lo)).toArray:=by
 obtain⟨h1,h2,d⟩:=mH lo hi its.toArray.size
 unfold slicePick
 rw[h1,h2,d]
 simp only[sliceRange_one,pick_run,FD]<;>rfl
inductive vx (K:PySem.W.Frag) (x:V) (lo:Option Int) (hi:Option Int) (H:Hp) (Q:VK):Prop
 | mk:∀ a xs,x=.ref a->SqL K H a xs->(∀ p,H p=none->Q Z00 (upd H p ZXF))->vx K x lo hi H Q
theorem w9:SlR X (vx X.K):=by
 intro pins s σ H x v J L lo hi G Q I D j z B h
 obtain⟨a,xs,rfl,l,q⟩:=h
 cases D
 obtain⟨y,r,i,n⟩:=I.list l
 have d:=r.length
 refine⟨"list",_,slot_list_getitem.lookup,i.isList.typeIs,?_⟩
 refine wpAny_getItem_list_slice i.isList j z B .none ZA ?_ (by rw[FD]<;>lia)
 rw[lj,<- d]
 refine⟨ZI,_,I.laid (t':=s.toks) (o:=ZXF) (λ b F q=>Zz) Z9 ?_,rfl,q _ Z2f⟩
 exact⟨FC (gB xs lo hi) n,_,0,(r.drop ZFJ).take (HT.sIx xs.length xs.length hi-HT.sIx xs.length 0 lo),ZH⟩
noncomputable def fz:V->Bool
 | .non=>true
 | .bl _=>true
 | .int _=>true
 | .str _=>true
 | _=>false
noncomputable def eqV:V->V->Bool
 | .non,.non=>true
 | .bl a,.bl b=>a == b
 | .bl a,.int b=>(if a then 1 else 0) == b
 | .int a,.bl b=>a == (if b then 1 else 0)
 | .int a,.int b=>a == b
 | .str a,.str b=>a == b
 | _,_=>false
theorem zU {A:Around}{s:Shared}{y x:V}{u v:Value}(ry:Z4J) (rx:ZO0) (fy:fz y=true) (fx:fz x=true):SeqAt.EqAt A s u v (ZRQ):=by
 cases y with
 | non=>
  cases ry
  cases x with
  | non=>cases rx;exact SeqAt.EqAt.same _
  | bl b=>cases rx;exact SeqAt.EqAt.none_bool b
  | int b=>obtain⟨t,rfl⟩:=rx;exact SeqAt.EqAt.none_int b t
  | str b=>obtain⟨t,rfl⟩:=rx;exact SeqAt.EqAt.none_str b t
  | _=>exact absurd (show false=true from fx) Fv
 | bl a=>
  cases ry
  cases x with
  | non=>cases rx;exact SeqAt.EqAt.bool_none a
  | bl b=>cases rx;exact SeqAt.EqAt.bool_bool a b
  | int b=>obtain⟨t,rfl⟩:=rx;exact SeqAt.EqAt.bool_int a b t
  | str b=>obtain⟨t,rfl⟩:=rx;exact SeqAt.EqAt.bool_str a b t
  | _=>exact absurd (show false=true from fx) Fv
 | int a=>
  obtain⟨t',rfl⟩:=ry
  cases x with
  | non=>cases rx;exact SeqAt.EqAt.int_none a t'
  | bl b=>cases rx;exact SeqAt.EqAt.int_bool a t' b
  | int b=>obtain⟨t,rfl⟩:=rx;exact SeqAt.EqAt.int_int a t' b t
  | str b=>obtain⟨t,rfl⟩:=rx;exact SeqAt.EqAt.int_str a t' b t
  | _=>exact absurd (show false=true from fx) Fv
 | str a=>
  obtain⟨t',rfl⟩:=ry
  cases x with
  | non=>cases rx;exact SeqAt.EqAt.str_none a t'
  | bl b=>cases rx;exact SeqAt.EqAt.str_bool a t' b
  | int b=>obtain⟨t,rfl⟩:=rx;exact SeqAt.EqAt.str_int a t' b t
  | str b=>obtain⟨t,rfl⟩:=rx;exact SeqAt.EqAt.str_str a t' b t
  | _=>exact absurd (show false=true from fx) Fv
 | _=>exact absurd (show false=true from fy) Fv
noncomputable def eqU (x:V) (u:Value):Bool:=match u with
 | .none=>eqV .non x
 | .bool b=>eqV ZD1 x
 | .int i _=>eqV Z2M x
 | .str z _=>eqV (.str z) x
 | _=>false
theorem vI {x y:V}{u:Value}(r:Z4J) (f:fz y=true):eqU x u=eqV y x:=by
 cases y with
 | non=>cases r;rfl
 | bl b=>cases r;rfl
 | int i=>obtain⟨t,rfl⟩:=r;rfl
 | str z=>obtain⟨t,rfl⟩:=r;rfl
 | _=>exact absurd (show false=true from f) Fv
theorem jP (h:Z85) (f:xs.all fz=true):us.any Z5n=xs.any λ y=>ZRQ:=by
 induction h with
 | nil=>rfl
 | cons r _ d=>
  rw[Jw,F5] at f
  rw[Jv,Jv,ZWG,d f.2]
theorem gh {A:Around}{s:Shared}{x:V}{v:Value}(rx:ZO0) (fx:fz x=true):∀ {xs:List V}{us:List Value},Vals xs us->xs.all fz=true->∀ u∈us,SeqAt.EqAt A s u v (eqU x u)
 | _,_,.nil,_=>λ u hu=>by cases hu
 | y::xs,u::us,.cons r t,f=>λ u' hu=>by
  rw[Jw,F5] at f
  rcases Fi.mp hu with rfl|hu
  ·rw[ZWG];exact zU r rx f.1 fx
  ·exact gh rx fx t f.2 u' hu
noncomputable def inV (x:V) (xs:Z11):Bool:=xs.any λ y=>ZRQ
inductive rIn (K:PySem.W.Frag) (neg:Bool) (x:V) (y:V) (H:Hp) (Q:VK):Prop
 | mk:∀ p xs,y=.ref p->(SqL K H p xs\/SqT K H p xs)->fz x=true->xs.all fz=true->Q (.bl (if neg then !inV x xs else inV x xs)) H->rIn K neg x y H Q
theorem sH:OpR X ZLx (rIn X.K false):=by
 intro pins s σ H x y v u Q I rx ry h
 obtain⟨p,xs,rfl,hq,fx,fs,q⟩:=h
 cases ry
 rcases hq with hq|hq
 ·obtain⟨its,r,pl,hz⟩:=ZCO
  refine SeqAt.in_listAt Z5n pl.isList (λ w hw=>gh rx fx r fs w (by simpa using hw)) ⟨.bl _,H,I,rfl,?_⟩
  rw[show its.toArray.any Z5n=its.any Z5n by simp,jP r fs]
  exact q
 ·obtain⟨its,r,pl,hz⟩:=ZTg
  refine SeqAt.in_tupleAt Z5n pl (λ w hw=>gh rx fx r fs w (by simpa using hw)) ⟨.bl _,H,I,rfl,?_⟩
  rw[show its.toArray.any Z5n=its.any Z5n by simp,jP r fs]
  exact q
theorem mP:OpR X ZJ0 (rIn X.K true):=by
 intro pins s σ H x y v u Q I rx ry h
 obtain⟨p,xs,rfl,hq,fx,fs,q⟩:=h
 cases ry
 rcases hq with hq|hq
 ·obtain⟨its,r,pl,hz⟩:=ZCO
  refine SeqAt.notIn_listAt Z5n pl.isList (λ w hw=>gh rx fx r fs w (by simpa using hw)) ⟨.bl _,H,I,rfl,?_⟩
  rw[show its.toArray.any Z5n=its.any Z5n by simp,jP r fs]
  exact q
 ·obtain⟨its,r,pl,hz⟩:=ZTg
  refine SeqAt.notIn_tupleAt Z5n pl (λ w hw=>gh rx fx r fs w (by simpa using hw)) ⟨.bl _,H,I,rfl,?_⟩
  rw[show its.toArray.any Z5n=its.any Z5n by simp,jP r fs]
  exact q
theorem m6:cN X ZBT (λ xs H Q=>∃ p ys,xs=[Z00]/\(SqL X.K H p ys\/SqT X.K H p ys)/\Q Z8h H):=by
 intro pins s σ H xs D Q I r h
 obtain⟨p,ys,rfl,i,q⟩:=h
 obtain⟨u,rfl,z⟩:=Z4g
 cases z
 have B:=j9
 rcases i with i|i
 ·obtain⟨j,n,l,y⟩:=ZX3
  have d:=n.length
  exact Calls.call_len_list l.isList (by simp only[FD]<;>lia) ⟨Z8h,H,Z2A,⟨s.toks+1,by rw[FD,d]⟩,q⟩
 ·obtain⟨j,n,l,y⟩:=ZVT
  have d:=n.length
  exact len_tuple l (by simp only[FD]<;>lia) ⟨Z8h,H,Z2A,⟨s.toks+1,by rw[FD,d]⟩,q⟩
theorem mU:cN X ZO (λ xs H Q=>∃ p ys,xs=[Z00]/\(SqL X.K H p ys\/SqT X.K H p ys)/\∀ l,H l=none->Q Zv ZFA):=by
 intro pins s σ H xs O Q I r h
 obtain⟨p,ys,rfl,B,q⟩:=h
 obtain⟨u,rfl,N⟩:=Z4g
 cases N
 have y:∀ (d:List Value),Vals ys d->ys.length<=sizeLine->∀ (h':Heap) (i:Nat),(∀ b o',s.heap.get? b=some o'->h'.get? b=some o') ->
   h'.get? s.heap.objs.size=some { cls:=ZO,dict:=none,data:=.seq d.toArray i,slots:=#[] }->EP X pins σ Q ZI { s with heap:=h' }:=λ d j D h' i F e=>
  ⟨ZI,_,I.laid (t':=s.toks) F Z9 (show bP X.prog X.w _ h' _ Z03 from ⟨D,d,i,j,e⟩),rfl,q _ Z2f⟩
 rcases B with B|B
 ·obtain⟨d,j,M,D⟩:=I.list B
  have z:=j.length
  obtain⟨o,L,G,n,J⟩:=M.isList
  exact call_list_seq p Z1x L G J ZAY (by simp only[FD]<;>lia)
 ·obtain⟨d,j,M,D⟩:=I.tuple B
  have z:=j.length
  obtain⟨o,L,G,n,J⟩:=M
  exact call_list_seq p Z9s L G J ZAY (by simp only[FD]<;>lia)
theorem kZ:cN X Z0U (λ xs H Q=>∃ p ys,xs=[Z00]/\((SqL X.K H p ys/\∀ l,H l=none->Q Zv ZOn)\/(SqT X.K H p ys/\Q Z00 H))):=by
 intro pins s σ H xs J Q I r h
 obtain⟨p,ys,rfl,h⟩:=h
 obtain⟨u,rfl,G⟩:=Z4g
 cases G
 rcases h with ⟨i,q⟩|⟨i,q⟩
 ·obtain⟨d,n,j,B⟩:=ZX3
  have z:=n.length
  refine call_tuple_list j.isList (λ h' F=>?_) (by simp only[FD]<;>lia)
  have y:Inv X pins σ H { s with heap:=h' }:=I.kept (t':=s.toks) F
  have D:Inv X pins σ (upd H h'.objs.size ZA6) { s with heap:=h'.push { cls:=Z0U,data:=.seq d.toArray } }:=
   y.laid (t':=s.toks) ZMw Z9 (show bP X.prog X.w _ _ _ ZA6 from ⟨B,d,n,IsTup.new _ _⟩)
  exact⟨.ref h'.objs.size,_,D,rfl,q _ (y.hok.fresh Z9)⟩
 ·obtain⟨d,n,j,B⟩:=ZVT
  exact call_tuple_same j ⟨Z00,H,I,rfl,q⟩
def tyV (K:PySem.W.Frag) (T:String) (x:V) (H:Hp):Prop:=match x with
 | .str _=>T = "str"
 | .int _=>T = "int"
 | .ref p=>(T = "list" /\ ∃ xs,SqL K H p xs)\/(T = "tuple" /\ ∃ o,K.lookup p=some o/\o.cls=.type "tuple" /\ o.dict=none) \/
   (T = "dict" /\ ((∃ kvs,H p=some Z2e)\/∃ kvs,H p=some Zk))\/(T = "set" /\ ∃ S n,H p=some (.set S n))
 | _=>False
theorem ua (I:Z8) (r:ZO0) (j:tyV X.K T x H) :
  s.TypeIs v T/\∀ a,v=.ref a->∃ B,s.heap.get? a=some B/\B.dict=none:=by
 cases x with
 | str z=>
  obtain⟨t,rfl⟩:=r
  cases (show T = "str" from j)
  exact⟨typeIs_str s z t,λ _ e=>nomatch e⟩
 | int i=>
  obtain⟨t,rfl⟩:=r
  cases (show T = "int" from j)
  exact⟨typeIs_int s i t,λ _ e=>nomatch e⟩
 | ref p=>
  cases r
  rcases j with ⟨rfl,xs,G⟩|⟨rfl,o,d,F,q⟩|⟨rfl,d⟩|⟨rfl,S,n,d⟩
  ·obtain⟨J,_,D,_⟩:=I.list G
   refine⟨D.isList.typeIs,λ a e=>?_⟩
   cases e
   obtain⟨o,n,e,c,q,_⟩:=D
   exact⟨o,e,q⟩
  ·refine⟨⟨o,I.kIn p o d,F⟩,λ a e=>?_⟩
   cases e
   exact⟨o,I.kIn _ o d,q⟩
  ·have z:∃ o,s.heap.get? p=some o/\o.ExactDict:=by
    rcases d with ⟨y,d⟩|⟨y,d⟩
    ·obtain⟨_,_,_,_,o,_,_,e,ex,_⟩:=ZHs
     exact ZPl
    ·obtain⟨_,_,_,_,o,_,_,e,ex,_⟩:=ZHs
     exact ZPl
   obtain⟨o,e,ex⟩:=z
   refine ZAH
   cases l
   exact ZK6
  ·obtain⟨o,_,_,_,e,ex,_⟩:=ZHs
   refine ZAH
   cases l
   exact ZK6
 | _=>exact ZAy
def Ad (K:PySem.W.Frag) (T:String) (r:V->List V->Hp->VK->Prop) (to:TE):TE:=λ σ H Q=>to σ H λ x H1=>tyV K T x H1/\r x [] H1 Q
def tBM (K:PySem.W.Frag) (T:String) (r:V->List V->Hp->VK->Prop) (to:TE) (t:TA):TE:=λ σ H Q=>to σ H λ x H1=>tyV K T x H1/\t σ H1 λ xs H2=>r x xs H2 Q
variable {o e:Expr}{es:List Expr}{to:TE}{t:TA}{name:Str}{apos cpos:Pos}{T id:String}{r:V->List V->Hp->VK->Prop}
theorem zZ (B:ZAu) (j:Z8c) (l:typeOf Z1g=pure Z3a) (y:ZEH) (z:ZCJ)
  (d:attributeBase o name X.env Z4u=eval o X.env:=by rfl) (i:(apos.endLine == cpos.line)=true:=by rfl):PE X ZFn (Ad X.K T r to):=by
 intro pins s σ H Q I h
 refine wpAny_Call_method0_late d i (thn ZGa λ v F w=>?_)
 obtain⟨x,H1,n,q,G,D⟩:=w
 obtain⟨h1,h2⟩:=ua n q G
 exact⟨T,id,B,j,l,h1,h2,Calls.callWith_builtin rfl (PySem.evalArgs_none (y pins F σ H1 x [] v [] Q n q .nil D))⟩
theorem BG (L:ZAu) (n:Z8c) (q:typeOf Z1g=pure Z3a) (G:ZEH) (J:ZCJ) (F:PA X (e::es) t)
  (i:attributeBase o name X.env Z4u=eval o X.env:=by rfl)
  (l:((backTo cpos (starEach (e::es) X.env)).all (λ x=>!x.1) && (ZAQ).all Z9u
   && decide ((e::es).length+([]:ZAv).length+(if ([]:List Keyword).isEmpty then 0 else 1)<30))=true:=by rfl)
  (j:(apos.endLine == cpos.line)=true:=by rfl) (hs:starEach (e::es) X.env=(false,Z0k)::starEach es X.env:=by rfl) (d:(Z4i).any (·.1)=false:=by rfl) :
  PE X (.Call Z44 (e::es) [] cpos) (tBM X.K T r to t):=by
 intro pins s σ H Q I h
 refine wpAny_Call_method_late i l j rfl (thn ZGn λ v R z=>?_)
 obtain⟨x,H1,y,B,U,M⟩:=z
 obtain⟨h1,h2⟩:=ua y B U
 refine⟨T,id,L,n,q,h1,h2,?_⟩
 have z:=F cpos pins R σ H1 _ y M
 rw[hs] at z ⊢
 refine Calls.callWith_builtin (by show (false || (Z4i).any (·.1))=false;rw[d]<;>rfl) (Calls.evalArgs_plain ?_)
 exact thn z λ V S ⟨W,H2,D,O,N⟩=>G pins S σ H2 x W v V Q D B O N
end
def MtM (X:Cx) (id:String) (r:V->List V->Hp->VK->Prop):Prop:=
 ∀ (pins:List (Addr×Obj)) (s:Shared) (σ:St) (H:Hp) (x:V) (xs:List V) (v:Value) (us:List Value) (Q:VK),Inv X pins σ H s->RelV x v->Vals xs us->r x xs H Q ->
  wpAny Z5 X.A (call Z1g (v::us)) Z0N X.xe s
theorem Vals.unc (h:Vals (x::xs) us):∃ u vs,us=u::vs/\RelV x u/\Vals xs vs:=by
 cases h with
 | cons r t=>exact⟨_,_,rfl,r,t⟩
theorem Vals.zero (h:Vals [] us):us=[]:=by
 cases h;rfl
theorem Vals.one (h:ZRf):∃ u,us=[u]/\RelV x u:=by
 obtain⟨u,d,rfl,r,t⟩:=h.unc
 exact⟨u,by rw[t.zero],r⟩
theorem Vals.dropLast (h:Z85):Vals xs.dropLast us.dropLast:=by
 induction h with
 | nil=>exact .nil
 | cons r t d=>
  cases t with
  | nil=>exact .nil
  | cons q i=>exact .cons r d
theorem Vals.rep (h:Z85):∀ k:Nat,Vals (ZHo).flatten (List.replicate k us).flatten
 | 0=>.nil
 | k+1=>by
  rw[HM,HM,Jt,Jt]
  exact Vals.append h (Vals.rep h k)
theorem qv (l:ZLN):l.eraseIdx (l.length-1)=l.dropLast:=by
 induction l with
 | nil=>rfl
 | cons a r d=>
  cases r with
  | nil=>rfl
  | cons b r=>
   have e:(a::b::r).length-1=((b::r).length-1)+1:=by
    have h1:(a::b::r).length=r.length+2:=rfl
    have h2:(b::r).length=r.length+1:=rfl
    lia
   rw[e,List.eraseIdx_cons_succ,d]
   all_goals rfl
theorem foldl_rep (its):∀ (k:Nat) (d:List Value),
  List.foldl (λ j l=>j++l) d.toArray (List.replicate k its.toArray)=(d++(ZH6).flatten).toArray
 | 0,d=>Zq
 | k+1,d=>by
  have e:d.toArray++its.toArray=(d++its).toArray:=Zq
  have i:(d++its)++(ZH6).flatten=d++(List.replicate (k+1) its).flatten:=by
   rw[HM,Jt,Gd]
  rw[<- i,<- foldl_rep its k (d++its),<- e,HM,Kp]
section
variable {X:Cx}{pins:List (Addr×Obj)}{σ:St}{H:Hp}{s:Shared}{l b:Addr}{xs ys zs:List V}
theorem Inv.B7 {its its':Zr}{n:Nat}{f:Array Value->Array Value}{t':Nat}(I:Z8) (d:H l=some Zu)
  (e:s.heap.get? l=some { cls:=ZO,data:=Z1s}) (j:f its.toArray=its'.toArray) (z:ZQH) (hz:ys.length<=sizeLine) :
  Inv X pins σ ZFA { s with heap:=s.heap.update l ZNB,toks:=t' }:=by
 have q:=PySem.IsL.update e f
 rw[j] at q
 refine I.write (x:=l) (e:=l) (by rw[d];exact trivial) Z1x (λ B u i y=>(Heap.get?_update_other s.heap ZNB ZSl).trans y) ⟨_,q⟩ ?_
 exact⟨hz,its',_,z,q⟩
theorem Inv.DS (I:Z8) (d:Vals ys its) (hz:ys.length<=sizeLine) :
  Inv X pins σ (upd H s.heap.objs.size Z03) { s with heap:=s.heap.push { cls:=ZO,data:=.seq its.toArray },toks:=t' }:=
 I.laid ZDh Z9 ⟨hz,its,0,d,ZH⟩
theorem Inv.fresh (I:Z8):H s.heap.objs.size=none:=Z2f
theorem Inv.ux (I:Z8) (d:H l=some Zu):xs.length<=sizeLine/\∃ (its:List Value) (n:Nat),Vals xs its/\xs.length=its.length/\s.heap.get? l=some { cls:=ZO,data:=Z1s}:=by
 obtain⟨z,its,n,r,e⟩:=I.hok l _ d
 exact⟨z,its,n,r,r.length,e⟩
theorem vb (h:n<=sizeLine):Builtin.List.listTooLong n=false:=by
 unfold Builtin.List.listTooLong
 exact Gm Z2
end
section
variable {X:Cx}
inductive iY (x:V) (vs:List V) (H:Hp) (Q:VK):Prop
 | mk:∀ l xs y,x=.ref l->vs=[y]->H l=some Zu->xs.length<sizeLine->Q .non (upd H l (.lst (xs++[y])))->iY x vs H Q
theorem bW:MtM X "list.append" iY:=by
 intro pins s σ H x M v L Q I D B h
 obtain⟨l,xs,y,rfl,rfl,i,J,q⟩:=h
 cases D
 obtain⟨u,rfl,j⟩:=B.one
 obtain⟨z,d,n,r,G,e⟩:=I.ux i
 refine Ky F.slot_list_append Z6i F.entry_list_append (F.args_list_append_2 _ _) (PySem.list_append l d.toArray n u (by rw[FD];lia)) ZJD
 refine⟨.non,_,I.B7 (its':=d++[u]) i e ZA (r.append (.cons j .nil)) ?_,rfl,q⟩
 rw[Fh,Fy]
 lia
inductive DU (x:V) (vs:List V) (H:Hp) (Q:VK):Prop
 | mk:∀ l xs y,x=.ref l->vs=[]->H l=some Zu->xs[xs.length-1]? = some y->Q y (upd H l (.lst xs.dropLast))->DU x vs H Q
theorem wx:MtM X "list.pop" DU:=by
 intro pins s σ H x R v O Q I N M h
 obtain⟨l,xs,y,rfl,rfl,B,J,q⟩:=h
 cases N
 have i:=M.zero
 subst i
 obtain⟨z,d,n,r,D,e⟩:=I.ux B
 obtain⟨u,G,L⟩:=r.get J
 have j:d.toArray[d.toArray.size-1]? = some u:=by
  show d.toArray[d.length-1]? = some u
  rw[<- F2,<- D]
  exact G
 refine Ky F.slot_list_pop Z6i F.entry_list_pop (F.args_list_pop_1 _) (MeetsSeq.list_pop_last l d.toArray n u j (by rw[FD];lia)) ZJD
 refine⟨y,_,I.B7 (its':=d.dropLast) B e ?_ r.dropLast ?_,L,q⟩
 ·show d.toArray.eraseIdxIfInBounds (d.toArray.size-1)=d.dropLast.toArray
  rw[FD,List.eraseIdxIfInBounds_toArray,qv]
 ·rw[List.length_dropLast]
  lia
inductive wZ (x:V) (y:V) (H:Hp) (Q:VK):Prop
 | mk:∀ l b xs zs,x=.ref l->y=.ref b->H l=some Zu->H b=some ZGr->xs.length+zs.length<=sizeLine->(∀ p,H p=none->Q Z00 (upd H p (.lst (xs++zs))))->wZ x y H Q
theorem fk:OpR X ZM1 wZ:=by
 intro pins s σ H x y v u Q I L M h
 obtain⟨l,b,xs,zs,rfl,rfl,F,D,O,q⟩:=h
 cases L
 cases M
 obtain⟨z,i,n,r,N,e⟩:=I.ux F
 obtain⟨S,d,R,J,G,j⟩:=I.ux D
 refine PySem.P.add_list e j ?_ (by rw[FD,FD];lia)
 have B:i.toArray++d.toArray=(i++d).toArray:=Zq
 rw[B]
 exact⟨ZIp,_,I.DS (t':=s.toks) (r.append J) (by rw[Fh];lia),rfl,ZC1⟩
inductive EM (x:V) (y:V) (H:Hp) (Q:VK):Prop
 | mk:∀ l k xs,x=.ref l->y=.int k->H l=some Zu -> -(2 ^ 63)<=k->k<2 ^ 63->xs.length*k.toNat<=sizeLine->(∀ p,H p=none->Q Z00 (upd H p (.lst (List.replicate k.toNat xs).flatten)))->EM x y H Q
theorem len_rep (xs:ZLN) (k:Nat):(ZHo).flatten.length=k*xs.length:=by
 induction k with
 | zero=>simp
 | succ k d=>rw[HM,Jt,Fh,d,Nat.succ_mul,Nat.add_comm]
theorem zX:OpR X ZKT EM:=by
 intro pins s σ H x y v u Q I S V h
 obtain⟨l,k,xs,rfl,rfl,O,h1,h2,M,q⟩:=h
 cases S
 obtain⟨t,rfl⟩:=V
 obtain⟨z,d,n,r,R,e⟩:=I.ux O
 have D:d.toArray.size*k.toNat<=sizeLine:=by rw[FD,<- R];exact M
 have j:¬ d.toArray.size*k.toNat>(2 ^ 63-1)/8:=by
  have:(sizeLine:Nat)<=(2 ^ 63-1)/8:=Z3
  lia
 have B:¬ (!Builtin.List.listFitsIndex k)=true:=by
  rw[fitsIndex_both h1 h2]
  exact Fv
 have i:¬ Builtin.List.listTooLong (d.toArray.size*k.toNat)=true:=by
  rw[vb D]
  exact Fv
 have G:List.foldl (λ J L=>J++L) #[] (List.replicate (if d.toArray.isEmpty=true then 0 else k.toNat) d.toArray)=(List.replicate k.toNat d).flatten.toArray:=by
  have N:∀ m:Nat,List.foldl (λ J L=>J++L) #[] (List.replicate m d.toArray)=(List.replicate m d).flatten.toArray:=λ m=>by
   have:=foldl_rep d m []
   rw[Kn] at this
   exact this
  rw[N]
  cases d with
  | nil=>simp
  | cons a W=>rw[ZAU]
 refine wpAny_binaryOp_repeat_ref (T:="list") (U:="int") Z3 Z6i (λ s'=>typeIs_int s' k t) noFill_list_mul F.fills_int_mul F.slot_int_rmul repeat_list F.slot_int_index.lookup
  (Ky F.slot_int_rmul (typeIs_int s k t) F.entry_int_rmul (F.args_int_rmul_2 _ _) (int___rmul___int_list k t l d.toArray n)
   ⟨e,rfl,Z6i,Ky F.slot_list_mul Z6i F.entry_list_mul (F.args_list_mul_2 _ _) (AutoListH.list___mul___list_int_3 l d.toArray n k t B j i) ZJD⟩)
 rw[G]
 exact⟨ZIp,_,I.DS (t':=s.toks) (r.rep k.toNat) (by rw[len_rep,Nat.mul_comm];exact M),rfl,ZC1⟩
end
section
variable {prog:Program}{w:World}{A:Around}{E:Value->Shared->Prop}{s:Shared}
end
section
variable {X:Cx}
end
section
variable {κ:Type} [DecidableEq κ]
noncomputable def cf (kvs:List (κ×V)) (k:κ):ZIi:=(kvs.find? λ kv=>decide (kv.1=k)).map (·.2)
noncomputable def putK (kvs:List (κ×V)) (k:κ) (v:V):List (κ×V):=
 if (kvs.any λ kv=>decide (kv.1=k))=true then kvs.map (λ kv=>if kv.1=k then (kv.1,v) else kv) else kvs++[(k,v)]
noncomputable def lY (kvs:List (κ×V)) (k:κ):List (κ×V):=kvs.filter λ kv=>decide (kv.1≠k)
theorem uD:cf ([]:List (κ×V)) k=none:=rfl
theorem cL {p:κ×V}{r:List (κ×V)}{k:κ}(e:p.1=k):cf (p::r) k=some p.2:=by simp[cf,IB,e]
theorem cI {p:κ×V}{r:List (κ×V)}{k:κ}(e:¬ p.1=k):cf (p::r) k=cf r k:=by simp[cf,IB,e]
theorem fE (k:κ):∀ kvs:List (κ×V),(kvs.any λ d=>decide (d.1=k))=(cf kvs k).isSome
 | []=>rfl
 | p::r=>by
  rw[Jv]
  by_cases e:p.1=k
  ·simp only[cL e,FX e,Bool.true_or,Option.isSome_some]
  ·rw[ZRV,Gm e,KG];exact fE k r
theorem om (k j:κ) (y:V):∀ kvs:List (κ×V),cf (kvs.map λ d=>if d.1=k then (d.1,y) else d) j=(cf kvs j).map λ x=>if j=k then y else x
 | []=>rfl
 | p::r=>by
  have i:=om k j y r
  rw[FL]
  by_cases h:p.1=k
  ·rw[ZOL]
   by_cases e:p.1=j
   ·rw[cL (p:=(p.1,y)) e,ZTK,Hk,Fl (e.symm.trans h)]
   ·rw[cI (p:=(p.1,y)) e,ZRV,i]
  ·rw[ZMk]
   by_cases e:p.1=j
   ·rw[cL (p:=p) e,ZTK,Hk,Fj (λ z=>h ZSc)]
   ·rw[cI (p:=p) e,ZRV,i]
theorem lM (k j:κ) (y:V):∀ kvs:List (κ×V),cf kvs k=none->cf (kvs++[(k,y)]) j=if j=k then some y else cf kvs j
 | [],_=>by
  by_cases e:k=j
  ·rw[Fl e.symm];exact cL (p:=(k,y)) e
  ·rw[Fj (λ z=>e z.symm)];exact cI (p:=(k,y)) e
 | p::r,hn=>by
  rw[List.cons_append]
  have d:¬ p.1=k:=λ z=>by rw[cL z] at hn;cases hn
  rw[cI d] at hn
  have i:=lM k j y r hn
  by_cases e:p.1=j
  ·rw[ZTK,ZTK,Fj (λ z=>d ZSc)]
  ·rw[ZRV,ZRV,i]
theorem tZ (kvs) (k j:κ) (y):cf ZDl j=if j=k then some y else cf kvs j:=by
 unfold putK
 by_cases a:(kvs.any λ i=>decide (i.1=k))=true
 ·rw[Fl a,om]
  rw[fE] at a
  by_cases e:j=k
  ·obtain⟨x,d⟩:=Option.isSome_iff_exists.mp a
   rw[ZVY,e,d,Hk,Z1U]
  ·rw[ZX8]
   cases cf kvs j with
   | none=>rfl
   | some x=>rw[Hk,ZX8]
 ·rw[Fj a]
  refine lM k j y kvs ?_
  rw[fE] at a
  cases q:cf kvs k with
  | none=>rfl
  | some x=>rw[q] at a;exact(a rfl).elim
theorem gG (kvs) (k:κ) (v):(Z7V).length<=kvs.length+1:=by
 unfold putK
 split
 ·rw[Fe];lia
 ·rw[Fh,FV,Ko];lia
theorem ja {kvs:List (κ×V)}{k:κ}(v:V) (h:cf kvs k=none):putK kvs k v=kvs++[(k,v)]:=by
 unfold putK
 rw[fE,h]
 exact ZBH
theorem fV.fB (r:fV o u):o.isSome=u.isSome:=by
 cases o with
 | none=>cases u with
  | none=>rfl
  | some _=>exact(show False from r).elim
 | some _=>cases u with
  | none=>exact(show False from r).elim
  | some _=>rfl
theorem fV.getD {o:ZIi}{u:Option Value}{d:V}{d':Value}(r:fV o u) (i:RelV d d'):RelV ZU5 (u.getD d'):=by
 cases o with
 | none=>cases u with
  | none=>exact i
  | some _=>exact(show False from r).elim
 | some _=>cases u with
  | none=>exact(show False from r).elim
  | some _=>exact r
theorem KV.val {kvs:List (κ×V)}{vs:List (κ×Value)}(r:Z7i) (k:κ):fV ZEX (valueAt vs k):=by
 unfold KV at r
 induction r with
 | nil=>exact True.intro
 | @cons p q ps i h t j=>
  obtain⟨h1,h2⟩:=h
  by_cases e:p.1=k
  ·have d:q.1=k:=Z7Y
   have b:valueAt (q::i) k=some q.2:=by simp[valueAt,IB,d]
   rw[ZTK,b];exact h2
  ·have d:¬ q.1=k:=λ z=>Z8Z
   have b:valueAt (q::i) k=valueAt i k:=by simp[valueAt,IB,d]
   rw[ZRV,b];exact j
theorem KV.any (r:Z7i) (k:κ):(kvs.any λ d=>decide (d.1=k))=vs.any λ d=>decide (d.1=k):=by
 unfold KV at r
 induction r with
 | nil=>rfl
 | cons h t i=>rw[Jv,Jv,i,h.1]
theorem KV.zq (r:Z7i) (k:κ) (j:Z4J) :
  KV (kvs.map λ d=>if d.1=k then (d.1,y) else d) (vs.map λ d=>if d.1=k then (d.1,u) else d):=by
 unfold KV at r ⊢
 induction r with
 | nil=>exact .nil
 | @cons p q ps n h t i=>
  rw[FL,FL]
  refine .cons ?_ i
  obtain⟨h1,h2⟩:=h
  by_cases e:p.1=k
  ·rw[ZVY,Fl Z7Y];exact⟨h1,j⟩
  ·rw[ZX8,ZMl];exact ZR7
theorem KV.put (r:Z7i) (k:κ) (d:Z4J):KV ZDl (stored vs k u):=by
 unfold putK stored
 rw[r.any k]
 by_cases e:(vs.any λ i=>decide (i.1=k))=true
 ·rw[ZVY,ZVY];exact ZWU
 ·rw[ZX8,ZX8];exact Paired.snoc r ⟨rfl,d⟩
theorem KV.length (r:Z7i):kvs.length=vs.length:=Z2y
theorem vR (kvs) (k:κ):(ZNZ).length<=kvs.length:=F6 _ _
end
theorem lG (r:RelV ZVr u):(cy P w).is k u=true:=by
 cases k with
 | inl i=>obtain⟨t,e⟩:=(show ∃ t,u=Value.int i t from r);subst e;exact nR P w i t
 | inr x=>obtain⟨t,e⟩:=(show ∃ t,u=Value.str x t from r);subst e;exact n8 P w x t
theorem lO:∀ {ks:List Key}{us:List Value},Vals ZIB us->ItemsAre ZFF ks us
 | [],_,r=>by rw[Kc] at r;cases r;exact .nil
 | k::ks,_,r=>by
  rw[FL] at r
  cases r with
  | cons h t=>exact .cons (lG h) (lO t)
abbrev KT (H:Hp):List (List Key×V)->List (List Key×Addr×Value)->Prop:=Paired λ p q=>p.1=q.1/\H q.2.1=some ZIN/\RelV p.2 q.2.2
theorem KT.val {H:Hp}{kvs:List (List Key×V)}{xs:List (List Key×Addr×Value)}(r:Z5g) (k:ZBf):fV ZEX ((ZEC).map (·.2)):=by
 induction r with
 | nil=>exact True.intro
 | @cons p q ps i h t j=>
  obtain⟨h1,_,h2⟩:=h
  by_cases e:p.1=k
  ·have d:q.1=k:=Z7Y
   have b:atKey (q::i) k=some q.2:=by simp[atKey,IB,d]
   rw[ZTK,b];exact h2
  ·have d:¬ q.1=k:=λ z=>Z8Z
   have b:atKey (q::i) k=atKey i k:=by simp[atKey,IB,d]
   rw[ZRV,b];exact j
theorem KT.zq (r:Z5g) (k) (n:Z4J) :
  KT H (kvs.map λ d=>if d.1=k then (d.1,y) else d) (xs.map (putAt k u)):=by
 induction r with
 | nil=>exact .nil
 | @cons p q ps B h t j=>
  rw[FL,FL]
  refine .cons ?_ j
  obtain⟨h1,h2,i⟩:=h
  unfold putAt
  by_cases e:p.1=k
  ·rw[ZVY,Fl Z7Y];exact⟨h1,h2,n⟩
  ·rw[ZX8,ZMl];exact⟨h1,h2,i⟩
theorem KT.put (r:Z5g) (k) (i:H b=some Z16) (d:Z4J) :
  KT H ZDl (storedH xs k b u):=by
 have e:(kvs.any λ j=>decide (j.1=k))=(ZEC).isSome:=by
  rw[fE,(r.val k).fB,Ka]
 unfold putK storedH
 rw[e]
 by_cases q:(ZEC).isSome=true
 ·rw[ZQS,ZQS];exact ZWU
 ·rw[ZQT,ZQT];exact Paired.snoc r ⟨rfl,i,d⟩
theorem KT.keeps (r:Z5g) (d:∀ b ys,H b=some ZA6->H' b=some ZA6):KT H' kvs xs:=
 Paired.ED r λ _ _ z=>⟨z.1,d _ _ z.2.1,z.2.2⟩
section
variable {P:Program}{w:World}{H:Hp}{h:Heap}{a:Addr}
theorem yy (d:Z12) (e:ZWw):ZMZ:=e.ok d
theorem kg (d:Z12) (e:ZTZ):kvs.length<=sizeLine/\(a == sysModules)=false/\∃ vs,KV kvs vs/\h.DictOf ZFF a vs:=
 show bP P w H h a Z2e from yy d e
theorem Cw (d:Z12) (e:H a=some Z2e):kvs.length<=sizeLine/\(a == sysModules)=false/\∃ vs,KV kvs vs/\h.DictOf ZFF a vs:=kg d ZGX
theorem gi (j:Z12) (e:H a=some ZUH):(Z4C).is h ks a:=by
 obtain⟨_,d,r,o,h1,h2,n,i⟩:=(show bP P w H h a ZUH from j a _ e)
 exact⟨o,d.toArray,n,h1,h2,i,by simpa using lO r⟩
theorem jc {kvs:List (List Key×V)}(ok:Z12) (e:ZVJ):kvs.length<=sizeLine/\(a == sysModules)=false /\
  ∃ xs,KT H kvs xs/\h.DictOfH Z4C a xs:=by
 obtain⟨z,y,xs,r,o,es,ep,h1,h2,h3,h4,h5⟩:=(show bP P w H h a Zk from yy ok e)
 refine⟨z,y,xs,r,o,es,ep,h1,h2,h3,h4,λ x hx=>?_,h5⟩
 have all:∀ {l:List (List Key×V)} {m:List (List Key×Addr×Value)},KT H l m->∀ x∈m,(Z4C).is h x.1 x.2.1:=by
  intro l m q
  induction q with
  | nil=>intro x hx;exact nomatch hx
  | @cons p q ps qs hq t ih=>
   intro x hx
   rcases Fi.mp hx with e|hx
   ·subst e
    exact gi ok (by rw[<- hq.1];exact hq.2.1)
   ·exact ih x hx
 exact all r x hx
theorem t9 (d:Z12) (e:H a=some Zk):kvs.length<=sizeLine/\(a == sysModules)=false /\
  ∃ xs,KT H kvs xs/\h.DictOfH Z4C a xs:=jc d ZGX
end
def jd (H:Hp) (a:Addr) (y:V) (r:ZIi):Prop:=
 (∃ kvs k,Rd H a Z2e/\y=kV k/\r=cf kvs k)\/∃ kvs k b,Rd H a Zk/\y=.ref b/\H b=some Z16/\r=cf kvs k
def tD (H:Hp) (a:Addr) (y v:V) (H':Hp):Prop:=
 (∃ kvs k,H a=some Z2e/\y=kV k/\kvs.length<sizeLine/\H'=upd H a ZWA) \/
 ∃ kvs k b,H a=some Zk/\y=.ref b/\H b=some Z16/\kvs.length<sizeLine/\H'=upd H a ZW9
theorem jd.k {H:Hp}{a:Addr}{kvs:List (Key×V)}{k:Key}(e:H a=some Z2e):jd H a ZVr ZEX:=.inl ⟨kvs,k,ZGX,rfl,rfl⟩
theorem jd.t {H:Hp}{a b:Addr}{kvs:List (List Key×V)}{k:ZBf}(e:H a=some Zk) (d:H b=some Z16):jd H a Za ZEX:=.inr ⟨kvs,k,b,ZGX,rfl,d,rfl⟩
theorem tD.k {H:Hp}{a:Addr}{kvs:List (Key×V)}{k:Key}{v:V}(e:H a=some Z2e) (d:kvs.length<sizeLine):tD H a ZVr v (upd H a ZWA):=.inl ⟨kvs,k,e,rfl,d,rfl⟩
theorem tD.t {H:Hp}{a b:Addr}{kvs:List (List Key×V)}{k:ZBf}{v:V}(e:H a=some Zk) (d:H b=some Z16) (i:kvs.length<sizeLine) :
  tD H a Za v (upd H a ZW9):=.inr ⟨kvs,k,b,e,rfl,d,i,rfl⟩
section
variable {X:Cx}{pins:List (Addr×Obj)}{σ:St}{H:Hp}{s:Shared}{a:Addr}{y v:V}{u r:Value}{o:Option V}{A:Around}{E:Value->Shared->Prop}
theorem Inv.big (I:Z8):sysModules<s.heap.objs.size:=by
 have h:mainGlobals<s.heap.objs.size:=(Z51).lt
 exact JK Z3 h
theorem sA (N:A.units+1<cLine) (I:Z8) (g:jd H a y Z4c) (G:Z4J) (h:∀ j s',Inv X pins σ H s'->RelV v j->Q j s') :
  wpAny Z5 A (getItem ZY u) Q E s:=by
 rcases g with ⟨F,k,e,q,l⟩|⟨F,k,b,e,q,J,l⟩
 ·subst q
  obtain⟨z,L,O,d,n⟩:=Z81
  obtain⟨j,D,i⟩:=fV.some_of (v:=v) (o:=valueAt O k) (by rw[l];exact ZEr)
  exact wpAny_getItem_of (lG G) n.mapOf D ZRP
 ·subst q
  cases (show u=Value.ref b from G)
  obtain⟨z,L,xs,d,n⟩:=Z5U
  obtain⟨j,D,i⟩:=fV.some_of (v:=v) (o:=(ZEC).map (·.2)) (by rw[l];exact ZEr)
  obtain⟨p,M,B⟩:=GL.mp D
  refine wpAny_getItem_heap (Hu N) ZJM n M ?_
  rw[B]
  exact ZRP
theorem EZ (G:A.units+1<cLine) (I:Z8) (g:ZE3) (D:Z4J) (h:∀ s',Inv X pins σ H s'->Q (.bool o.isSome) s') :
  wpAny Z5 A (compareOp .In u ZY) Q E s:=by
 rcases g with ⟨B,k,e,j,l⟩|⟨B,k,b,e,j,F,l⟩
 ·subst j
  obtain⟨z,n,J,d,i⟩:=Z81
  refine wpAny_in_of (lG D) n i.mapOf ?_
  rw[<- (ZEr).fB,<- l]
  exact ZKz
 ·subst j
  cases (show u=Value.ref b from D)
  obtain⟨z,n,xs,d,i⟩:=Z5U
  refine wpAny_in_heap (Hu G) ZQn n i ?_
  have q:=ZXd
  rw[Ka] at q
  rw[<- q,<- l]
  exact ZKz
theorem wX (G:A.units+1<cLine) (I:Z8) (g:ZE3) (D:Z4J) (h:∀ s',Inv X pins σ H s'->Q (.bool (!o.isSome)) s') :
  wpAny Z5 A (compareOp .NotIn u ZY) Q E s:=by
 rcases g with ⟨B,k,e,j,l⟩|⟨B,k,b,e,j,F,l⟩
 ·subst j
  obtain⟨z,n,J,d,i⟩:=Z81
  refine wpAny_notIn_of (lG D) n i.mapOf ?_
  rw[<- (ZEr).fB,<- l]
  exact ZKz
 ·subst j
  cases (show u=Value.ref b from D)
  obtain⟨z,n,xs,d,i⟩:=Z5U
  refine wpAny_notIn_heap (Hu G) ZQn n i ?_
  have q:=ZXd
  rw[Ka] at q
  rw[<- q,<- l]
  exact ZKz
theorem nG (I:Z8) (n:Mut (H a)) (hs:ZEL) (j:∃ q,h'.get? a=some q) (d:bP X.prog X.w ZQi h' a ob) :
  Inv X pins σ ZQi { s with heap:=h',toks:=t' }:=
 I.write (x:=a) (e:=a) n Z1x (λ b q i z=>(hs.2 b i).trans z) j d
theorem zc (z:kvs.length<=sizeLine) (i:(a == sysModules)=false) (d:Z7i) (dd:h'.DictOf ZFF a vs) :
  bP P w H' h' a Z2e:=⟨z,i,vs,d,dd⟩
theorem rO {H':Hp}{Q:Unit->Shared->Prop}(hu:A.units+1<cLine) (I:Z8) (g:tD H a y v H') (S:Z4J) (R:RelV v r) (h:∀ s',Inv X pins σ H' s'->Q () s') :
  wpAny Z5 A (setItem ZY u r) Q E s:=by
 rcases g with ⟨d,k,e,F,l,D⟩|⟨d,k,b,e,F,N,l,D⟩
 ·subst F D
  obtain⟨z,G,vs,i,B⟩:=Cw I.hok e
  have M:vs.length<=sizeLine:=by rw[<- i.length];exact z
  have J:(ZT5).length<=sizeLine:=by have:=ZWi;lia
  refine wpAny_setItem_pairs (hsz:=M) (lG S) B λ h' j L=>ZQA
  have Z:∃ q,h'.get? a=some q:=let ⟨q,_,_,n,_⟩:=j;⟨q,n⟩
  exact nG I (by rw[e];exact True.intro) L Z (zc J G (i.put k R) j)
 ·subst F D
  cases (show u=Value.ref b from S)
  obtain⟨z,G,xs,i,B⟩:=ZJF
  have M:xs.length<=sizeLine:=by rw[<- Paired.length i];exact z
  have J:(ZT5).length<=sizeLine:=by have:=ZWi;lia
  refine wpAny_setItem_heap (hsz:=M) (Hu hu) (gi I.hok N) B λ h' j L=>ZQA
  obtain⟨q,es,U,n,h2,V,W,_,Y⟩:=j
  refine nG I (by rw[e];exact True.intro) L ⟨q,n⟩ ⟨J,G,_,(i.put k N R).keeps λ c ys O=>?_,q,es,U,n,h2,V,W,Y⟩
  rw[aV (eP O e (λ z=>nomatch z))]
  exact O
end
section
variable {X:Cx}{pins:List (Addr×Obj)}{σ:St}{H:Hp}{s:Shared}{a:Addr}{kvs:List (Key×V)}{k:Key}{u:Value}{A:Around}{E:Value->Shared->Prop}
end
def Br (i:Expr):Prop:=∀ ov iv,subscripted i false ov iv=operate [ov,iv] (getItem ov iv)
theorem xx {prog:Program}{w:World}{A:Around}{E:Value->Shared->Prop}{s:Shared}{env:Env}{value d:Expr}{pos:Pos}{T id:String}{Q:Value->Shared->Prop}
  (I:typeLookup ZCz "__getitem__" = pure ZWN) (hs:Br d)
  (h:wpAny ZE A (eval value env) (λ o q=>wpAny ZE A (eval d env) (λ i j=>j.TypeIs o T/\wpAny ZE A ZOy Q E j) E q) E s) :
  wpAny ZE A (eval (.Subscript value d pos) env) Q E s:=by
 refine Subscript_ (Ga h (λ o q D=>Ga D (λ i j n=>?_) λ _ _ x=>x) λ _ _ x=>x)
 obtain⟨G,n⟩:=n
 unfold subscriptTail
 refine Z4a
 rw[getitemInPython_of_ne G.not_modules]
 refine E8 (Jd G I ?_)
 have B:wpAny ZE A (subscripted d false o i) (λ r z=>wpAny ZE A (letTemporaryGo value o r >>= λ _=>pure r) Q E z) E j:=by
  rw[hs o i]
  exact wpAny_operating (Ga n (λ r z F=>E8 (wpAny_letTemporaryGo (Fb F))) λ _ _ x=>x)
 first
  | exact ZVb
  | exact E8 ZVb
  | exact E8 B
theorem nP (I:Z8) (g:ZE3):s.TypeIs ZY "dict":=by
 rcases g with ⟨kvs,k,e,_,_⟩|⟨kvs,k,b,e,_,_,_⟩
 ·obtain⟨_,_,i,_,d⟩:=Z81
  exact d.typeIs
 ·obtain⟨_,_,xs,_,d⟩:=Z5U
  exact d.typeIs
inductive uQ (Q:VK) (x:V) (y:V) (H2:Hp):Prop
 | mk:∀ a v,x=.ref a->jd H2 a y (Z4c)->Q v H2->uQ Q x y H2
def Al (td ty:TE):TE:=λ σ H Q=>td σ H λ x H1=>ty σ H1 λ y H2=>uQ Q x y H2
inductive yd (Q:VK) (y:V) (x:V) (H2:Hp):Prop
 | mk:∀ a o,x=.ref a->jd H2 a y o->Q (.bl o.isSome) H2->yd Q y x H2
def ES (ty td:TE):TE:=λ σ H Q=>ty σ H λ y H1=>td σ H1 λ x H2=>yd Q y x H2
inductive nU (Q:VK) (y:V) (x:V) (H2:Hp):Prop
 | mk:∀ a o,x=.ref a->jd H2 a y o->Q (.bl (!o.isSome)) H2->nU Q y x H2
def xf (ty td:TE):TE:=λ σ H Q=>ty σ H λ y H1=>td σ H1 λ x H2=>nU Q y x H2
inductive v7 (D:Ends) (σ:St) (v:V) (x:V) (y:V) (H3:Hp):Prop
 | mk:∀ a H4,x=.ref a->tD H3 a y v H4->D.nx σ H4->v7 D σ v x y H3
def Eb (td ty tv:TE):TS:=λ D σ H=>tv σ H λ v H1=>td σ H1 λ x H2=>ty σ H2 λ y H3=>v7 D σ v x y H3
section
variable {X:Cx}{o i e value:Expr}{pos pos' tpos:Pos}{td ty tv:TE}
theorem cH (B:X.A.units+1<cLine) (z:ZCK) (hi:ZGG) (hs:Br i):PE X Z8V (Al td ty):=by
 intro pins s σ H Q I h
 refine xx PySem.F.slot_dict_getitem.lookup hs (thn ZGa λ u L ⟨x,H1,n,G,D⟩=>thn (hi pins L σ H1 _ n D) λ M N w=>?_)
 obtain⟨y,H2,j,J,a,v,ex,g,F⟩:=w
 subst ex
 obtain rfl:u=Value.ref a:=G
 exact⟨nP j g,sA B j g J λ R O q d=>⟨v,H2,q,d,F⟩⟩
theorem zK (z:X.A.units+1<cLine) (hi:ZGG) (q:ZCK):PC X .In i o (ES ty td):=by
 intro pins s σ H Q I h
 refine thn ZFh λ M L ⟨y,H1,d,J,D⟩=>Z7R
 obtain⟨x,H2,j,G,a,B,ex,g,F⟩:=z
 subst ex
 obtain rfl:u=Value.ref a:=G
 exact EZ z j g J λ O n=>⟨.bl B.isSome,H2,n,rfl,F⟩
theorem eD (z:X.A.units+1<cLine) (hi:ZGG) (q:ZCK):PC X .NotIn i o (xf ty td):=by
 intro pins s σ H Q I h
 refine thn ZFh λ M L ⟨y,H1,d,J,D⟩=>Z7R
 obtain⟨x,H2,j,G,a,B,ex,g,F⟩:=z
 subst ex
 obtain rfl:u=Value.ref a:=G
 exact wX z j g J λ O n=>⟨.bl (!B.isSome),H2,n,rfl,F⟩
theorem jI (F:X.A.units+1<cLine) (B:ZCK) (hi:ZGG) (G:ZEu) (hs:swapsWith value (some ZI3) pos.line X.env=pure false) :
  PS X (.Assign [ZI3] value pos) (Eb td ty tv):=by
 intro pins s σ H D I h
 refine wpAny_Assign_Subscript (thn ZGo λ r S ⟨v,H1,j,N,J⟩=>thn (B pins S σ H1 _ j J) λ u U ⟨x,H2,n,O,L⟩=>thn (hi pins U σ H2 _ n L) λ W Y z=>?_) hs
 obtain⟨y,V,q,R,a,d,ex,g,M⟩:=z
 subst ex
 obtain rfl:u=Value.ref a:=O
 exact rO F q g R N λ Z z=>⟨σ,d,z,M⟩
end
theorem uc (h:Heap) (d:sysModules<h.objs.size):bP P w H (h.push { cls:=Z15,data:=.dict #[] }) h.objs.size ZJ8:=
 ⟨ZH9,ZEw,[],.nil,Heap.DictOf.new h⟩
theorem vo (h:Heap) (d:sysModules<h.objs.size):bP P w H (h.push { cls:=Z15,data:=.dict #[] }) h.objs.size Z5T:=
 ⟨ZH9,ZEw,[],.nil,_,#[],0,ZH,ZAI,rfl,rfl,Kz⟩
def zf:TE:=λ _ H Q=>∀ p,H p=none->Q Z00 (upd H p ZJ8)
def zQ:TE:=λ _ H Q=>∀ p,H p=none->Q Z00 (upd H p Z5T)
section
variable {X:Cx}{pos:Pos}
theorem vD:PE X ZK4 zf:=λ pins s σ H Q I h=>
 wpAny_Dict_empty ⟨ZI,_,I.laid (a:=s.heap.objs.size) (o:=.dK []) (t':=s.toks) ZDh Z9 (uc s.heap I.big),rfl,h _ Z2f⟩
theorem gF:PE X ZK4 zQ:=λ pins s σ H Q I h=>
 wpAny_Dict_empty ⟨ZI,_,I.laid (a:=s.heap.objs.size) (o:=ZIu) (t':=s.toks) ZDh Z9 (vo s.heap I.big),rfl,h _ Z2f⟩
end
structure M2 (X:Cx) (o:Expr) (m:Str) (apos:Pos) (e f:Expr) (cpos:Pos):Prop where
 base:attributeBase o m X.env Z4u=eval o X.env
 few:((backTo cpos ZFf).all (λ x=>!x.1) && (ZAQ).all Z9u
  && decide (([e,f]:Z4L).length+([]:ZAv).length+(if ([]:List Keyword).isEmpty then 0 else 1)<30))=true
 line:(apos.endLine == cpos.line)=true
 trees:backTo cpos ZFf=[(false,Z0k),(false,eval f X.env)]
def IsD (H:Hp) (a:Addr):Prop:=(∃ kvs,ZTZ)\/∃ kvs,ZVJ
theorem y7 (I:Z8) (d:IsD H a) :
  s.TypeIs ZY "dict" /\ (∀ b,Value.ref a=.ref b->∃ j,s.heap.get? b=some j/\j.dict=none)/\(a == sysModules)=false:=by
 rcases d with ⟨kvs,e⟩|⟨kvs,e⟩
 ·obtain⟨_,z,B,_,n⟩:=Z81
  refine ZBv
  cases q
  obtain⟨j,_,_,h1,h2,_⟩:=n
  exact ZJC
 ·obtain⟨_,z,xs,_,n⟩:=Z5U
  refine ZBv
  cases q
  obtain⟨j,_,_,h1,h2,_⟩:=n
  exact ZJC
section
variable {X:Cx}{pins:List (Addr×Obj)}{σ:St}{H:Hp}{s:Shared}{a:Addr}{y d:V}{u r:Value}{o:Option V}{A:Around}{E:Value->Shared->Prop}
theorem zN (L:A.units+1<cLine) (I:Z8) (g:ZE3) (F:Z4J) (D:RelV d r) (h:∀ G s',Inv X pins σ H s'->RelV ZU5 G->Q G s') :
  wpAny Z5 A (call (.builtin "dict.get") [ZY,u,r]) Q E s:=by
 rcases g with ⟨kvs,k,e,q,l⟩|⟨kvs,k,b,e,q,J,l⟩
 ·subst q
  obtain⟨z,B,M,j,n⟩:=Z81
  refine JI JP n.typeIs PySem.F.entry_dict_get ZAf (meets_dict_get_default (cy X.prog X.w) a (lG F) B r) ⟨_,n.mapOf,ZQ9⟩
  rw[l]
  exact ZKQ
 ·subst q
  cases (show u=Value.ref b from F)
  obtain⟨z,B,xs,j,n⟩:=Z5U
  refine JI JP n.typeIs PySem.F.entry_dict_get ZAf (meetsH_dict_get_default Z28 a b B r) ⟨Hu L,k,xs,ZJM,n,ZQ9⟩
  rw[l]
  exact ZKQ
end
inductive rj (ty:TE) (tx:TE) (σ:St) (Q:VK) (x:V) (H1:Hp):Prop
 | mk:∀ a,x=.ref a->IsD H1 a->(ty σ H1 λ y H2=>tx σ H2 λ z H3=>∃ o,jd H3 a y o/\Q (o.getD z) H3)->rj ty tx σ Q x H1
def zC (td ty tx:TE):TE:=λ σ H Q=>td σ H λ x H1=>rj ty tx σ Q x H1
section
variable {X:Cx}{o e f:Expr}{apos cpos:Pos}{td ty tx:TE}
theorem um (M:X.A.units+1<cLine) (L:ZCK) (G:PE X e ty) (J:PE X f tx) (m:M2 X o "get" apos e f cpos):PE X (.Call (.Attribute o "get" apos) [e,f] [] cpos) (zC td ty tx):=by
 intro pins s σ H Q I h
 refine wpAny_Call_method m.base m.few m.line JB JP PySem.F.type_dict_get (thn (L pins s σ H _ I h) λ u W z=>?_)
 obtain⟨x,H1,n,S,a,ex,d,N⟩:=z
 subst ex
 obtain rfl:u=Value.ref a:=S
 obtain⟨Z,t2,_⟩:=y7 n d
 refine⟨Z,t2,?_⟩
 rw[m.trees]
 refine Calls.callWith_builtin rfl (Calls.evalArgs_plain (Calls.spliced_cons (thn (G pins W σ H1 _ n N) λ iv Y ⟨y,H2,B,U,O⟩=>
  Calls.spliced_cons (thn (J pins Y σ H2 _ B O) λ fv s3 ⟨z,q,D,V,ov,g,R⟩=>Calls.spliced_nil ?_))))
 exact zN M D g U V λ w' s4 F j=>⟨_,q,F,j,R⟩
end
section
variable {X:Cx}{pins:List (Addr×Obj)}{σ:St}{H:Hp}{s:Shared}{a:Addr}{kvs:List (Key×V)}{A:Around}{E:Value->Shared->Prop}
end
section
variable {X:Cx}{pins:List (Addr×Obj)}{σ:St}{H:Hp}{s:Shared}{a:Addr}{y:V}{u:Value}{A:Around}{E:Value->Shared->Prop}
end
end L2
namespace Att
open PySem PySem.W PySem.Calls PyProof.Rows
theorem jB:∀ (ns:List Int) (vs:List Value),WellAll P h vs ZIw->IntsAre vs ns:=by
 intro ns
 induction ns with
 | nil=>
  intro vs w
  rw[Kc] at w
  cases w
  exact .nil
 | cons n ns j=>
  intro vs w
  rw[FL] at w
  cases w with
  | cons a b=>
   cases a
   exact .cons _ _ (j _ b)
theorem rP {l:OpenLaw}{n:Nat}(N:l.most=some n) {P:Params}{h:Heap}{args:List WData}{z:Zr}
  (j:l.row.toRowW.claim.pre args=true) (J:WellAll P h z args) :
  ∃ a vs ns,z=[Z92]/\args=[WData.list ZIw]/\h.get? a=some { cls:=ZO,data:=Z5G}/\IntsAre vs ns/\ns.length<=n:=by
 have I:WShape.hasAll [] args [.list .int]=true:=(ZPw).1
 have L:l.pre.holds [] { args:=args }=true:=(ZPw).2
 obtain⟨d,r,rfl,h1,h2⟩:=hasAllW_cons I
 obtain rfl:=hasAllW_nil h2
 obtain⟨xs,rfl,M⟩:=hasW_list h1
 obtain⟨ns,rfl⟩:=items_int M
 have D:ns.length<=n:=by
  unfold OpenLaw.pre at L
  have F:(WTm.not (.lt (.lit (.int (n:Int))) (.len (.arg 0)))).holds [] { args:=[.list (ns.map .int)] }=true:=by
   have F:=(holds_andW L).1
   rw[N] at F
   exact F
  have G:=condW_of F (w_not (w_lt w_lit (w_len_list (w_arg rfl))))
  rw[Fe] at G
  refine Nat.le_of_not_lt λ q=>?_
  have R:(n:Int)<((ns.length:Nat):Int):=Z2
  first
   | (rw[FX R] at G;exact absurd G Z3)
   | (simp at G;lia)
 cases J with
 | cons S U=>
  cases U
  cases S with
  | list O B=>exact⟨_,_,ns,rfl,rfl,O,jB ns _ B,D⟩
theorem sQ (l:OpenLaw) (args):l.row.toRowW.claim.post args Z3y args=true:=
 postW_of (r:=l.row.toRowW) (X:=(true == true))
  (show WShape.has [] Z3y .bool=true by first|rfl|decide|simp[WShape.has,WShape.arms,WShape.armsAll])
  (show (WTm.eq .res (.lit Z3y)).value [] { args:=args,res:=some Z3y,after:=args }=some (.bool (true == true)) from w_eq_bool (w_res rfl) w_lit) rfl
theorem oQ {l:OpenLaw}{n:Nat}{q:Program}{z:Zo}{XP:(Str->Option Value)->Heap->Prop}{YP:World->Heap->Prop}{d:DefRec}
  (hn:l.most=some n) (U:d.params.defaults=[])
  (I:∀ (w:World) (B j:Shared) (R Z:Str->Option Value) (J:Addr) (o:Obj) (pm O D:Value) (a:Addr) (vs:List Value) (ns:List Int),
   Ground q z [] XP w B R Z j.heap->YP w j.heap ->
   j.heap.get? J=some o->o.data=.func (docDef d.name d.params d.body d.scope pm O D)->j.heap.CodeRec O d.name->R d.name=some ZJ7 ->
   j.heap.get? a=some { cls:=ZO,data:=Z5G}->IntsAre vs ns->ns.length<=n->j.gens = #[] ->
   codeAny (model l.prog w) callerA (.call ZJ7 Z9U) (λ r s'=>r=.ok ZK1/\OldK j.heap s'.heap/\s'.os=j.os/\AllBare s'.gens) j) :
  WalkO q z XP YP l.row.toRowW d [] Z5u:=by
 intro w B j R Z G Y J o pm O D dV kV ho hd S hD V hg a0 a2 as N a1 a4 W a3
 obtain rfl:dV=.none:=Dflts.none hD U
 obtain rfl:kV=.none:=Dflts.noKw hD
 obtain⟨a,vs,ns,rfl,rfl,M,F,L⟩:=rP hn N W
 refine enter_call (Jh (I w B j R Z J o pm O D a vs ns G Y ho (fd_plain hd) S V M F L hg) λ r s' hq=>?_)
 obtain⟨rfl,h2,h3,h4⟩:=hq
 exact⟨.inl ⟨Z3y,Z3y,[],rfl,λ _=>rfl,Z3y,sQ l _,λ _=>⟨List.Pairwise.nil,λ _ hm=>(nomatch hm)⟩⟩,h2,h3,h4⟩
section
variable {prog:Program}{w:World}{A:Around}{E:Value->Shared->Prop}{s:Shared}{K:Frag}
noncomputable def ledger (h:Heap) (L d:Addr):List (Addr×Obj):=(Z7A).filterMap λ a=>if a=L\/a=d then none else (ZWh).map λ o=>(a,o)
end
end Att
namespace L2
open PySem PySem.Spec PyProof.Rows
theorem lJ:∀ {vs:List Value}{ns:List Int},IntsAre vs ns->Vals Z60 vs
 | _,_,.nil=>.nil
 | _,_,.cons n t h=>.cons Z8r (lJ h)
noncomputable def inClass (s:Stmt) (j:Nat):Stmt:=match s with
 | .ClassDef _ _ _ body _ _ _ _ _ _ _=>body.getD j ZGZ
 | _=>ZGZ
noncomputable def jJ (s:Stmt):Arguments:=match s with
 | .FunctionDef _ a _ _ _ _ _ _ _ _=>a
 | _=>{ posonlyargs:=[],args:=[],vararg:=none,kwonlyargs:=[],kw_defaults:=[],kwarg:=none,defaults:=[] }
noncomputable def fN (s:Stmt):Z5f:=match s with
 | .FunctionDef _ _ b _ _ _ _ _ _ _=>b
 | _=>[]
noncomputable def bp (s:Stmt):Scope:=match s with
 | .FunctionDef _ _ _ _ _ _ sc _ _ _=>sc
 | _=>{ kind:=.function,names:=[],isGenerator:=false,isCoroutine:=false }
abbrev E0:XK:=λ _ _ _=>False
structure Fun (K:PySem.W.Frag) (x qual:Str) (st:Stmt) (f:Addr) (fd:FuncData):Prop where
 ex:∃ (oc:Value) (od:Option Addr) (kV doc pm:Value) (an:Option Addr) (cdv ct:Value) (osl:Array (Option Value)),
  fd=PySem.W.fnOf x qual (jJ st) ZLu ZAc .none kV doc pm an cdv ct/\K.lookup f=some ⟨oc,od,.func fd,osl⟩/\PySem.W.codeIn K cdv qual=true
 kp:PySem.W.keepIn K Z0X=true
section
variable {P:Program}{w:World}{K:PySem.W.Frag}{mg:Str->Option Value}{base:Heap}
theorem zR {x qual:Str}{st:Stmt}{f:Addr}{G:Value}{od z:ZCM}{q:Z8Q}{D n F j B:Value}(l:K.lookup f=some ⟨G,od,.func Z4U,q⟩)
  (c:PySem.W.codeIn K j qual=true) (k:PySem.W.keepIn K Z0X=true):Fun K x qual st f Z4U:=⟨⟨G,od,D,n,F,z,j,B,q,rfl,l,c⟩,k⟩
end
theorem cB (j:ZQD):A.units+1<cLine:=GH (Nat.add_le_add_left (by decide:1<=64) _) j.units
theorem bE (h:n<=1000):n<sizeLine:=GH h Z3
section
variable {X:Cx}
theorem pv (i) (n:X.N[i]? = some x:=by rfl) (z:ZJV:=by first|exact Or.inl rfl|exact Or.inr Z6|exact Or.inr Z35) (q:(x == ("__debug__" :ZHN))=false:=by decide)
  (j:(x == ("__classdict__" :ZHN))=false:=by decide):ZQJ:=zx n z q j
end
theorem iy {A B:Prop}(h:B):if false=true then A else B:=by
 rw[ZV_]
 exact h
theorem f9 {A B:Prop}(h:A):if true=true then A else B:=by
 rw[Z1U]
 exact h
theorem cU {c A B:Prop} [ZS8] (h1:c->A) (h2:¬ c->B):if c then A else B:=by
 by_cases h:c
 ·rw[ZOL]
  exact h1 h
 ·rw[ZMk]
  exact h2 h
def bj (H H':Hp):Prop:=∀ b o,H b=some o->H' b=some o
theorem bj.refl (H:Hp):bj H H:=λ _ _ h=>h
theorem bj.trans (a:bj H H1) (b:bj H1 H2):bj H H2:=λ c o h=>b c o (a c o h)
theorem bj.free (e:Z4h) (h:H' l=Option.none):H l=Option.none:=by
 cases q:H l with
 | none=>rfl
 | some o=>
  rw[e l o q] at h
  cases h
theorem bj.seq {K:PySem.W.Frag}{H H':Hp}{a:Addr}{xs:Z11}(e:Z4h) (h:ZAt):ZNx:=by
 rcases h with (h|⟨o,h⟩)|h
 ·exact ZGY
 ·exact ZCg
 ·exact ZCe
section
variable {X:Cx}
end
section
variable {κ:Type} [DecidableEq κ]
theorem vY {kvs:List (κ×V)}{k:κ}(h:cf kvs k=none):¬ k∈kvs.map (·.1):=by
 intro m
 obtain⟨p,j,e⟩:=ZRt
 have q:(kvs.any λ n=>decide (n.1=k))=true:=List.any_eq_true.mpr ⟨p,j,FX e⟩
 rw[fE,h] at q
 exact ZHf
end
theorem fU {sc:Scope}{env:Env}(h:∀ y∈sc.names,y.2=.free->∃ c,env.cells.lookup y.1=some c) :
  ∃ cl,closureFor sc env=pure cl/\(∀ x c,cl.lookup x=some c->env.cells.lookup x=some c)/\∀ y∈sc.names,y.2=.free->∃ c,cl.lookup y.1=some c:=by
 have go:∀ (names:List (Str×NameKind)) (cs:List (Str×Addr)),(∀ y∈names,y.2=.free->∃ c,env.cells.lookup y.1=some c)->(∀ x c,cs.lookup x=some c->env.cells.lookup x=some c) ->
   ∃ cl,(forIn names cs λ(x:Str×NameKind) (r:List (Str×Addr))=>(if (x.2 == NameKind.free)=true then do let c <- cellOf env x.1;pure (ForInStep.yield ((x.1,c)::r)) else pure (Z6U):Sem (ForInStep (List (Str×Addr)))))=pure cl /\
    (∀ x c,cl.lookup x=some c->env.cells.lookup x=some c)/\(∀ y∈names,y.2=.free->∃ c,cl.lookup y.1=some c)/\∀ x c,cs.lookup x=some c->∃ c',cl.lookup x=some c':=by
  intro names
  induction names with
  | nil=>intro cs _ hcs;exact⟨cs,rfl,hcs,λ y hy=>by simp at hy,λ x c e=>⟨c,e⟩⟩
  | cons y r ih=>
   intro cs hn hcs
   by_cases hy:y.2=.free
   ·obtain⟨c,hc⟩:=ZTE
    obtain⟨cl,e,h1,h2,h3⟩:=ih ((y.1,c)::cs) Z3b (λ x c' e=>by
     rw[Hf] at e
     by_cases hx:x=y.1
     ·subst hx;simp at e;subst e;exact hc
     ·have:(x == y.1)=false:=by simpa using hx
      rw[this] at e;exact hcs x c' e)
    refine⟨cl,?_,h1,λ z hz hf=>?_,λ x c' e'=>?_⟩
    ·rw[IA]
     have e1:(y.2 == NameKind.free)=true:=by rw[hy];rfl
     have e2:cellOf env y.1=pure c:=by unfold cellOf;rw[hc]
     rw[e1,e2]
     exact e
    ·rcases Fi.mp hz with rfl|hz
     ·exact h3 z.1 c ZA
     ·exact ZTH
    ·by_cases hx:x=y.1
     ·subst hx;exact h3 y.1 c ZA
     ·have:(x == y.1)=false:=by simpa using hx
      exact h3 x c' (by rw[Hf,this];exact e')
   ·obtain⟨cl,e,h1,h2,h3⟩:=ih cs Z3b hcs
    refine⟨cl,?_,h1,λ z hz hf=>?_,h3⟩
    ·rw[IA]
     have e1:(y.2 == NameKind.free)=false:=by simpa using hy
     rw[e1]
     exact e
    ·rcases Fi.mp hz with rfl|hz
     ·exact absurd hf hy
     ·exact ZTH
 obtain⟨cl,e,h1,h2,_⟩:=go sc.names [] h (λ x c e=>by simp at e)
 refine⟨cl,?_,h1,h2⟩
 have e2:closureFor sc env=((forIn sc.names [] λ(x:Str×NameKind) (r:List (Str×Addr))=>(if (x.2 == NameKind.free)=true then do let c <- cellOf env x.1;pure (ForInStep.yield ((x.1,c)::r)) else pure (Z6U):Sem (ForInStep (List (Str×Addr))))) >>= λ s=>pure s):=rfl
 rw[e2,e]
 rfl
theorem eG:(relabel sc env).names.lookup x =
  (sc.names.lookup x).map λ k=>if (k == NameKind.free && env.scope.kind == .function && env.kindOf x == some .cell)=true then NameKind.cell else k:=by
 have F:∀ j:List (Str×NameKind),(j.map λ(n,k)=>if (k == NameKind.free && env.scope.kind == .function && env.kindOf n == some .cell)=true then (n,NameKind.cell) else (n,k)).lookup x =
   (j.lookup x).map λ k=>if (k == NameKind.free && env.scope.kind == .function && env.kindOf x == some .cell)=true then NameKind.cell else k:=by
  intro j
  induction j with
  | nil=>rfl
  | cons y r D=>
   obtain⟨n,k⟩:=y
   rw[FL,Hf]
   show List.lookup x ((if (k == NameKind.free && env.scope.kind == .function && env.kindOf n == some .cell)=true then (n,NameKind.cell) else (n,k))::_)=_
   by_cases B:x=n
   ·subst B
    by_cases q:(k == NameKind.free && env.scope.kind == .function && env.kindOf x == some .cell)=true
    ·rw[ZQS];simp only[Hf,JA,Hk];rw[ZQS]
    ·rw[ZQT];simp only[Hf,JA,Hk];rw[ZQT]
   ·have z:(x == n)=false:=by simpa using B
    by_cases q:(k == NameKind.free && env.scope.kind == .function && env.kindOf n == some .cell)=true
    ·rw[ZQS];simp only[Hf,z];exact D
    ·rw[ZQT];simp only[Hf,z];exact D
 exact F sc.names
structure jj (N:List Str) (esc sc:Scope) (N':List Str) (k:Nat):Prop where
 kind:sc.kind=.function
 nocell:∀ y∈sc.names,y.2≠.cell
 names:∀ y∈sc.names,y.2=.local->sc.names.lookup y.1=some .local
 free:∀ y∈sc.names,y.2=.free->esc.names.lookup y.1=some .cell\/esc.names.lookup y.1=some .free
 len:N'.length=N.length+k
 old:∀ (i:Nat) (x:Str),i<N.length->N'[i]? = some x->Vis sc x->N[i]? = some x/\sc.names.lookup x=some .free
noncomputable def jU (N:Zo) (esc sc:Scope) (N':Zo) (k:Nat):Bool:=
 (sc.kind == .function) && (sc.names.all λ y=>y.2 != .cell) && (sc.names.all λ y=>y.2 != .local || sc.names.lookup y.1 == some .local) &&
 (sc.names.all λ y=>y.2 != .free || (esc.names.lookup y.1 == some .cell || esc.names.lookup y.1 == some .free)) && (N'.length == N.length+k) &&
 ((ZWx).all λ p=>match sc.names.lookup p.1 with
  | some .local=>false
  | some .cell=>false
  | some .free=>p.1 == p.2
  | _=>true)
theorem jj.of (h:jU N esc sc N' k=true):jj N esc sc N' k:=by
 unfold jU at h
 simp only[F5,Hs,Hv,Kq,bne_iff_ne,ne_eq] at h
 obtain⟨⟨⟨⟨⟨h1,h2⟩,n⟩,B⟩,D⟩,F⟩:=h
 refine⟨h1,λ y j=>h2 y j,λ y j e=>?_,λ y j e=>?_,D,λ i x hi L J=>?_⟩
 ·rcases n y j with z|z
  ·exact ZTQ
  ·exact z
 ·rcases B y j with z|z
  ·exact ZTQ
  ·exact z
 ·have G:i<(ZWx).length:=by rw[List.length_zip];lia
  have I:(x,N[i])∈N'.zip N:=by
   rw[IT]
   refine⟨i,?_⟩
   rw[List.getElem?_zip_eq_some]
   exact⟨L,by simp[hi]⟩
  have q:=F _ I
  rcases J with z|z|z
  ·rw[z] at q;exact ZHf
  ·rw[z] at q;exact ZHf
  ·rw[z] at q
   have M:x=N[i]:=by simpa using q
   refine⟨?_,z⟩
   rw[ZDa,<- M]
noncomputable def dC (X:Cx) (sc:Scope) (N':Zo) (cl:List (Str×Addr)) (C:Addr) (s₂:Shared) (H2:Hp) (fp:Z09):Cx:=
 { X with N:=N',s₀:=s₂,H₀:=H2,env:=compEnvC sc cl C X.env,outer:=X.stack,ex:=fp,fn:=λ _=>false,pn:=[],xe:=λ _ _=>False }
section
variable {X:Cx}{pins:List (Addr×Obj)}{σ:St}{H:Hp}{s₂:Shared}{sc:Scope}{N':List Str}{k:Nat}{cl:List (Str×Addr)}{C acc:Addr}{fp:List Addr}{h₁:Heap}{tk n:Nat}
theorem jt (h:Vis Z5B x):ZWp:=by
 unfold Vis at h ⊢
 rw[eG] at h
 cases e:sc.names.lookup x with
 | none=>rw[e] at h;simp at h
 | some k=>
  rw[e] at h
  simp only[Hk,Option.some.injEq] at h ⊢
  split at h
  ·rename_i j
   simp only[F5,Hv] at j
   exact .inr (.inr j.1.1)
  ·exact h
theorem uA (ok:ZD8) (hcl:∀ x c,cl.lookup x=some c->X.env.cells.lookup x=some c) (hfr:∀ y∈sc.names,y.2=.free->∃ c,cl.lookup y.1=some c)
  (I:Inv X pins σ H s₂) (hfp:∀ b∈fp,Z4E) (hob:∀ b∈fp,∃ o,s₂.heap.get? b=some o)
  (hacc:s₂.heap.objs.size<=acc) (hC:s₂.heap.objs.size<=C) (hne:C≠acc) (ns:h₁.Ns C λ _=>none) (kp:∀ b o,s₂.heap.get? b=some o->h₁.get? b=some o)
  (ha:h₁.get? acc=some { cls:=ZO,data:=.seq #[] n }) :
  Inv (dC X sc N' cl C s₂ H fp) [] (σ++List.replicate k none) (upd H acc Z0H) { s₂ with heap:=h₁,toks:=tk }:=by
 have hfresh:=I.hok.fresh hacc
 have hfreshC:=I.hok.fresh hC
 have hlook:∀ x,((dC X sc N' cl C s₂ H fp).env.kindOf x=some .cell\/(dC X sc N' cl C s₂ H fp).env.kindOf x=some .free)->sc.names.lookup x=some .free:=λ x hx=>by
  have hx':(Z5B).names.lookup x=some .cell\/(Z5B).names.lookup x=some .free:=hx
  have hv:ZWp:=jt (X:=X) (.inr hx')
  rcases hv with z|z|z
  ·rw[eG,z] at hx';simp at hx'
  ·exact absurd rfl (ok.nocell _ (Gg z))
  ·exact z
 have hexf:∀ b∈fp,b<s₂.heap.objs.size:=λ b hb=>let ⟨o,e⟩:=hob b hb;Heap.lt_size e
 refine⟨⟨I.ok.mod,ok.kind,I.ok.glob,I.ok.blt,hC,λ x y c h1 h2=>I.ok.inj x y c (hcl x c h1) (hcl y c h2),λ x hx=>hfr _ (Gg (hlook x hx)) rfl,λ x c h _=>absurd (show false=true from h) ZA,
   I.ok.hd,I.ok.frames,Z1x,λ b hb=>⟨Fu (FA (hexf b hb) hC),λ x c e=>(ZNe).2.2.2.2.1 x c ZKy⟩,I.bs,ZKJ,λ b o e hb=>?_,λ b hb z=>?_,I.stack,I.m7⟩,
  rfl,I.bare,Un.laid kp hacc hfresh,⟨_,ns,λ i x v e1 e2 e3=>?_⟩,λ x c e=>?_,?_,λ x c e=>?_,λ p hp=>absurd (show p∈([]:List (Addr×Obj)) from hp) ZA,I.hok.laid kp hacc ⟨ZH9,[],n,.nil,ha⟩,?_⟩
 ·rcases (hfp b hb).2.2.2.1 with z|z
  ·exact I.ok.noex b o e z
  ·exact absurd (FA ZK (FC I.ok.bsz z)) ZB6
 ·rcases Fi.mp (I.ni b z) with q|q
  ·exact(ZNe).2.1 q
  ·exact(ZNe).2.2.1 q
 ·have hi:i<σ.length:=by
   by_cases hi:i<σ.length
   ·exact hi
   ·rw[ZL_,JH] at e2
    split at e2<;>cases e2
  rw[F4 hi] at e2
  have hiN:i<X.N.length:=by rw[<- I.len];exact hi
  obtain⟨q1,q2⟩:=ok.old i x hiN e1 (jt (X:=X) e3)
  have hk:=ok.free _ (Gg q2) rfl
  obtain⟨m,hn,hl⟩:=I.loc
  obtain⟨u,ru,look⟩:=hl i x v q1 e2 (.inr hk)
  refine⟨u,ru,.inr ⟨?_,?_⟩⟩
  ·show (Z5B).names.lookup x=some .cell\/(Z5B).names.lookup x=some .free
   rw[eG,q2]
   simp only[Hk,Option.some.injEq]
   split
   ·exact Z1x
   ·exact Z9s
  ·obtain⟨c,hc⟩:=hfr _ (Gg q2) rfl
   rcases look with ⟨z,_⟩|⟨_,c',e',z⟩
   ·rcases hk with hk|hk
    ·have z':X.env.scope.names.lookup x=some .local:=z
     rw[hk] at z';cases z'
    ·have z':X.env.scope.names.lookup x=some .local:=z
     rw[hk] at z';cases z'
   ·have e'':=hcl x c hc
    rw[e'] at e'';cases e''
    obtain⟨o,ho,hd⟩:=z
    exact⟨_,hc,o,ZUc,hd⟩
 ·obtain⟨v,o,ho,hd⟩:=I.cell x c ZKy
  exact⟨v,o,ZUc,hd⟩
 ·show upd H acc Z0H C=none
  rw[aV hne];exact hfreshC
 ·have hc:=ZKy
  obtain⟨v,z⟩:=ZOC
  have hlt:c<s₂.heap.objs.size:=z.lt
  show upd H acc Z0H c=none\/(false=false/\∃ o u,upd H acc Z0H c=some Z3M)
  rw[aV (Fu (FA hlt hacc))]
  exact(ZMh).imp id λ z=>⟨rfl,z.2⟩
 ·show (σ++List.replicate k none).length=N'.length
  rw[Fh,HD,I.len,ok.len]
end
def PTs (X:Cx) (ifs:Z4L) (t:TT):Prop:=(ifs=[]/\∀ σ H Q,t σ H Q->Q true H)\/∃ c,ifs=[c]/\PT X c t
def ki:TT:=λ _ H Q=>Q true H
theorem dI:PTs X [] ki:=.inl ⟨rfl,λ _ _ _ h=>h⟩
theorem fW (h:PT X c t):PTs X [c] t:=.inr ⟨c,rfl,h⟩
abbrev fZ (J:It) (k:Nat) (g:TG) (tc:TT) (te:TE) (σ:St) (H1:Hp) (Q:VK):Prop:=
 ∀ acc,H1 acc=none->∃ W:Nat->Nat->St->List V->Hp->Prop,(∃ m,W 0 m (σ++List.replicate k none) [] Z3h) /\
  ∀ i m σ2 ys H2,W i m σ2 ys H2 ->
   (J.stop i H2/\Q Z17 H2) \/
   (J.go i H2/\ys.length<sizeLine/\∀ x H3,J.yld i H2 x H3->g x σ2 H3 λ σ4 H4=>tc σ4 H4 λ b H5=>
    if b=true then te σ4 H5 λ v H6=>H6 acc=some Z03/\∃ m',m'<m/\W (i+1) m' σ4 (ys++[v]) (upd H6 acc (.lst (ys++[v])))
    else ∃ m',m'<m/\W (i+1) m' σ4 ys H5)
def yR (wi:TI) (k:Nat) (g:TG) (tc:TT) (te:TE):TE:=λ σ H Q=>wi σ H λ J H1=>fZ J k g tc te σ H1 Q
section
variable {X:Cx}{elt tg iter:Expr}{ifs:List Expr}{sc:Scope}{pos:Pos}{N':List Str}{k:Nat}{wi:TI}{g:TG}{tc:TT}{te:TE}{cl:List (Str×Addr)}
set_option maxHeartbeats 800000 in
theorem kK (hc:X.calm=true) (ok:ZD8) (aq:∀ x c,cl.lookup x=some c->X.env.cells.lookup x=some c) (aB:∀ y∈sc.names,y.2=.free->∃ c,cl.lookup y.1=some c)
  (F:∀ cl C s₂ H2 fp,PG (dC X sc N' cl C s₂ H2 fp) tg g/\PTs (dC X sc N' cl C s₂ H2 fp) ifs tc/\PE (dC X sc N' cl C s₂ H2 fp) elt te)
  {pins:List (Addr×Obj)}{σ:St}{H:Hp}{s₂:Shared}{J:It}{fp:Z09}{it:Addr}{tn:Nat->Heap->Prop}(I:Inv X pins σ H s₂) (T:Turn X.prog X.w X.K tg J fp it tn) (t0:tn 0 s₂.heap) (Y:∀ b∈fp,Z4E)
  {Q:VK}(h:fZ J k g tc te σ H Q) {RR:Value->Addr->Result->Shared->Prop}
  (aA:∀ acc C H' s' G,Inv X pins σ H' s'->s'.heap.Ns C G->s₂.heap.objs.size<=C->H' C=none->Q Z17 H'->RR Z17 C ZSw s') :
  wpAny Z5 X.A ZQm (λ acc au=>wpAny Z5 X.A (newFunctionEnv sc X.env.globals cl [] X.env.qual none .none (some X.env)) (λ ab av=>
   codeAny Z5 X.A (.compStart Z0D 0 Z0m acc { ab with scope:=relabel sc X.env }) (RR acc ab.locals) av) X.xe au) X.xe s₂:=by
 refine Gk (wpAny_newFunctionEnv ok.nocell (by intro y hy;simp at hy) (λ h₁ Z D=>?_) ok.kind)
 dsimp only at Z D ⊢
 generalize ai:s₂.heap.push { cls:=.type "list",dict:=none,data:=.seq ([]:List Value).toArray }=L at Z D ⊢
 have hC:L.objs.size=s₂.heap.objs.size+1:=by rw[<- ai,Heap.size_push]
 have ao:s₂.heap.objs.size≠L.objs.size:=by rw[hC];exact ZGM
 have a6:s₂.heap.objs.size<=L.objs.size:=by rw[hC];exact HF _
 have al:∀ b o,s₂.heap.get? b=some o->h₁.get? b=some o:=λ b o e=>D.extBut b o ZOJ (Heap.get?_push_of_some _ (ai ▸ Heap.get?_push_of_some _ e))
 have ap:h₁.get? s₂.heap.objs.size=some { cls:=ZO,data:=.seq #[] 0 }:=D.extBut _ _ ao (Heap.get?_push_of_some _ (ai ▸ Heap.get?_push_size _ rfl))
 have aj:∀ b∈fp,∃ o,s₂.heap.get? b=some o:=λ b F=>let ⟨o,e,_⟩:=T.obj 0 _ t0 b F;⟨o,e⟩
 obtain⟨W,⟨m0,w0⟩,af⟩:=h s₂.heap.objs.size I.fresh
 obtain⟨hg,ht,he⟩:=F cl L.objs.size s₂ H fp
 have J0:Inv (dC X sc N' cl L.objs.size s₂ H fp) [] (σ++List.replicate k none) (upd H s₂.heap.objs.size Z0H) { s₂ with heap:=h₁,toks:=s₂.toks+([]:List (Str×Value)).length }:=
  uA ok aq aB I Y aj Z9 a6 (Ne.symm ao) Z al ap
 have ah:∀ {a4:List (Addr×Obj)} {H':Hp},a4=[]->(∀ b∈fp,H' b=none)->∀ b∈fp,kQ (dC X sc N' cl L.objs.size s₂ H fp) a4 H' b:=λ{a4 H'} hp hn b F=>by
  subst hp
  refine⟨hn b F,?_,?_,.inl F,λ x c e=>(ZJU).2.2.2.2.1 x c (aq x c e),λ p hp=>absurd (show p∈([]:List (Addr×Obj)) from hp) ZA⟩
  ·obtain⟨o,e⟩:=aj b F
   exact ZOJ
  ·intro z
   rcases Fi.mp (I.ni b z) with q|q
   ·exact(ZJU).2.1 q
   ·exact(ZJU).2.2.1 q
 let S:=dC X sc N' cl L.objs.size s₂ H fp
 let N:Nat->Shared->Prop:=λ n s'=>∃ i aw ys H',Inv S [] aw H' s'/\tn i s'.heap/\(∀ b∈fp,H' b=none)/\W i n aw ys H'
 have a7:∀ {E':Value->Shared->Prop} (x:Value) (s':Shared),False->E' x s':=λ _ _ z=>z.elim
 have ag:∀ {i n:Nat} {B:St} {ys:List V} {O:Hp} {s3:Shared} {R:Shared->Prop} {E':Value->Shared->Prop},Inv S [] B O s3->tn i s3.heap->(∀ b∈fp,O b=none)->J.go i O ->
   (∀ x an,J.yld i O x an->g x B an λ aa H4=>tc aa H4 λ b H5=>if b=true then te aa H5 λ v H6=>H6 s₂.heap.objs.size=some Z03/\∃ G,G<n/\W (i+1) G aa (ys++[v]) (upd H6 s₂.heap.objs.size (.lst (ys++[v]))) else ∃ G,G<n/\W (i+1) G aa ys H5) ->
   (∀ (pl:List (Addr×Obj)) (j:St) (H6:Hp) (s6:Shared),Inv S pl j H6 s6->(∀ {a9:St} {H7:Hp} {s7:Shared},Inv S pl a9 H7 s7->Inv S [] a9 H7 s7/\tn (i+1) s7.heap/\∀ b∈fp,H7 b=none) ->
    (tc j H6 λ b H5=>if b=true then te j H5 λ v H6=>H6 s₂.heap.objs.size=some Z03/\∃ G,G<n/\W (i+1) G j (ys++[v]) (upd H6 s₂.heap.objs.size (.lst (ys++[v]))) else ∃ G,G<n/\W (i+1) G j ys H5)->R s6) ->
   wpAny Z5 X.A Z40 (λ r s4=>∃ u,r=some u/\wpAny Z5 X.A Z5v (λ _ s5=>wpAny Z5 X.A (assign tg S.env u) (λ _ s6=>R s6) E' s5) E' s4) E' s3:=by
  intro i n B ys O s3 R E' I3 a0 U go a2 ay
  refine Ga (T.item S rfl rfl rfl hc i [] s3 B O E' I3 ZU7 a0 go) ZKN λ _ _ z=>z
  obtain⟨u,hr,h4⟩:=hr
  refine⟨u,hr,Ga h4 (λ _ s5 h5=>?_) λ _ _ z=>z⟩
  obtain⟨x,H5,I5,r5,y5,am,az⟩:=h5
  have ax:=I5.pinned (ah rfl az) (T.obj _ _ am)
  refine Ga (hg _ s5 B H5 x u _ ax r5 (a2 x H5 y5)) (λ _ s6 h6=>?_) a7
  obtain⟨j,H6,I6,q6⟩:=h6
  refine ay _ j H6 s6 I6 (λ{a9 H7 s7} I7=>?_) q6
  refine⟨I7.iZ,T.keep _ _ _ am λ b F o e=>(I7.pin (b,o) ZFl).1,λ b F=>?_⟩
  obtain⟨o,e,d⟩:=T.obj _ _ am b F
  exact(I7.pin (b,o) ZFl).2.1
 have ar:∀ {i n:Nat} {pl:List (Addr×Obj)} {j:St} {ys:List V} {H7:Hp} {s7:Shared} {E':Value->Shared->Prop},ys.length<sizeLine->Inv S pl j H7 s7 ->
   (∀ {a9:St} {H7:Hp} {s7:Shared},Inv S pl a9 H7 s7->Inv S [] a9 H7 s7/\tn (i+1) s7.heap/\∀ b∈fp,H7 b=none) ->
   (te j H7 λ v H6=>H6 s₂.heap.objs.size=some Z03/\∃ G,G<n/\W (i+1) G j (ys++[v]) (upd H6 s₂.heap.objs.size (.lst (ys++[v])))) ->
   wpAny Z5 X.A ZKR (λ x s8=>wpAny Z5 X.A (call ZEf [.ref s₂.heap.objs.size,x]) (λ _ s9=>∃ m,m<n/\N m s9) E' s8) E' s7:=by
  intro i n pl j ys H7 s7 E' a1 I7 M q7
  refine Ga (he _ s7 j H7 _ I7 q7) (λ y s8 h8=>?_) a7
  obtain⟨v,H8,I8,r8,a8,G,hm,w8⟩:=h8
  refine Ga (bW (X:=S) _ s8 j H8 (.ref s₂.heap.objs.size) [v] _ _ (λ _ H9=>H9=upd H8 s₂.heap.objs.size (.lst (ys++[v]))) I8 rfl (.cons r8 .nil) ⟨_,ys,v,rfl,rfl,a8,a1,rfl⟩) (λ _ s9 h9=>?_) a7
  obtain⟨_,H9,I9,_,rfl⟩:=h9
  obtain⟨b1,b2,b3⟩:=M I9
  exact⟨G,hm,i+1,j,ys++[v],_,b1,b2,b3,w8⟩
 have ae:∀ {i:Nat} {B:St} {O:Hp} {s3:Shared} {E':Value->Shared->Prop},Inv S [] B O s3->tn i s3.heap->(∀ b∈fp,O b=none)->J.stop i O->Q (.ref s₂.heap.objs.size) O ->
   wpAny Z5 X.A Z40 (λ r s4=>r=none/\RR (.ref s₂.heap.objs.size) L.objs.size ZSw s4) E' s3:=by
  intro i B O s3 E' I3 a0 U a3 q
  refine Ga (T.done S rfl rfl rfl hc i [] s3 B O E' I3 ZU7 a0 a3) (λ r s4 hr=>⟨hr.1,?_⟩) λ _ _ z=>z
  have I4:=hr.2
  have IX:Inv X pins σ O s4:=I.AZ I4.os I4.base I4.hok I4.bare λ b F=>⟨(ZJU).2.2.2.1,(ZJU).2.1,(ZJU).2.2.2.2.1,(ZJU).2.2.2.2.2⟩
  obtain⟨G,aC,_⟩:=I4.loc
  exact aA _ _ O s4 G IX aC a6 I4.free q
 let EE:Value->Shared->Prop:=notedBy Z5 X.A S.env λ e s'=>RR (.ref s₂.heap.objs.size) L.objs.size (.error e) s'
 have a5:N m0 { s₂ with heap:=h₁,toks:=s₂.toks+([]:List (Str×Value)).length }:=by
  refine⟨0,_,[],_,J0,Z86,λ b F=>?_,w0⟩
  obtain⟨o,e⟩:=aj b F
  rw[aV ZAg]
  exact(ZJU).1
 have ad:codeAny Z5 X.A (.compLoop Z0D 0 Z0m (.ref s₂.heap.objs.size) S.env) (RR (.ref s₂.heap.objs.size) L.objs.size) { s₂ with heap:=h₁,toks:=s₂.toks+([]:List (Str×Value)).length }:=by
  rcases ht with ⟨rfl,ht⟩|⟨c,rfl,ht⟩
  ·refine PySem.W.kcp_loop N ZKO m0 a5
   obtain⟨i,B,ys,O,I3,a0,U,w3⟩:=hI
   rcases af i n B ys O w3 with ⟨a3,q⟩|⟨go,a1,a2⟩
   ·refine Z5s
    obtain⟨rfl,hr⟩:=hr
    exact hr
   ·refine Ga (ag I3 a0 U go a2 (λ pl j H6 s6 I6 M q6=>ar (E':=EE) a1 I6 M (by simpa using ht j H6 _ q6))) (λ r s4 hr=>?_) λ _ _ z=>z
    obtain⟨u,rfl,h4⟩:=hr
    exact h4
  ·refine PySem.W.kct_loop N ZKO m0 a5
   obtain⟨i,B,ys,O,I3,a0,U,w3⟩:=hI
   rcases af i n B ys O w3 with ⟨a3,q⟩|⟨go,a1,a2⟩
   ·refine Z5s
    obtain⟨rfl,hr⟩:=hr
    exact hr
   ·refine Ga (ag (R:=λ s6=>wpAny Z5 X.A (isTrue c S.env (eval c S.env)) (λ ak s7=>if ak=true then wpAny Z5 X.A ZKR (λ x s8=>wpAny Z5 X.A (call ZEf [.ref s₂.heap.objs.size,x]) (λ _ s9=>∃ m,m<n/\N m s9) EE s8) EE s7 else ∃ m,m<n/\N m s7) EE s6) I3 a0 U go a2 (λ pl j H6 s6 I6 M q6=>Ga (E':=EE) (ht _ s6 j H6 _ I6 q6) (λ ak s7 h7=>?_) a7)) ZKN λ _ _ z=>z
    ·obtain⟨H7,I7,q7⟩:=h7
     cases ak with
     | false=>
      obtain⟨G,hm,w7⟩:=q7
      obtain⟨b1,b2,b3⟩:=M I7
      exact⟨G,hm,i+1,j,ys,H7,b1,b2,b3,w7⟩
     | true=>exact ar (E':=EE) a1 I7 M q7
    ·obtain⟨u,rfl,h4⟩:=hr
     exact h4
 exact codeAny_compStart_list ad (T.self _ 0 _ _ _ Z86 ad)
theorem dA (N':Zo) (k:Nat) (hc:X.calm=true) (hi:ZCI)
  (hb:∀ cl C s₂ H2 fp,PG (dC X sc N' cl C s₂ H2 fp) tg g/\PTs (dC X sc N' cl C s₂ H2 fp) ifs tc/\PE (dC X sc N' cl C s₂ H2 fp) elt te)
  (hk:jU X.N X.env.scope sc N' k=true:=by rfl) (hs:∀ x,foldedSetIterable iter X.env x=pure x:=by intro _;rfl) :
  PE X Z0D ZJs:=by
 intro pins s σ H Q I h
 have ok:=ZWb
 obtain⟨cl,e,hcl,hfr⟩:=Z3W
 rw[eval_ListComp]
 refine wpAny_comprehension_free (use:=none) rfl hs e ok.kind ok.names Z19
 obtain⟨it,fp,tn,J,H2,rfl,I2,T,st2,f2,R⟩:=h2
 refine kK (RR:=λ acc C=>compPost Z5 X.A X.xe none Z0N acc C) hc ok hcl hfr hb I2 T st2 f2 R ?_
 intro acc C H' s' m' I' hn hC hfree q
 refine⟨m',hn,λ h'' hs''=>⟨ZXD,H',?_,rfl,q⟩⟩
 have z:=ZMg
 exact I'.turned (t':=s'.toks) (λ b o hb e=>hs''.extBut b o hb e) hfree z.2.1 z.2.2.2.1 z.2.2.2.2.1 z.2.2.2.2.2
theorem dP (N':Zo) (k:Nat) {i:Nat}{y:Str}{py spos:Pos}(hc:X.calm=true) (hN:X.N.Nodup) (hj:X.N[i]? = some y) (hx:Loc X.env.scope y) (hi:ZCI)
  (hb:∀ cl C s₂ H2 fp,PG (dC X sc N' cl C s₂ H2 fp) tg g/\PTs (dC X sc N' cl C s₂ H2 fp) ifs tc/\PE (dC X sc N' cl C s₂ H2 fp) elt te)
  (hsw:swapsWith Z0D (some ZJn) spos.line X.env=pure true:=by rfl)
  (hk:jU X.N X.env.scope sc N' k=true:=by rfl) (hs:∀ x,foldedSetIterable iter X.env x=pure x:=by intro _;rfl)
  (hf:X.fn y=true\/X.env.scope.names.lookup y=some .local:=by first|exact .inl rfl|exact .inr rfl|assumption) :
  PS X (.Assign [ZJn] Z0D spos) (qd ZJs ZEW):=by
 intro pins s σ H D I h
 have ok:=ZWb
 obtain⟨cl,e,hcl,hfr⟩:=Z3W
 rw[exec_Assign_Name_used _ _ _ _ hsw]
 refine E8 (KC Z4a)
 show wpAny _ X.A (do let _ <- comprehension Z0D sc X.env _ ZQm false ZJu Z4X) _ _ s
 refine E8 (Ga (wpAny_comprehension_free (use:=Z4X) (Q:=λ _ s'=>ZH5) rfl hs e ok.kind ok.names
  Z19) (λ _ s' hq=>Fb (Fb hq)) λ _ _ e=>e)
 obtain⟨it,fp,tn,J,H2,rfl,I2,T,st2,f2,R⟩:=h2
 refine kK (RR:=λ acc C=>compPost Z5 X.A X.xe Z4X (λ _ s'=>ZH5) acc C) hc ok hcl hfr hb I2 T st2 f2 R ?_
 intro acc C H' s' m' I' hn hC hfree q
 show wpAny _ X.A (assign ZJn X.env Z17) _ _ _
 refine wpAny_assign_Name (lQ (v:=ZXD) I' hN hj hx rfl (λ s'' I'' ch=>?_) hf)
 have z:=ZMg
 obtain⟨a,sb,ha⟩:=ch
 have hCa:C≠a:=by
  rcases ha with ha|ha
  ·rw[ha];exact z.2.1
  ·exact Ne.symm (z.2.2.2.2.1 y a ha)
 refine⟨m',hn.sameBut sb hCa,λ h₃ hs₃=>⟨_,H',?_,q⟩⟩
 exact I''.turned (t':=s''.toks) (λ b o hb e=>hs₃.extBut b o hb e) hfree z.2.1 z.2.2.2.1 z.2.2.2.2.1 z.2.2.2.2.2
end
theorem bP.there {P:Program}{w:World}{H:Hp}{h:Heap}{a:Addr}{o:HO}(x:ZDS):∃ ob,h.get? a=some ob:=by
 cases o with
 | lst xs=>obtain⟨_,_,_,_,e⟩:=x;exact Z49
 | tup xs=>obtain⟨_,_,_,o,e,_⟩:=x;exact Z49
 | dK kvs=>obtain⟨_,_,_,_,o,_,_,e,_⟩:=x;exact Z49
 | dT kvs=>obtain⟨_,_,_,_,o,_,_,e,_⟩:=x;exact Z49
 | set S n=>obtain⟨o,_,_,_,e,_⟩:=x;exact Z49
 | ins C dx fs=>obtain⟨_,_,_,e,_⟩:=x;exact Z49
 | own y=>obtain⟨_,e⟩:=x;exact Z49
 | xd fs=>obtain⟨_,⟨_,_,_,e,_⟩,_⟩:=x;exact Z49
 | rng lo hi=>obtain⟨_,_,_,e⟩:=x;exact Z49
 | frz ob u=>obtain⟨e,_⟩:=x;exact Z49
 | tbl ps=>exact⟨_,(show h.get? a=some _ from x)⟩
 | met f y=>exact⟨_,(show h.get? a=some _ from x)⟩
 | ext φ=>obtain⟨_,e,_⟩:=x;exact e
theorem HOk.there (x:Z12) (n:H a≠none):∃ j,h.get? a=some j:=by
 cases q:H a with
 | none=>exact absurd q n
 | some u=>exact(x a u q).there
def Cov (B:Heap) (l:Z5Q) (H':Hp) (h0 h:Heap):Prop:=∀ b o,h.get? b=some o->b∉frs l->(H' b≠none\/h0.get? b≠none)->B.get? b=some o
structure Air (P:Program) (w:World) (l:List Env) (H:Hp) (s:Shared) (H':Hp) (a:Addr) (cls:Value) (s':Shared):Prop where
 os:s'.os=s.os
 bare:ZLf
 un:Un (frs l) [] H H' s.heap s'.heap
 hok:HOk P w H' s'.heap
 new:s.heap.get? a=none
 fly:∃ B a0,Heap.FlyingW B l a cls a0 s'.heap/\Cov B l H' s.heap s'.heap
def CXr (P:Program) (w:World):CXT:=λ l H s E e s'=>∃ a cls H',e=.ref a/\Air P w l H s H' a cls s'/\H' a=none/\E cls none H'
abbrev ER0:XK:=λ _ _ _=>False
theorem bo:Passes ZT X ER0:=λ _ _ _ _ _ _ _ h=>by
 obtain⟨_,_,_,_,_,_,z⟩:=h
 exact z.elim
section
variable {P:Program}{w:World}{B:Heap}{l:List Env}{H H':Hp}{h0 h h':Heap}
end
section
variable {X:Cx}{pins:List (Addr×Obj)}{σ:St}{H H':Hp}{s s':Shared}{a:Addr}{cls:Value}
theorem Inv.tW (I:Z8):∀ b∈frs X.stack,∃ o,s.heap.get? b=some o:=λ b hb=>let ⟨_,o,e,_⟩:=I.stack.mem hb;⟨o,e⟩
theorem Air.free (A:Air X.prog X.w X.stack H s H' a cls s') (I:Z8):∀ b∈frs X.stack,H' b=none:=λ b hb=>by
 obtain⟨o,e⟩:=I.tW b hb
 exact A.un.free b o e (I.m7 b hb) ZA
end
section
variable {P:Program}{w:World}{K:PySem.W.Frag}{mg:Str->Option Value}{base:Heap}{N:List Str}{qual:Str}{scope:Scope}{f:Addr}{cd:Value}{A:Around}{outer:List Env}{s₀:Shared}{H₀:Hp}{E:XK}
end
section
variable {K:PySem.W.Frag}{h:Heap}{C:Addr}{bmB:List Value}{newId:String}
end
noncomputable abbrev yM:Zr:=[.type "ValueError",.type "Exception",Z7q,Z6F]
def EX (K:PySem.W.Frag) (C:Addr):Prop:=PySem.W.excIn K C yM "ValueError.__new__" = true
section
variable {P:Program}{w:World}{K:PySem.W.Frag}{mg:Str->Option Value}{base:Heap}{N:List Str}{qual:Str}{scope:Scope}{f:Addr}{cd:Value}{A:Around}{outer:List Env}{s₀:Shared}{H₀:Hp}{E:XK}
end
section
variable {P:Program}{w:World}{K:PySem.W.Frag}{mg:Str->Option Value}{base:Heap}
theorem Fun.okN {x qual:Str}{st:Stmt}{f:Addr}{fd:FuncData}{N ps:Zo}{k:Nat}{sp:Sp}(F:ZH8) (S:ZRX) (I:∀ vs H Q E,sp vs H Q E->vs.length=ps.length)
  (z:∀ (j:Value) (A:Around) (outer:List Env) (s:Shared) (H:Hp) (vs:List V) (Q:VK) (E:XK),dk k (A.deeper (envOfC qual ZAc s.heap.objs.size f j))->sp vs H Q E ->
   ∃ t,PSs (nv ZT P w K mg base N qual ZAc f j A outer s H E).nox ZLu t/\t { nx:=λ _ H'=>ZVK,rt:=Q } Z34 H):bR P w K mg base ZT (k+1) f fd ps sp:=by
 obtain⟨Y,Z,W,J,pm,R,j,U,O,rfl,M,D⟩:=F.ex
 refine CP M D S I λ A outer s H vs Q E L G=>?_
 obtain⟨t,h,q⟩:=z j A outer s H vs Q E L G
 exact⟨t,h.nox,q⟩
end
noncomputable abbrev TX:=St->Hp->VK->XK->Prop
section
variable {X:Cx}{k:Nat}{f C:Addr}{fd:FuncData}{ps:List Str}{sp:Sp}{x m:Str}{p pos apos:Pos}{e o:Expr}{es:List Expr}{ta:TE}{t:TA}
end
noncomputable def yY (a:Addr) (cls:Value):HO:=.ext λ h=>∃ oe vs,h.get? a=some oe/\oe.cls=cls/\oe.data=.fields vs
section
variable {X:Cx}{pins:List (Addr×Obj)}{σ:St}{H:Hp}{s:Shared}{e:Value}
end
section
variable {X:Cx}{pins:List (Addr×Obj)}{σ:St}{Hc H':Hp}{sc s':Shared}{a:Addr}{cls a0:Value}{B h':Heap}
end
section
variable {X:Cx}{e:Expr}{x n:Str}{np p2 pos hpos:Pos}{b₀:Stmt}{suite:List Stmt}{tx:TX}{ts:TS}{c:Value}{i:Nat}
end
open PySem PySem.W PySem.Spec PySem.Calls PyProof.Rows Builtin.Getset_descriptor
section
variable {prog:Program}{w:World}{A:Around}{E:Value->Shared->Prop}{s:Shared}{K:Frag}{x D:Addr}{ox:Obj}
structure rV (K:Frag) (D:Addr):Prop where
 ga:findIn K Z8F "__getattribute__" = some (some (.builtin "BaseException.__getattribute__"))
 gb:findIn K Z8F "__getattr__" = some none
 ha:findIn K Z8F "__class__" = some ZGb
 hn:specialIn K Zl "__get__" = some ZEV
 htk:takesIn K (Zl)=some true
 hm:mroIn K D (Z6F)=some true
 hb:mroIn K D (Z7q)=some true
structure ExcAt (h:Heap) (x D:Addr):Prop where
 ex:∃ o vs,h.get? x=some o/\o.cls=.ref D/\o.data=.fields vs
theorem ExcAt.type (I:ZS6):Looks M h (typeOf Z3j) Z8F:=by
 obtain⟨o,j,e,c,_⟩:=I.ex
 exact c ▸ ((Looks.ld e).andThen .now)
theorem wt (T:ZPv) (j:K.In h):Looks M h (Builtin.ObjectAttr.find Z3j Z8F "__class__") (.bind Z02 Zl):=by
 refine(looks_findIn (M:=M) j T.ha).andThen ((looks_specialIn (M:=M) j T.hn).andThen ?_)
 have q:Looks M h (Builtin.ObjectAttr.dataDescriptor? ZGb ZEV) (some (Z02,Zl)):=
  (looks_takesIn (M:=M) j T.htk).andThen (by rw[Z1U];exact Looks.now)
 exact q.andThen (Looks.tag .now)
theorem xl (T:ZPv) (j:Z3n) (I:ZKK) (h:R (.ok (.ret Z8F)) s) :
  codeAny ZE A (.call Z02 ⟨[Zl,ZVi,tp],[]⟩) R s:=by
 obtain⟨o,O,e,c,G⟩:=I.ex
 obtain⟨J,g,F,t,L⟩:=s
 have q:=ZLS
 have z:=looks_mroIn (M:=Z4w) j T.hm
 refine Ja KF.slot_gs.plain KF.entry_gs (KF.slot_gs.check _ _ _ _ _ _ _ _ KF.type_class (KF.args_gs _ _ _) ?_)
 unfold Builtin.«getset_descriptor.__get__» descrGet
 rw[dga_obj]
 refine Z7E
 unfold descrGetter descrCheckInstance descrNameAndClass isInstance
 simp only[KF.owner_class]
 repeat lk
 refine⟨ZF0,Gn KF.entry_class ?_⟩
 unfold Builtin.«object.__class__» shownTypeOf
 repeat lk
 exact h
theorem rR {Q:Option Value->Shared->Prop}(T:ZPv) (kin:Z3n) (I:ZKK) (h:Q (some Z8F) { s with toks:=s.toks+1 }):wpAny ZE A (getAttr? Z3j "__class__") Q E s:=by
 obtain⟨hh,g,d,t,os⟩:=s
 have look1:=ZLS
 have look2:=looks_findIn (M:=Z4w) kin T.ga
 have look3:=looks_findIn (M:=Z4w) kin T.gb
 have look4:Looks ZE hh (isInstance Z3j Z7q) true:=look1.andThen (looks_mroIn (M:=Z4w) kin T.hb)
 have look5:=wt (M:=Z4w) (x:=x) T kin
 unfold getAttr? getAttrBy? getAttrBy
 refine E8 (wpAny_mkText (E8 (HL (F1 (E8 (look1.at (E8 (look2.at ?_))))))))
 show wpAny _ _ (getAttrByItsOwn _ _ _ _ _ _) _ _ _
 unfold getAttrByItsOwn hookBefore
 refine E8 (look3.at (E8 (HL ZS3)))
 show wpAny _ _ (boundAndCalled _ _ _) _ _ _
 unfold boundAndCalled
 refine E8 (GD (PySem.F.attr_ValueError.ga.bind Z3j) (IV (Ja PySem.F.attr_ValueError.ga.plain PySem.F.entry_bexc_ga ?_)))
 have kind:builtinKind "BaseException.__getattribute__" = some .slot:=ZF
 have parts:splitId "BaseException.__getattribute__" = some ("BaseException","__getattribute__"):=ZF
 simp only[checkBuiltinCall,kind,parts]
 have fits:=PySem.F.args_bexc_ga Z3j (.str "__class__" t)
 refine E8 (look4.at ?_)
 simp only[Ho,Fx,Gi]
 repeat (any_goals (first|assumption|wp_step))
 obtain⟨o,vs,e,c,dt⟩:=I.ex
 refine wpAny_loadPart_at e ?_
 rw[c]
 refine Fb (E8 (look5.at ?_))
 dsimp only
 show wpAny _ _ (holding [Value.builtin "object.__class__"] (call Z02 [Zl,ZVi,.ref D]) >>= ret) _ _ _
 refine E8 (F1 (IV (xl (s:=⟨hh,g,d,t+1,os⟩) T kin ⟨o,vs,e,c,dt⟩ ?_)))
 exact Fb (Fb ZW4)
theorem v9 (T:ZPv):KitX K Z3j Z8F (λ h=>ZS6) where
 ty:=λ _ _ _ I=>I.type
 it:=λ _ h kin _=>by
  obtain⟨cd,a,_⟩:=ZAS
  revert a
  unfold clsIn
  split
  ·rename_i look
   intro _ A' Q' E' s' k q
   unfold isType loadHead
   exact E8 (wpAny_loadPart (k _ _ ZQ3) (Fb q))
  ·intro a;cases a
 ne:=λ h tp dd its n sl kin htp=>by
  obtain⟨cd,a,_⟩:=ZAS
  refine Bool.eq_false_iff.mpr λ q=>?_
  obtain rfl:D=tp:=Value.ref.inj (Hv.mp q)
  revert a
  unfold clsIn
  split
  ·rename_i look
   intro _
   have z:=(ZQ3).symm.trans htp
   cases z
  ·intro a;cases a
 ca:=λ kin I k=>rR T kin I k
end
theorem qb (I:Z8) (e:H a=some ZJr) (T:rV X.K C)
  (k:kitOne X.K Z0w c=some b) (h:∀ tk,Q ZD0 { s with toks:=tk }):wpAny Z5 A (call Z1h [ZY,c]) Q E s:=by
 obtain⟨⟨G,J,F,j,q⟩,_⟩:=(show bP X.prog X.w H s.heap a ZJr from Z5i)
 exact kia_one (v9 T) I.kIn ⟨G,J,F,j,q⟩ k (λ z=>nomatch z) h
mutual
inductive Rp (K:PySem.W.Frag) (H:Hp):V->PyData->Prop
 | non:Rp K H .non .none
 | bl (b:Bool):Rp K H ZD1 ZD0
 | int (i:Int):Rp K H Z2M Z2M
 | str (x:Str):Rp K H ZBr ZBr
 | lst {a:Addr} {vs:Z11} {ds:ZHq}:SqL K H a vs->dj K H vs ds->Rp K H ZY (.list ds)
 | tup {a:Addr} {vs:Z11} {ds:ZHq}:SqT K H a vs->dj K H vs ds->Rp K H ZY (.tuple ds)
inductive dj (K:PySem.W.Frag) (H:Hp):List V->List PyData->Prop
 | nil:dj K H [] []
 | cons {v:V} {vs:Z11} {d:PyData} {ds:ZHq}:Rp K H v d->dj K H vs ds->dj K H (v::vs) (d::ds)
end
section
variable {X:Cx}{pins:List (Addr×Obj)}{σ:St}{H:Hp}{s:Shared}
mutual
theorem Rp.reads (I:Z8):∀ {x:V}{d:PyData}{u:Value},Rp X.K H x d->RelV x u->∃ as,Reads s.heap u d as
 | _,_,u,.non,r=>by cases (show u=Value.none from r);exact⟨_,.none⟩
 | _,_,u,.bl b,r=>by cases (show u=Value.bool b from r);exact⟨_,.bool b⟩
 | _,_,u,.int i,r=>by obtain⟨t,rfl⟩:=(show ∃ t,u=Value.int i t from r);exact⟨_,ZBh⟩
 | _,_,u,.str x,r=>by obtain⟨t,rfl⟩:=(show ∃ t,u=Value.str x t from r);exact⟨_,ZOV⟩
 | _,_,u,@Rp.lst _ _ a vs ds q all,r=>by
  cases (show u=Value.ref a from r)
  obtain⟨its,rv,pl,_⟩:=I.list q
  obtain⟨as,ra⟩:=ZJP
  obtain⟨o,n,e,c,_,d⟩:=pl
  exact⟨_,.list e c d (by simpa using ra)⟩
 | _,_,u,@Rp.tup _ _ a vs ds q all,r=>by
  cases (show u=Value.ref a from r)
  obtain⟨its,rv,pl,_⟩:=I.tuple q
  obtain⟨as,ra⟩:=ZJP
  obtain⟨o,e,c,n,d⟩:=pl
  exact⟨_,.tuple e c d (by simpa using ra)⟩
theorem dj.reads (I:Z8):∀ {xs:List V}{ds:List PyData}{us:List Value},dj X.K H xs ds->Vals xs us->∃ as,ReadsAll s.heap us ds as
 | _,_,_,.nil,.nil=>⟨_,.nil⟩
 | _,_,_,.cons p ps,.cons r rs=>by
  obtain⟨as,h1⟩:=Rp.reads I p r
  obtain⟨bs,h2⟩:=dj.reads I ps rs
  exact⟨_,.cons h1 h2⟩
end
end
inductive hV (K:PySem.W.Frag) (neg:Bool) (x:V) (y:V) (H:Hp) (Q:VK):Prop
 | mk:∀ d e,Rp K H x d->Rp K H y e->SeqAt.shaped d=true->SeqAt.shaped e=true->Q (.bl (if neg then !PyData.eqv d e else PyData.eqv d e)) H->hV K neg x y H Q
section
variable {X:Cx}
theorem zD (j:X.A.units+64<cLine):OpR X ZCn (hV X.K false):=by
 intro pins s σ H x y v u Q I L M h
 obtain⟨d,e,z,F,O,R,q⟩:=h
 obtain⟨_,G⟩:=ZR9
 obtain⟨_,J⟩:=ZS4
 exact eq_dataH G J O R j ⟨.bl (PyData.eqv d e),H,I,rfl,q⟩
theorem zt (j:X.A.units+64<cLine):OpR X ZA0 (hV X.K true):=by
 intro pins s σ H x y v u Q I L M h
 obtain⟨d,e,z,F,O,R,q⟩:=h
 obtain⟨_,G⟩:=ZR9
 obtain⟨_,J⟩:=ZS4
 exact ne_dataH G J O R j ⟨.bl (!PyData.eqv d e),H,I,rfl,q⟩
inductive TyX (K:PySem.W.Frag) (H:Hp):V->Value->Prop
 | plain {x:V} {t:Value}:jh K H x t->TyX K H x t
 | exc {a C:Addr}:H a=some ZJr->rV K C->TyX K H ZY Z0w
def zo (K:PySem.W.Frag):List V->Hp->VK->Prop:=λ xs H Q=>match xs with
 | [x,.ty T]=>∃ t b,TyX K H x t/\PySem.W.kitOne K t ZCz=some b/\Q ZD1 H
 | [x,.ref C]=>∃ t b,TyX K H x t/\PySem.W.kitOne K t Z0w=some b/\Q ZD1 H
 | _=>False
theorem nO:cN X Z1h (zo X.K):=by
 intro pins s σ H xs M Q I r h
 have L:∀ {x:V} {z c t:Value} {b:Bool},RelV x z->TyX X.K H x t->PySem.W.kitOne X.K t c=some b->Q ZD1 H->wpAny Z5 X.A (call Z1h [z,c]) Z0N X.xe s:=by
  intro x z c t b j ty k q
  have F:∀ tk,EP X pins σ Q ZD0 { s with toks:=tk }:=λ tk=>⟨ZVn,H,I.tok tk,rfl,q⟩
  cases ty with
  | plain ty=>exact sP I j ty k F
  | exc e T=>
   cases (show z=Value.ref _ from j)
   exact qb I e T k F
 unfold zo at h
 split at h
 ·obtain⟨t,b,ty,k,q⟩:=h
  obtain⟨z,J,rfl,j,G⟩:=ZRA
  cases (show J=Value.type _ from G)
  exact ZTe
 ·obtain⟨t,b,ty,k,q⟩:=h
  obtain⟨z,J,rfl,j,G⟩:=ZRA
  cases (show J=Value.ref _ from G)
  exact ZTe
 ·exact h.elim
theorem lC (q:ZAw) (h:∃ t,X.mg x=some ZBh) (j:(x == ("__debug__" :ZHN))=false:=by decide):PE X Z3P ZXT:=by
 obtain⟨t,h⟩:=h
 exact wW q h Z8r j
theorem dX (K) (t):PySem.W.kitOne K t t=some true:=by
 unfold PySem.W.kitOne
 rw[Fl (JA t)]
structure xG (K:PySem.W.Frag) (C:Addr):Prop where
 ha:PySem.W.findIn K Z0w "__class__" = some ZGb
 hn:PySem.W.specialIn K Zl "__get__" = some ZEV
 ht:PySem.W.takesIn K (Zl)=some true
 hm:PySem.W.mroIn K C (Z6F)=some true
end
structure MkO (K:PySem.W.Frag) (C:Addr):Prop where
 makes:PySem.W.makesIn K C=true
 init:PySem.W.findIn K Z0w "__init__" = some ZU2
 kp:PySem.W.keepIn K Z0w=true
def y9 (C:Addr):TE:=λ _ H Q=>∀ x dx,H x=none->H dx=none->dx≠x->Q Z3j Z8S
section
variable {X:Cx}{C:Addr}{x:Str}{p pos:Pos}
theorem oH (M:MkO X.K C) (R:ZAw) (S:X.mg x=some Z0w) (G:(x == ("__debug__" :ZHN))=false:=by decide):PE X (.Call Z9F [] [] pos) (y9 C):=by
 intro pins s σ H Q I h
 refine HX (jH I R S ?_ G)
 refine PySem.W.callWith_K0 I.kIn M.kp ?_
 have O:=ZJd
 have U:=h (s.heap.objs.size+1) s.heap.objs.size ZJz Z2f ZGM
 refine IV (sL I.kIn M.makes M.init (λ z=>PySem.W.Looks.of_pure (PySem.W.oi_bind z)) ?_)
 obtain⟨j,g,d,t,V⟩:=s
 have F:(Z1H).get? (j.objs.size+1)=some (ZBF):=by
  have:=Heap.get?_push_size (j.push PySem.W.emptyDict) (o:=ZBF) rfl
  rwa [Heap.size_push] at this
 have q:PySem.W.Looks Z5 Z1H (typeOf (.ref (j.objs.size+1))) Z0w:=(PySem.W.Looks.ld F).andThen .now
 have L:=(Kf (M:=model X.prog X.w) I.kIn M.makes).top
 have J:PySem.W.Looks Z5 Z1H (isInstance (.ref (j.objs.size+1)) Z6F) true:=
  q.andThen (L.keeps λ b o e=>Z2z)
 refine Ja PySem.W.oi_plain PySem.W.entry_oi (@PySem.W.check_slot Z5 _ _ _ _ _ _ _ [] [] _ PySem.W.oi_kind PySem.W.oi_split J (PySem.W.oi_args _) ?_)
 rw[PySem.W.oi_run]
 exact Fb ⟨rfl,.ref (j.objs.size+1),_,O,rfl,U⟩
end
section
variable {X:Cx}{K:PySem.W.Frag}{a b e o value l:Expr}{es:List Expr}{f name:Str}{pos pos' apos cpos:Pos}{ta tb tv tl to:TE}{t:TA}{tg:Expr}
theorem bu (z:ZVN) (q:attributeBase e f X.env (Z0k)=eval e X.env) (j:X.K=K:=by rfl):PE X Z8W (qr K ta f):=j ▸ yT z q
theorem cj (q:ZGE) (z:ZEu) (hs:swapsWith value ZU1 pos.line X.env=pure false) (j:X.K=K:=by rfl):PS X ZDy (Cd K ta tv f):=j ▸ zi q z hs
theorem cA (q:ZGF) (j:X.K=K:=by rfl):PI X tg l (ym K tl):=j ▸ wF q
theorem xv (q:ZGF) (j:X.K=K:=by rfl):PI X tg l (CY K tl):=j ▸ zI q
theorem bD (j:X.K=K:=by rfl):IxR X ZQj:=j ▸ xa
theorem bO (j:X.K=K:=by rfl):IxR X (xB K):=j ▸ zG
theorem dW (j:X.K=K:=by rfl):SlR X ZVo:=j ▸ w9
theorem uO (j:X.K=K:=by rfl):OpR X ZLx (rIn K false):=j ▸ sH
theorem gQ (j:X.K=K:=by rfl):OpR X ZJ0 (rIn K true):=j ▸ mP
theorem cN.mono (h:cN X fn r) (m:∀ xs H Q,r' xs H Q->r xs H Q):cN X fn r':=λ _ _ _ _ _ _ _ I v q=>h _ _ _ _ _ _ _ I v (m _ _ _ q)
inductive zA (K:PySem.W.Frag) (xs:List V) (H:Hp) (Q:VK):Prop
 | mk:∀ p ys,xs=[Z00]->(SqL K H p ys\/SqT K H p ys)->Q Z8h H->zA K xs H Q
theorem cm (j:X.K=K:=by rfl):cN X ZBT (zA K):=j ▸ m6.mono λ _ _ _ ⟨p,ys,a,b,c⟩=>ZK5
inductive qQ (K:PySem.W.Frag) (xs:List V) (H:Hp) (Q:VK):Prop
 | mk:∀ p ys,xs=[Z00]->(SqL K H p ys\/SqT K H p ys)->(∀ l,H l=none->Q Zv ZFA)->qQ K xs H Q
theorem fP (j:X.K=K:=by rfl):cN X ZO (qQ K):=j ▸ mU.mono λ _ _ _ ⟨p,ys,a,b,c⟩=>ZK5
inductive oB (K:PySem.W.Frag) (xs:List V) (H:Hp) (Q:VK):Prop
 | mk:∀ p ys,xs=[Z00]->((SqL K H p ys/\∀ l,H l=none->Q Zv ZOn)\/(SqT K H p ys/\Q Z00 H))->oB K xs H Q
theorem oZ (j:X.K=K:=by rfl):cN X Z0U (oB K):=j ▸ kZ.mono λ _ _ _ ⟨p,ys,a,b⟩=>⟨p,ys,a,b⟩
theorem fH (q:X.A.units+64<cLine) (j:X.K=K:=by rfl):OpR X ZCn ZB3:=j ▸ zD q
theorem jL (q:X.A.units+64<cLine) (j:X.K=K:=by rfl):OpR X ZA0 ZSZ:=j ▸ zt q
theorem dh (j:X.K=K:=by rfl):cN X Z1h (zo K):=j ▸ nO
theorem fb (z:X.calm=true) (h:ZT_) (F:(Z3l).length=n:=by rfl) (j:(Z3l).findIdx? (·.1)=none:=by rfl) (q:X.K=K:=by rfl):PG X ZK3 (ze K n u):=q ▸ zh z h F j
def E5 (K:PySem.W.Frag) (ta:TE):TT:=λ σ H Q=>ta σ H λ x H'=>tX K Q x H'
theorem r9 (ha:Z3Y) (he:∀ whole,isTrue a X.env whole=(do let v <- whole;standAt a.pos;holding [v] ZEU)) (hK:X.K=K:=by rfl):PT X a (E5 K ta):=hK ▸ uV ha he
variable {T id:String}{r:V->List V->Hp->VK->Prop}
theorem qO (L:ZAu) (z:Z8c) (F:typeOf Z1g=pure Z3a) (I:ZEH) (J:ZCJ)
  (j:attributeBase o name X.env Z4u=eval o X.env:=by rfl) (q:(apos.endLine == cpos.line)=true:=by rfl) (G:X.K=K:=by rfl):PE X ZFn (Ad K T r to):=G ▸ zZ L z F I J j q
theorem cQ (R:ZAu) (G:Z8c) (I:typeOf Z1g=pure Z3a) (M:ZEH) (O:ZCJ) (L:PA X (e::es) t)
  (q:attributeBase o name X.env Z4u=eval o X.env:=by rfl)
  (F:((backTo cpos (starEach (e::es) X.env)).all (λ x=>!x.1) && (ZAQ).all Z9u
   && decide ((e::es).length+([]:ZAv).length+(if ([]:List Keyword).isEmpty then 0 else 1)<30))=true:=by rfl)
  (z:(apos.endLine == cpos.line)=true:=by rfl) (hs:starEach (e::es) X.env=(false,Z0k)::starEach es X.env:=by rfl) (j:(Z4i).any (·.1)=false:=by rfl) (J:X.K=K:=by rfl) :
  PE X (.Call Z44 (e::es) [] cpos) (tBM K T r to t):=J ▸ BG R G I M O L q F z hs j
end
theorem cD {k:Bool}{A B:Prop}(h:k=false) (j:B):if k=true then A else B:=by rw[h];exact iy j
theorem eT {k:Bool}{A B:Prop}(h:k=true) (j:A):if k=true then A else B:=by rw[h];exact f9 j
theorem bj.new (h:H p=none):bj H ZST:=λ b u e=>by rw[aV (ba e h)];exact e
theorem bj.tup {K:PySem.W.Frag}{H H':Hp}{a:Addr}{xs:Z11}(e:Z4h) (h:ZG8):SqT K H' a xs:=by
 rcases h with (h|⟨o,h⟩)|h
 ·exact ZGY
 ·exact ZCg
 ·exact ZCe
mutual
theorem Rp.same {K:PySem.W.Frag}{H H':Hp}(e:Z4h):∀ {v:V}{d:PyData},Rp K H v d->Rp K H' v d
 | _,_,.non=>.non
 | _,_,.bl b=>ZVn
 | _,_,.int i=>Z2M
 | _,_,.str x=>ZVh
 | _,_,.lst q a=>.lst (e.seq q) ZP2
 | _,_,.tup q a=>.tup (e.tup q) ZP2
theorem dj.same {K:PySem.W.Frag}{H H':Hp}(e:Z4h):∀ {vs:List V}{ds:List PyData},dj K H vs ds->dj K H' vs ds
 | _,_,.nil=>.nil
 | _,_,.cons p ps=>.cons (p.same e) (dj.same e ps)
end
mutual
noncomputable def noDict:PyData->Bool
 | .none=>true
 | .bool _=>true
 | .int _=>true
 | .str _=>true
 | .list xs=>ZT6
 | .tuple xs=>ZT6
 | .dict _=>false
noncomputable def noDicts:List PyData->Bool
 | []=>true
 | x::xs=>noDict x && noDicts xs
end
mutual
theorem jW:∀ {d:PyData},noDict d=true->PyData.eqv d d=true
 | .none,_=>by simp[PyData.eqv]
 | .bool _,_=>by simp[PyData.eqv]
 | .int _,_=>by simp[PyData.eqv]
 | .str _,_=>by simp[PyData.eqv]
 | .list xs,h=>by rw[PyData.eqv];exact gI (by simpa [noDict] using h)
 | .tuple xs,h=>by rw[PyData.eqv];exact gI (by simpa [noDict] using h)
 | .dict _,h=>by simp[noDict] at h
theorem gI:∀ {ds:List PyData},noDicts ds=true->PyData.eqvAll ds ds=true
 | [],_=>by simp[PyData.eqvAll]
 | x::xs,h=>by
  rw[noDicts,F5] at h
  rw[PyData.eqvAll,jW h.1,gI h.2]
  rfl
end
theorem bj.ins (q:H x=none) (j:H dx=none):bj H (upd (upd H dx Z69) x o):=λ b u e=>by
 rw[aV (ba e q),aV (ba e j)];exact e
end L2
namespace SetT
open PySem PySem.SetTable
noncomputable def lcg (M x:Nat):Nat:=(x*5+1)%M
noncomputable def orb (M:Nat):Nat->Nat->Nat
 | 0,x=>x
 | n+1,x=>orb M n ZLr
theorem jQ (M):∀ (a b x:Nat),orb M (a+b) x=orb M b (orb M a x)
 | 0,b,x=>by rw[GR];rfl
 | a+1,b,x=>by rw[Nat.add_right_comm];exact jQ M a b ZLr
noncomputable def wH (M:Nat):Nat->Nat->List Nat
 | 0,_=>[]
 | n+1,x=>x::wH M n ZLr
theorem nK:∀ {n x y:Nat},y∈wH M n x->∃ a,a<n/\orb M a x=y
 | 0,_,_,h=>by simp[wH] at h
 | n+1,x,y,h=>by
  rcases Fi.mp h with rfl|h
  ·exact⟨0,Z2,rfl⟩
  ·obtain⟨a,j,e⟩:=nK h
   exact⟨a+1,Z2,e⟩
noncomputable def jo (M:Nat):Bool:=((List.range M).all λ y=>(wH M M 0).contains y) && orb M M 0 == 0
theorem cover (h:jo M=true) (J:x<M) (L:y<M):∃ n,n<M/\orb M n x=y:=by
 unfold jo at h
 rw[F5,Hs,Hv] at h
 obtain⟨all,q⟩:=h
 have j:∀ z,z<M->∃ a,a<M/\orb M a 0=z:=λ z O=>nK (by simpa using all z (Hw.mpr O))
 obtain⟨a,R,F⟩:=j x J
 obtain⟨b,S,G⟩:=j y L
 by_cases I:a<=b
 ·refine⟨b-a,Z2,?_⟩
  rw[<- F,<- jQ,show a+(b-a)=b by lia]
  exact G
 ·refine⟨b+M-a,Z2,?_⟩
  rw[<- F,<- jQ,show a+(b+M-a)=M+b by lia,jQ,q]
  exact G
inductive Pow:Nat->Prop
 | p8:Pow 8
 | p16:Pow 16
 | p32:Pow 32
 | p64:Pow 64
 | p128:Pow 128
 | p256:Pow 256
theorem Pow.round (h:Pow M):jo M=true:=by cases h<;>decide +kernel
theorem Pow.pos (h:Pow M):8<=M/\M<=256:=by cases h<;>decide
noncomputable def at_ (mask:Nat):Nat->Nat->Nat->Nat×Nat
 | 0,i,p=>(i,p)
 | s+1,i,p=>Z6M
theorem wz (mask):∀ (a b i p:Nat),at_ mask (a+b) i p=at_ mask b (ZM_).1 (ZM_).2
 | 0,b,i,p=>by rw[GR];rfl
 | a+1,b,i,p=>by rw[Nat.add_right_comm];exact wz mask a b _ _
theorem rF (mask):∀ (s i p:Nat),(Z8a).2=p/32 ^ s
 | 0,i,p=>by simp[at_]
 | s+1,i,p=>by
  show (Z6M).2=_
  rw[rF mask s]
  show p/32/32 ^ s=_
  rw[Nat.div_div_eq_div_mul,Nat.pow_succ,Nat.mul_comm]
theorem vU {mask:Nat}:∀ (s i:Nat),i<mask+1->(at_ mask s i 0).1=orb (mask+1) s i
 | 0,i,_=>rfl
 | s+1,i,h=>by
  show (at_ mask s (ZNY).1 (ZNY).2).1=_
  have e:leap mask i 0=(lcg (mask+1) i,0):=by
   unfold leap lcg
   simp
  rw[e]
  exact vU s _ ZLQ
theorem vv {mask:Nat}:∀ (s i p:Nat),i<mask+1->(Z8a).1<mask+1
 | 0,i,p,h=>h
 | s+1,i,p,h=>vv s _ _ ZLQ
theorem reach {mask i p f:Nat}(j:Pow (mask+1)) (hi:i<mask+1) (F:p<2 ^ 64) (q:f<mask+1):∃ s,s<turns mask/\(Z8a).1=f:=by
 obtain⟨n,G,e⟩:=cover j.round ZMx q
 refine⟨13+n,by unfold turns;lia,?_⟩
 rw[wz]
 have z:(at_ mask 13 i p).2=0:=by
  rw[rF]
  exact Nat.div_eq_of_lt (FA F Z3)
 rw[z,vU _ _ ZMx]
 exact e
theorem mv {mask:Nat}{owner:ZHx}:∀ {fuel i p:Nat},layClean.free mask owner fuel i p=none->∀ s,s<fuel->owner.getD (Z8a).1 ZOq≠none
 | 0,_,_,_,s,j=>Z2
 | fuel+1,i,p,h,s,j=>by
  unfold layClean.free at h
  split at h
  ·cases h
  ·rename_i q
   cases s with
   | zero=>
    intro z
    have:=Jm.mp q 0 (Hw.mpr (by unfold runEnd;split<;>lia))
    rw[Ji] at this
    have F:owner.getD i ZOq=none:=z
    rw[F] at this
    exact this rfl
   | succ s=>exact mv (fuel:=fuel) h s Z2
theorem lN {mask:Nat}{owner:ZHx}:∀ {fuel i p j:Nat},layClean.free mask owner fuel i p=some j->owner.getD j ZOq=none
 | 0,_,_,_,h=>by simp[layClean.free] at h
 | fuel+1,i,p,j,h=>by
  unfold layClean.free at h
  split at h
  ·rename_i k q
   cases h
   have:=JN q
   simpa using this
  ·exact lN (fuel:=fuel) h
theorem wM {mask:Nat}{owner:ZHx}{i p f:Nat}(F:Pow (mask+1)) (hi:i<mask+1) (I:p<2 ^ 64) (G:f<mask+1) (e:owner[f]? = some none):∃ j,layClean.free mask owner ZB2 i p=some j/\owner[j]? = some none:=by
 cases q:layClean.free mask owner (turns mask) i p with
 | none=>
  obtain⟨s,J,es⟩:=reach F hi I G
  have:=mv q s J
  rw[es] at this
  exact absurd (by rw[Ii,e];rfl) this
 | some j=>
  refine⟨j,rfl,?_⟩
  have:=lN q
  rw[Ii] at this
  cases z:owner[j]? with
  | none=>rw[z] at this;cases this
  | some o=>rw[z] at this;rw[show o=none from this]
theorem ue:∀ (l:List (Option Nat)) (j v:Nat),l[j]? = some none->((ZRJ).filterMap id).Perm (v::l.filterMap id)
 | [],j,v,h=>by simp at h
 | x::l,0,v,h=>by
  have:x=none:=by simpa using h
  subst this
  simp
 | x::l,j+1,v,h=>by
  have q:=ue l j v (by simpa using h)
  cases x with
  | none=>simpa using q
  | some y=>
   show (y::(ZRJ).filterMap id).Perm (v::y::l.filterMap id)
   exact(q.cons y).trans (List.Perm.swap v y _)
theorem qV:∀ (l:List (Option Nat)),(l.filterMap id).length<l.length->∃ j,j<l.length/\l[j]? = some none
 | [],h=>by simp at h
 | none::l,_=>⟨0,Zq,rfl⟩
 | some y::l,h=>by
  obtain⟨j,q,e⟩:=qV l (by simpa using h)
  exact⟨j+1,by simpa using q,by simpa using e⟩
theorem nQ {mask:Nat}(hM:Pow (mask+1)):∀ (hs:List Int) (owner:Array (Option Nat)) (k:Nat),owner.size=mask+1->(Z6C).Perm (List.range k)->k+hs.length<=mask ->
  ∃ owner',hs.foldl (λ(acc:Option (Array (Option Nat)×Nat)) h=>do
    let (owner,k) <- acc
    let j <- layClean.free mask owner ZB2 (bits h%(mask+1)) ZFH
    pure (Z1Q,k+1)) (some (owner,k))=some (owner',k+hs.length)/\owner'.size=mask+1/\(owner'.toList.filterMap id).Perm (List.range (k+hs.length))
 | [],owner,k,hs,hp,_=>⟨owner,rfl,hs,hp⟩
 | h::hs,owner,k,hsz,hp,hk=>by
  have hlen:(Z6C).length<owner.toList.length:=by
   rw[hp.length_eq,Ih,Fs,hsz]
   simp only[FV] at hk
   lia
  obtain⟨f,hf,ef⟩:=qV _ hlen
  obtain⟨j,ej,fj⟩:=wM (mask:=mask) (owner:=owner) (i:=bits h%(mask+1)) (p:=bits h) (f:=f) hM ZLQ
   (by unfold bits;have:=FW h (b:=2 ^ 64) Z3;have:=F7 h (b:=2 ^ 64) Z3;lia) (by rw[Fs,hsz] at hf;exact hf) (by rw[<- F2];exact ef)
  have step:(do
    let (owner,k) <- some (owner,k)
    let j <- layClean.free mask owner ZB2 (bits h%(mask+1)) ZFH
    pure (Z1Q,k+1):Option (Array (Z5V)×Nat))=some (Z1Q,k+1):=by
   show (layClean.free mask owner ZB2 (bits h%(mask+1)) ZFH).bind _=_
   rw[ej]
   rfl
  rw[Kp,step]
  have hp':((Z1Q).toList.filterMap id).Perm (List.range (k+1)):=by
   rw[Array.toList_setIfInBounds]
   refine(ue _ j k (by rw[F2];exact fj)).trans ?_
   rw[JM]
   exact(hp.cons k).trans (List.perm_append_singleton k _).symm
  obtain⟨o',e',s',p'⟩:=nQ hM hs Z1Q (k+1) (by rw[Array.size_setIfInBounds];exact hsz) hp' (by simp only[FV] at hk;lia)
  refine⟨o',?_,s',?_⟩
  ·rw[e'];simp only[FV];congr 2;lia
  ·rw[show k+(h::hs).length=k+1+hs.length by simp only[FV];lia];exact p'
theorem oU {mask:Nat}(j:Pow (mask+1)) {hs:ZVf}(F:hs.size<=mask):∃ owner,layClean mask hs=some owner/\owner.size=mask+1/\(Z6C).Perm ZHK:=by
 have z:((Array.replicate (mask+1) (none:Z5V)).toList.filterMap id).Perm (List.range 0):=by
  rw[Array.toList_replicate]
  have:∀ n,((List.replicate n (none:Z5V)).filterMap id)=[]:=by
   intro n;induction n with
   | zero=>rfl
   | succ n q=>rw[HM];simpa using q
  rw[this]
  exact Z5E
 obtain⟨o,e,s,p⟩:=nQ j hs.toList (Array.replicate (mask+1) none) 0 ZA z (by rw[Fs];lia)
 rw[GR,Fs] at e p
 refine⟨o,?_,s,p⟩
 unfold layClean
 rw[<- Array.foldl_toList,e]
 rfl
structure iD (t:SetTable) (n:Nat):Prop where
 size:t.place.size=n
 up:t.place.toList.Pairwise (· < ·)
 clean:t.dummies = #[]
 few:n<=t.mask
theorem iD.fits (r:ZAp):t.fits n=true:=by
 unfold SetTable.fits fill
 rw[r.size,r.clean]
 simp[r.few]
theorem rG {mask finger moves:Nat}{led plain:Bool}(R:Pow (mask+1)) {hs:ZVf}(O:hs.size<=mask):∃ t F,laid mask finger moves led plain hs=some (t,F)/\iD t hs.size/\t.mask=mask/\t.led=led/\t.plain=plain/\F.toList.Perm ZHK:=by
 obtain⟨z,e,V,p⟩:=oU R O
 have G:((List.range (mask+1)).filterMap λ j=>(Z4B).map (j,·)).map (·.2)=z.toList.filterMap id:=by
  rw[List.map_filterMap]
  have:(λ j=>((Z4B).map ((j:Nat),·)).map (·.2))=λ j=>id (Z4B):=by
   funext j
   cases z.getD j none<;>rfl
  rw[this]
  show List.filterMap (id ∘ λ j=>Z4B) _=_
  rw[<- List.filterMap_map]
  congr 1
  apply List.ext_getElem
  ·simp[V]
  ·intro i h1 h2
   simp[Ii] 
   rw[FO (by simpa using h2)]
   rfl
 have L:(((List.range (mask+1)).filterMap λ j=>(Z4B).map (j,·)).map (·.1)).Pairwise (· < ·):=by
  rw[List.map_filterMap,List.pairwise_filterMap]
  refine(List.pairwise_lt_range (n:=mask+1)).imp λ{a b} h x I y J=>?_
  have S:x=a:=by
   cases q:z.getD a none with
   | none=>rw[q] at I;cases I
   | some v=>rw[q] at I;exact(Option.some.inj I).symm
  have U:y=b:=by
   cases q:z.getD b none with
   | none=>rw[q] at J;cases J
   | some v=>rw[q] at J;exact(Option.some.inj J).symm
  rw[S,U];exact h
 have M:((List.range (mask+1)).filterMap λ j=>(Z4B).map (j,·)).length=hs.size:=by
  have:=congrArg List.length G
  rw[Fe,p.length_eq,Ih] at this
  exact this
 unfold laid
 rw[e]
 refine⟨_,_,rfl,⟨?_,?_,rfl,O⟩,rfl,rfl,rfl,?_⟩
 ·simpa using M
 ·simpa using L
 ·show (((List.range (mask+1)).filterMap λ j=>(Z4B).map (j,·)).map (·.2)).toArray.toList.Perm _
  rw[List.toList_toArray,G]
  exact p
theorem mz {xs:ZLe}(h:xs.toList.Pairwise (· < ·)) {i k:Nat}{x y:Nat}(j:i<k) (hi:xs[i]? = some x) (q:xs[k]? = some y):x<y:=by
 rw[<- F2] at hi q
 obtain⟨h1,z⟩:=ZOO
 obtain⟨h2,F⟩:=ZLW
 have:=HE.mp h i k h1 h2 j
 rw[z,F] at this
 exact this
theorem jZ {xs:ZLe}(h:xs.toList.Pairwise (· < ·)) {j:Nat}:∀ (fuel lo hi:Nat),hi-lo<=fuel->lo<=hi->hi<=xs.size->(∀ i x,i<lo->xs[i]? = some x->x<j)->(∀ i x,hi<=i->xs[i]? = some x->j<=x) ->
  below.go xs j fuel lo hi<=xs.size/\(∀ i x,i<below.go xs j fuel lo hi->xs[i]? = some x->x<j)/\∀ i x,below.go xs j fuel lo hi<=i->xs[i]? = some x->j<=x
 | 0,lo,hi,hf,M,J,h1,h2=>by
  have e:lo=hi:=Z2
  subst e
  exact ZNI
 | fuel+1,lo,hi,hf,M,J,h1,h2=>by
  unfold below.go
  by_cases G:lo<hi
  ·rw[Fl G]
   have O:(lo+hi)/2<xs.size:=Z2
   have F:xs[(lo+hi)/2]? = some xs[(lo+hi)/2]:=FO O
   have I:xs.getD ((lo+hi)/2) j=xs[(lo+hi)/2]:=by rw[Ii,F];rfl
   by_cases z:xs.getD ((lo+hi)/2) j<j
   ·rw[ZDY]
    refine jZ h fuel _ _ Z2 Z2 J (λ i x L e=>?_) h2
    by_cases q:i=(lo+hi)/2
    ·subst q;rw[F] at e;cases e;rw[I] at z;exact z
    ·have:=mz h (show i<(lo+hi)/2 by lia) e F
     rw[I] at z;lia
   ·rw[ZFZ]
    refine jZ h fuel _ _ Z2 Z2 Z2 h1 λ i x L e=>?_
    by_cases q:i=(lo+hi)/2
    ·subst q;rw[F] at e;cases e;rw[I] at z;lia
    ·have:=mz h (show (lo+hi)/2<i by lia) F e
     rw[I] at z;lia
  ·rw[Fj G]
   have e:lo=hi:=Z2
   subst e
   exact ZNI
theorem fK (h:xs.toList.Pairwise (· < ·)) (j):below xs j<=xs.size/\(∀ i x,i<below xs j->xs[i]? = some x->x<j)/\∀ i x,below xs j<=i->xs[i]? = some x->j<=x:=by
 unfold below
 exact jZ h xs.size 0 xs.size Z2 Z2 Z2 (λ i x hi=>Z2) λ i x hi e=>by
  have:=ZIK
  lia
theorem sU {t:SetTable}{n:Nat}(r:ZAp) {j:Nat}(J:j∈t.place.toList):t.slot j≠.empty:=by
 obtain⟨m,e⟩:=IT.mp J
 rw[F2] at e
 obtain⟨M,G,I⟩:=ZUu
 have q:t.place[Z2I]? = some j:=by
  by_cases L:m<below t.place j
  ·have:=G m j L e;lia
  ·by_cases F:m=below t.place j
   ·rw[<- F];exact e
   ·have z:below t.place j<t.place.size:=by have:=ZIK;lia
    have g:=FO z
    have h1:=mz r.up (show below t.place j<m by lia) g e
    have h2:=I _ _ Z9 g
    lia
 unfold slot
 simp[q]
theorem hJ (r:ZAp) (h:t.slot j≠.empty):j∈t.place.toList/\∃ i,t.slot j=.live i:=by
 unfold slot at h ⊢
 dsimp only at h ⊢
 split at h
 ·rename_i q
  have z:t.place[Z2I]? = some j:=by simpa using q
  rw[<- F2] at z
  refine⟨Fg z,Z2I,?_⟩
  rw[ZQS]
 ·have:has t.dummies j=false:=by unfold has;rw[r.clean];simp
  rw[this] at h
  simp at h
theorem ui:∀ (n:Nat) (l:List Nat),(∀ f,f<n->f∈l)->n<=l.length
 | 0,_,_=>ZH9
 | n+1,l,h=>by
  have j:=h n Z2
  have q:=ui n (l.erase n) λ f z=>(List.mem_erase_of_ne Z2).mpr (h f Z2)
  rw[ZDB] at q
  have:0<l.length:=ZEI
  lia
theorem qc (r:ZAp):∃ f,f<t.mask+1/\f∉t.place.toList:=by
 refine Classical.byContradiction λ z=>?_
 have all:∀ f,f<t.mask+1->f∈t.place.toList:=λ f j=>Classical.byContradiction λ q=>z ⟨f,j,q⟩
 have:=ui _ _ all
 rw[Fs,r.size] at this
 have:=r.few
 lia
noncomputable def win (mask i pt:Nat):Probe:={ j:=i,more:=runEnd mask i-i,i:=i,perturb:=pt,dummy:=none }
theorem nz (mask i):runEnd mask i-i<=9:=by unfold runEnd;split<;>lia
theorem mu (r:ZAp):∀ (m fuel:Nat) (p:Probe),p.more=m->p.dummy=none->m<fuel->probe.go t (λ _=>h+1) h fuel p=none ->
  t.slot p.j≠.empty/\probe.go t (λ _=>h+1) h (fuel-(m+1)) (win t.mask (Z3V).1 (Z3V).2)=none:=by
 intro m
 induction m with
 | zero=>
  intro fuel p L G J q
  obtain⟨fuel,rfl⟩:∃ k,fuel=k+1:=⟨fuel-1,Z2⟩
  unfold probe.go at q
  by_cases z:t.slot p.j=.empty
  ·rw[z] at q;cases q
  ·refine ZT0
   obtain⟨_,i,F⟩:=ZUp
   rw[F] at q
   dsimp only at q
   rw[Fj (by simp;lia)] at q
   have e:t.advance p=win t.mask (Z3V).1 (Z3V).2:=by
    unfold advance win
    rw[ZBI]
    simp[G]
   rw[e] at q
   simpa using q
 | succ m M=>
  intro fuel p L G J q
  obtain⟨fuel,rfl⟩:∃ k,fuel=k+1:=⟨fuel-1,Z2⟩
  unfold probe.go at q
  by_cases z:t.slot p.j=.empty
  ·rw[z] at q;cases q
  ·refine ZT0
   obtain⟨_,i,F⟩:=ZUp
   rw[F] at q
   dsimp only at q
   rw[Fj (by simp;lia)] at q
   have e:t.advance p={ p with j:=p.j+1,more:=p.more-1 }:=by
    unfold advance
    rw[ZDZ]
   rw[e] at q
   have:=(M fuel { p with j:=p.j+1,more:=p.more-1 } (by show p.more-1=m;lia) G Z2 q).2
   have I:fuel+1-(m+1+1)=fuel-(m+1):=Z2
   rw[I]
   exact this
theorem l9 (r:ZAp):∀ (s fuel i j:Nat),10*(s+1)<=fuel->probe.go t (λ _=>h+1) h fuel ZBL=none->t.slot (at_ t.mask s i j).1≠.empty
 | 0,fuel,i,j,hf,q=>(mu r _ fuel ZBL rfl rfl (by have:=ZHZ;show runEnd t.mask i-i<fuel;lia) q).1
 | s+1,fuel,i,j,hf,q=>by
  have h1:=(mu r _ fuel ZBL rfl rfl (by have:=ZHZ;show runEnd t.mask i-i<fuel;lia) q).2
  exact l9 r s _ _ _ (by have:=ZHZ;show 10*(s+1)<=fuel-(runEnd t.mask i-i+1);lia) h1
theorem jx (r:ZAp):∀ (fuel:Nat) (p:Probe) (m:Met),p.dummy=none->probe.go t (λ _=>h+1) h fuel p=some m->∃ j,m=.empty j none/\t.slot j=.empty
 | 0,p,m,_,q=>by simp[probe.go] at q
 | fuel+1,p,m,hd,q=>by
  unfold probe.go at q
  by_cases z:t.slot p.j=.empty
  ·rw[z] at q
   dsimp only at q
   cases q
   rw[hd]
   exact⟨p.j,rfl,z⟩
  ·obtain⟨_,i,F⟩:=ZUp
   rw[F] at q
   dsimp only at q
   rw[Fj (by simp;lia)] at q
   refine jx r fuel _ m ?_ q
   unfold advance
   split<;>exact hd
theorem nZ (r:ZAp) (F:Pow (t.mask+1)) (h):∃ j,t.freeSlot h=some (j,false)/\j∉t.place.toList:=by
 have G:bits h<2 ^ 64:=by unfold bits;have:=FW h (b:=2 ^ 64) Z3;have:=F7 h (b:=2 ^ 64) Z3;lia
 have st:t.probeStart h=win t.mask (bits h%(t.mask+1)) ZFH:=rfl
 unfold freeSlot probe
 rw[st]
 cases q:probe.go t (λ _=>h+1) h (10*turns t.mask) (win t.mask (bits h%(t.mask+1)) (bits h)) with
 | none=>
  obtain⟨f,I,L⟩:=qc r
  obtain⟨s,M,es⟩:=reach F (JY ZFH (show 0<t.mask+1 by lia)) G I
  have:=l9 r s _ _ _ Z2 q
  rw[es] at this
  exact absurd (hJ r this).1 L
 | some m=>
  obtain⟨j,rfl,z⟩:=jx r _ _ m rfl q
  exact⟨j,rfl,λ J=>sU r J z⟩
theorem Pow.of (h:[8,16,32,64,128,256].contains n=true):Pow n:=by
 have:n=8\/n=16\/n=32\/n=64\/n=128\/n=256:=by simpa using h
 rcases this with rfl|rfl|rfl|rfl|rfl|rfl
 ·exact .p8
 ·exact .p16
 ·exact .p32
 ·exact .p64
 ·exact .p128
 ·exact .p256
theorem iL (h:n<256):Pow ZOr/\n<sizeAbove n:=by
 have all:((List.range 256).all λ n=>[8,16,32,64,128,256].contains ZOr && decide (n<sizeAbove n))=true:=ZF
 have:=Hs.mp all n (Hw.mpr h)
 rw[F5,F3] at this
 exact⟨Pow.of this.1,this.2⟩
structure Good (t:SetTable) (n:Nat):Prop where
 rise:ZAp
 pow:Pow (t.mask+1)
 plain:t.plain=true
 slack:n*5<t.mask*3
theorem Good.fits (g:Good t n):t.fits n=true:=g.rise.fits
theorem p9 (f m) (led):Good (SetTable.fresh f m led) 0:=⟨⟨rfl,by simp[SetTable.fresh],rfl,by simp[SetTable.fresh]⟩,.p8,rfl,by simp[SetTable.fresh]⟩
theorem zT (r:ZAp) (O:j∉t.place.toList) (R:n+1<=t.mask) :
  iD (ZAL).1 (n+1)/\(ZAL).1.mask=t.mask/\(ZAL).1.plain=t.plain/\(ZAL).1.led=t.led:=by
 obtain⟨S,J,L⟩:=ZUu
 have M:has t.dummies j=false:=by unfold has;rw[r.clean];simp
 refine⟨⟨?_,?_,?_,R⟩,rfl,rfl,rfl⟩
 ·show (ZFU).size=n+1
  rw[<- Fs,(insertAt_perm t.place Z2I j).length_eq,HJ,Fh,Fs,r.size]
  rfl
 ·show (ZFU).toList.Pairwise (· < ·)
  rw[toList_insertAt]
  have F:∀ x,x∈t.place.toList.take (Z2I)->x<j:=λ x G=>by
   obtain⟨i,e⟩:=IT.mp G
   have hi:i<below t.place j:=by
    have:=(Fc.mp e).1
    rw[F0] at this
    lia
   rw[Ju hi,F2] at e
   exact J i x hi e
  have q:∀ x,x∈t.place.toList.drop (Z2I)->j<x:=λ x G=>by
   obtain⟨i,e⟩:=IT.mp G
   rw[List.getElem?_drop,F2] at e
   have h1:=L _ x ZVP e
   have h2:j≠x:=λ z=>O (by rw[z];exact List.mem_of_mem_drop G)
   lia
  rw[FU]
  refine⟨r.up.sublist (Kb _ _),?_,λ x G y I=>?_⟩
  ·rw[Hd]
   exact⟨q,r.up.sublist ZFI⟩
  ·rcases Fi.mp I with rfl|I
   ·exact F x G
   ·exact JK (F x G) (q y I)
 ·show (if has t.dummies j then _ else t.dummies) = #[]
  rw[M]
  simpa using r.clean
theorem sh (g:ZMj) (h) (x) :
  ∃ es' t',layNew t es h x=(es',t',false,false)/\es'.toList.Perm (es.toList++[(h,x)])/\iD t' es'.size/\t'.mask=t.mask/\t'.plain=true/\t'.led=t.led:=by
 have I:es.size+1<=t.mask:=by have:=g.slack;have:=g.pow.pos;lia
 obtain⟨j,e,M⟩:=nZ g.rise g.pow h
 obtain⟨F,L,O,J⟩:=zT g.rise M I
 have q:=layNew_perm t es h x
 rw[HJ] at q
 unfold layNew at q ⊢
 rw[e] at q ⊢
 dsimp only at q ⊢
 have z:(insertAt es (ZAL).2 (h,x)).size=es.size+1:=by
  rw[<- Fs,q.length_eq,Fh,Fs];rfl
 have G:(ZAL).1.fits (insertAt es (ZAL).2 (h,x)).size=true:=by rw[z];exact F.fits
 refine⟨_,(ZAL).1,?_,q,by rw[z];exact F,L,O.trans g.plain,J⟩
 unfold orStandIn
 rw[G]
 rfl
theorem uI {es:Array (Int×Value)}{j:ZLe}(p:j.toList.Perm ZHL):(j.filterMap (es[·]?)).toList.Perm es.toList:=by
 rw[Array.toList_filterMap]
 refine(p.filterMap _).trans ?_
 rw[filterMap_getElem?_range]
theorem lL {t:SetTable}{es:Array (Int×Value)}{wanted:Nat}(F:wanted<256) (I:es.size<=wanted) (z:t.plain=true) :
  ∃ t' j,t.relaid (es.map (·.1)) wanted=some (t',j)/\iD t' es.size/\Pow (t'.mask+1)/\t'.plain=true/\t'.led=t.led/\wanted<=t'.mask/\t'.mask=sizeAbove wanted-1/\j.toList.Perm ZHL:=by
 obtain⟨P,J⟩:=iL F
 have q:sizeAbove wanted-1+1=sizeAbove wanted:=Z2
 obtain⟨t',j,e,r,m,l,G,p⟩:=rG (mask:=sizeAbove wanted-1) (finger:=t.finger) (moves:=t.movedTo (sizeAbove wanted-1)) (led:=t.led) (plain:=t.plain) (by rw[q];exact P) (hs:=es.map (·.1)) (by rw[HS];lia)
 rw[HS] at r p
 exact⟨t',j,e,r,by rw[m,q];exact P,by rw[G,z],l,by rw[m];lia,m,p⟩
theorem oJ {t:SetTable}{es:Array (Int×Value)}{wanted:Nat}(I:wanted<256) (L:es.size*2<=wanted) (G:t.plain=true) (h0:0<es.size) :
  ∃ es' t',relayAll t es wanted=(es',t',false)/\es'.toList.Perm es.toList/\Good t' es'.size/\t'.led=t.led:=by
 obtain⟨t',j,e,r,P,J,l,M,_,p⟩:=lL (t:=t) (es:=es) I Z2 G
 have q:=uI p
 have F:(j.filterMap (es[·]?)).size=es.size:=by rw[<- Fs,q.length_eq,Fs]
 have z:coversAll j es.size=true:=List.isPerm_iff.mpr p
 refine⟨j.filterMap (es[·]?),t',?_,q,⟨by rw[F];exact r,P,J,by rw[F];lia⟩,l⟩
 unfold relayAll
 rw[e]
 dsimp only
 rw[z,F,r.fits]
 rfl
noncomputable def ke (e:Int×Value):Int:=match e.2 with
 | .int i _=>i
 | _=>0
def dg (P:Program) (w:World) (h:Heap) (a:Addr) (ks:ZU):Prop:=
 ∃ o es ep t,h.get? a=some o/\o.ExactSet/\o.data=.set es ep t/\ElemsOf Z1B es.toList/\es.toList.map ke=ks/\ks.Nodup/\Good t es.size/\es.size<=63/\(w.params.followText "set-order" = true\/t.led=true)
section
variable {P:Program}{w:World}{A:Around}{E:Value->Shared->Prop}{s:Shared}{a:Addr}{ks:List Int}
theorem dg.few (S:Z2W):ks.length<=63:=by
 obtain⟨o,es,j,t,_,_,_,_,e,_,_,f,_⟩:=S
 rw[<- e,Fe,Fs];exact f
theorem dg.nodup (S:Z2W):ks.Nodup:=by obtain⟨o,es,j,t,_,_,_,_,e,n,_⟩:=S;exact n
theorem yt (h:ZOR) (J:e∈l) (k):(Z1B).is k e.2=true↔ke e=k:=by
 obtain⟨⟨F,j,_⟩,_⟩:=h e J
 obtain⟨t,q⟩:=Value.isInt_shape (show Value.isInt F e.2=true from j)
 have I:ke e=F:=by unfold ke;rw[q]
 rw[I]
 constructor
 ·intro z
  obtain⟨M,G⟩:=Value.isInt_shape (show Value.isInt k e.2=true from z)
  rw[q] at G;injection G with L _
 ·rintro rfl;exact j
theorem tV (h:ZOR) (k):(∃ e∈l,(Z1B).is k e.2=true)↔k∈l.map ke:=by
 rw[Fw]
 exact⟨λ⟨e,j,q⟩=>⟨e,j,(ZWD).mp q⟩,λ⟨e,j,q⟩=>⟨e,j,(ZWD).mpr q⟩⟩
theorem stored (z:h.get? a=some o) (q:o.ExactSet) (j:o.data=.set es ep t) :
  (ZMS).get? a=some { o with data:=.set es' (ep+1) t' }/\Heap.SameBut a h (ZMS):=by
 refine⟨?_,Heap.SameBut.update h a _⟩
 have:=Heap.get?_update_self Z9D z (by rw[ZIT];rfl)
 rwa [ZIT] at this
theorem eA (h:n<=64):n<=sizeLine:=FC h Z3
theorem wj (S:Z4F) (af:ks.length<=62)
  (h:∀ b h' a1,Heap.SameBut a s.heap h'->dg P w h' a a1->(∀ y,y∈a1↔y∈ks\/y=k)->a1.length<=ks.length+1->Q b { s with heap:=h' }) :
  wpAny Zh A (setAddHashed a ZB9 ZFy) Q E s:=by
 obtain⟨o,es,ep,t,ho,Y,hd,L,O,nd,g,fw,aa⟩:=ZUj
 have ag:es.size=ks.length:=by rw[<- O,Fe,Fs]
 have U:(Z1B).is k ZB9=true:=by show Value.isInt k ZB9=true;simp[Value.isInt]
 have hb:es.size<scanBound:=GH fw Z3
 unfold setAddHashed setAddHashedIn
 refine F1 (E8 (wpAny_setState_of ho hd g.fits ?_))
 dsimp only
 rw[byScan_of (knd:=Z1B) rfl hb L]
 simp only[↓reduceIte]
 unfold setAddByScan
 refine E8 (E8 (GZ (E8 (wpAny_setScan_of (knd:=Z1B) U ho hd g.fits L ?_))))
 cases hr:List.findIdx? (λ e=>(intKind P w).is k e.2) es.toList with
 | some j=>
  obtain⟨hj,a8,_⟩:=List.findIdx?_eq_some_iff_getElem.mp hr
  have a6:k∈ks:=by rw[<- O];exact(tV L k).mp ⟨_,Kh hj,a8⟩
  refine ZVa
  exact h false s.heap ks (Heap.SameBut.refl a s.heap) S (λ y=>⟨.inl,λ z=>z.elim id λ e=>e ▸ a6⟩) ZEd
 | none=>
  have a4:k∉ks:=λ z=>by
   rw[<- O] at z
   obtain⟨e,he,q⟩:=(tV L k).mpr z
   have:=List.findIdx?_eq_none_iff.mp hr e he
   rw[q] at this
   cases this
  obtain⟨F,t1,eL,M,J,m1,p1,l1⟩:=sh g ZFy ZB9
  rw[eL]
  dsimp only
  have ae:F.size=es.size+1:=by rw[<- Fs,M.length_eq,Fh,Fs];rfl
  have a3:ElemsOf Z1B F.toList:=(L.push (k:=k) U rfl).perm M
  have a9:(F.toList.map ke).Perm (ks++[k]):=by
   have:=M.map ke
   rw[FF,O] at this
   exact this
  have ab:(ks++[k]).Nodup:=by
   rw[GC]
   refine⟨nd,Zq,λ x hx y hy=>?_⟩
   rw[Fd] at hy
   subst hy
   intro z
   exact a4 (z ▸ hx)
  refine Z7E
  rw[p1]
  simp only[↓reduceIte]
  rw[hashByValue_scannable 8 (show (ZLD).scannable=true from rfl)]
  refine Z7E
  simp only[plainKind,↓reduceIte]
  refine E8 (J7 ho hd ?_ ZSb)
  obtain⟨Z,a5⟩:=stored (es':=F) (t':=t1) ho Y hd
  have a2:∀ (G:Array (Int×Value)) (W:Nat) (V:SetTable) (h2:Heap),h2.get? a=some { o with data:=.set G W V }->Heap.SameBut a s.heap h2->G.toList.Perm F.toList->Good V G.size->V.led=t.led->Q true { s with heap:=h2 }:=by
   intro G W V h2 e2 sb p2 g2 l2
   have kp:(ZLU).Perm (ks++[k]):=(p2.map ke).trans a9
   refine h true h2 ZLU sb ⟨_,G,W,V,e2,Y,rfl,a3.perm p2,rfl,kp.nodup_iff.mpr ab,g2,?_,?_⟩ Z8C ?_
   ·rw[<- Fs,p2.length_eq,Fs,ae];lia
   ·rw[l2];exact aa
   ·rw[kp.mem_iff,Fm,Fd]
   ·rw[kp.length_eq,Fh];exact Z9
  by_cases R:t1.tooFull=true
  ·rw[R]
   simp only[IQ,Bool.and_self,↓reduceIte]
   have hg:grown F.size=F.size*4:=by unfold grown;rw[ZBI]
   obtain⟨G,V,eR,p2,g2,l2⟩:=oJ (t:=t1) (es:=F) (wanted:=grown F.size) (by rw[hg];lia) (by rw[hg];lia) p1 Z2
   rw[eR]
   dsimp only
   refine E8 (Fb (E8 (J7 Z rfl ?_ (eA ?_))))
   ·obtain⟨a7,ad⟩:=stored (es':=G) (t':=V) Z Y rfl
    exact Fb (Fb (a2 G _ V _ a7 (a5.trans ad) p2 g2 (l2.trans l1)))
   ·rw[<- Fs,p2.length_eq,Fs];lia
  ·have I:t1.tooFull=false:=by simpa using R
   rw[I]
   simp only[IQ,KA,Fx,↓reduceIte]
   refine Fb (Fb (a2 F _ t1 _ Z a5 Z5E ⟨J,by rw[m1];exact g.pow,p1,?_⟩ l1))
   unfold tooFull fill at I
   rw[J.size,J.clean] at I
   simpa using I
end
section
variable {P:Program}{w:World}{A:Around}{E:Value->Shared->Prop}{s:Shared}{a:Addr}{ks:List Int}
theorem dg.at' (S:Z2W) (e:∀ o,h.get? a=some o->h'.get? a=some o):dg P w h' a ks:=by
 obtain⟨o,es,j,t,q,r⟩:=S
 exact⟨o,es,j,t,e o q,r⟩
theorem dg.lt (S:Z2W):a<h.objs.size:=by
 obtain⟨o,es,q,t,j,r⟩:=S
 exact ZMi
theorem zj {R:Result->Shared->Prop}{I:Addr}{fp Z:Z09}{G:Array GenState->Array GenState->Prop}{n:Nat}{Y:Nat->Value->Prop}{St:Nat->Shared->Prop}
  (W:WalksS P w A.in1 I fp Z G n Y St) (F:a∉fp) (val:Nat->Int) (O:∀ i v,Y i v->∃ t,v=.int ZSS t) :
  ∀ (k i:Nat) (s:Shared) (ks:List Int),i+k=n->St i s->dg P w s.heap a ks->ks.length+k<=63 ->
   (∀ s' M,Moved (a::Z) G s s'->dg P w s'.heap a M->(∀ y,y∈M↔y∈ks\/∃ j,i<=j/\j<n/\val j=y)->M.length<=ks.length+k->R ZW7 s') ->
   codeAny Zh A (.builtin "set.update.loop" ⟨[ZY,ZGT],[]⟩) R s:=by
 have V:a∉Z:=λ z=>F (W.sub _ z)
 have J:∀ b∈Z,b∈a::Z:=λ b z=>ZQR
 intro k
 induction k with
 | zero=>
  intro i s ks hk st S a1 L
  rw[Ji] at hk
  subst hk
  refine Z75
  rw[ZDd]
  unfold Builtin.«set.update.loop»
  refine E8 (W.done s _ _ st λ s' U=>Z5t)
  refine L s' ks ZWq ZB5 (λ y=>⟨.inl,?_⟩) Z9
  rintro(z|⟨j,h1,h2,_⟩)
  ·exact z
  ·lia
 | succ k ih=>
  intro i s ks hk st S a1 L
  refine Z75
  rw[ZDd]
  unfold Builtin.«set.update.loop»
  refine E8 (W.item i s _ _ Z2 st λ v s1 hv a5 U=>?_)
  obtain⟨a6,rfl⟩:=O i v hv
  refine E8 (F1 (F1 (E8 ((Z1B).pyHash (k:=val i) (intKind_is _ _ _ _) ?_))))
  refine wj (s:={ s1 with toks:=s1.toks+1 }) ZB5 Z2 λ b h2 a2 sb S2 m2 l2=>?_
  refine Fb ⟨GA Ir _,ih (i+1) _ a2 Z2 (W.frame _ s1 h2 _ a5 ZEd λ b hb o e=>?_) S2 Z2 λ s3 a3 a4 S3 m3 l3=>?_⟩
  ·rw[sb.2 b λ z=>F (z ▸ hb)];exact e
  ·refine L s3 a3 (Moved.trans W.gtrans ((ZWq).then_heap ZEd λ b o hb e=>?_) a4) S3 Z8C Z2
   ·rw[sb.2 b λ z=>hb (z ▸ Fn)];exact e
   ·rw[m3,m2]
    constructor
    ·rintro((z|z)|⟨j,h1,h2,e⟩)
     ·exact ZB1
     ·exact .inr ⟨i,Z9,Z2,z.symm⟩
     ·exact ZHE
    ·rintro(z|⟨j,h1,h2,e⟩)
     ·exact .inl ZB1
     ·by_cases q:j=i
      ·subst q;exact .inl (.inr e.symm)
      ·exact ZHE
theorem lI {Q:Value->Shared->Prop}
  (h:∀ led:Bool,(w.params.followText "set-order" = true\/led=true)->Q ZI { s with heap:=s.heap.push { cls:=Z1F,dict:=none,data:=.set #[] 0 Z24 } }) :
  wpAny Zh A (newSet Z1F) Q E s:=by
 unfold newSet setsByText
 refine E8 Z4a
 refine Hq Zm
 dsimp only
 unfold newObj
 refine E8 (wpAny_alloc (Fb ZQA))
 show w.params.followText "set-order" = true\/(!w.params.followText "set-order")=true
 cases w.params.followText "set-order" <;> simp
theorem vA (x:Value) {Q:Value->Shared->Prop}
  (h:∀ led:Bool,(w.params.followText "set-order" = true\/led=true)->Q ZI { s with heap:=s.heap.push { cls:=Z1F,dict:=none,data:=.set #[] 0 Z24 } }) :
  codeAny Zh A (.call (.builtin "set.__new__") ⟨[Z1F,x],[]⟩) (wants Q E) s:=by
 refine ZI_
 show wpAny _ A.in1 (checkBuiltinCall _ _ >>= λ _=>again _) _ _ s
 refine E8 (GD (F.newCall_set_1 x) (Fb ⟨GA F.plain_set_new _,Gn F.entry_set_new ?_⟩))
 rw[Around.under_plainId F.plain_set_new _]
 unfold Builtin.«set.__new__» Builtin.Frozenset.newClass
 have j:=J8
 generalize q:newSet=N
 obtain⟨G,g,d,tk,I⟩:=s
 dsimp only
 wp_walk
 subst q
 exact lI λ led z=>Fb (h led z)
theorem nW {h:Heap}{a:Addr}{led:Bool}(e:h.get? a=some { cls:=Z1F,dict:=none,data:=.set #[] 0 Z24 }) (q:w.params.followText "set-order" = true\/led=true):dg P w h a []:=by
 refine⟨_,#[],0,_,e,?_,rfl,?_,rfl,Kz,p9 0 0 led,ZH9,q⟩
 ·exact ZAI
 ·intro e j;cases j
theorem p5 {l:Addr}{items:Z95}{ns:ZU}{led:Bool}{R:Result->Shared->Prop}
  (hh:A.handled=none) (hl:ZFs) (hi:Z8d) (a4:items.size<=63) (U:a≠l)
  (ha:s.heap.get? a=some { cls:=Z1F,dict:=none,data:=.set #[] 0 Z24 }) (J:w.params.followText "set-order" = true\/led=true)
  (h:∀ (h':Heap) (tk:Nat) ks,dg P w h' a ks->(∀ y,y∈ks↔y∈ns) ->
   (∀ b o,b≠a->s.heap.get? b=some o->h'.get? b=some o)->R ZW7 { s with heap:=h',toks:=tk }) :
  codeAny Zh A (.builtin "set.__init__" ⟨[ZY,Z8g],[]⟩) R s:=by
 refine Gn F.entry_set_init ?_
 rw[Around.under_plainId F.called_set.init.plain _]
 have S:dg P w s.heap a []:=nW ha J
 have I:=hl
 obtain⟨ol,V,q,nl,G⟩:=hl
 obtain⟨a3,Z,Y,M⟩:=ol
 simp only at q G
 subst q;subst G
 have u1:=F.sub_list_set
 have u2:=F.sub_list_frozenset
 have u3:(Value.type "list" == Value.type "dict")=false:=Z3
 unfold Builtin.«set.__init__» noKeywords Builtin.Frozenset.updateFrom
 generalize O:pyIter=PI
 wp_walk
 subst O
 refine Jq I ?_
 refine E8 (Ks ?_)
 have q3:A.in1.in1.handled=none:=by simp[hh]
 have la:a<s.heap.objs.size:=Heap.lt_size ha
 have ll:l<s.heap.objs.size:=Heap.lt_size V
 refine zj (a:=a) ((Walks.list q3 s.heap.objs.size l (Fu ll) items).toS) (by simp only[Fi,Ft,F8,IW];exact⟨Fu la,U⟩)
  ZSO (λ i v hv=>PyProof.Rows.IntsAre.int_at hi i v (by rw[F2];exact hv)) items.size 0 _ [] (GR _)
  ⟨Z2i,I.push _⟩ (S.at' λ o e=>ZG) (by rw[Ko];lia) ?_
 intro s' W L S' m' _
 obtain⟨h',g',d',a2,a1⟩:=s'
 obtain rfl:g'=s.gens:=L.gens
 obtain rfl:d'=s.drawn:=L.drawn
 obtain rfl:a1=s.os:=L.os
 refine ZVa
 refine h h' a2 W S' Z8C λ b o hb e=>L.heap b o ?_ ZG
 ·have a5:items.size=ns.length:=by rw[<- Fs];exact PyProof.Rows.IntsAre.length hi
  rw[m']
  constructor
  ·rintro(z|⟨j,_,h2,e⟩)
   ·cases z
   ·rw[<- e]
    show ns.getD j 0∈ns
    rw[Hx,E9 Z2];exact Kh _
  ·intro z
   obtain⟨j,hj,e⟩:=ZVd
   exact .inr ⟨j,ZH9,Z2,by show ns.getD j 0=y;rw[Hx,ZJg];exact e⟩
 ·simp only[Fi,Ft,F8,IW]
  exact⟨hb,Fu ZK⟩
set_option maxHeartbeats 3200000 in
theorem pV {l:Addr}{items:Z95}{ns:ZU}{Q:Value->Shared->Prop}
  (hh:A.handled=none) (hl:ZFs) (hi:Z8d) (few:items.size<=63)
  (h:∀ (h':Heap) (tk:Nat) ks,dg P w h' s.heap.objs.size ks->(∀ y,y∈ks↔y∈ns) ->
   (∀ b o,s.heap.get? b=some o->h'.get? b=some o)->Q ZI { s with heap:=h',toks:=tk }) :
  wpAny Zh A (call Z1F [Z8g]) Q E s:=by
 obtain⟨c,tl,hmro⟩:=F.called_set.mro
 have u1:=F.called_set.made
 have u2:=F.called_set.sub
 have u3:=F.called_set.notType
 have u4:=F.called_set.canCreate
 have u5:=F.typeCall_set_1 Zv
 refine IV ZI_
 show wpAny _ _ (callAny Z1F _) _ _ _
 refine Fb ⟨ZF0,Gn F.entry_type_call ?_⟩
 rw[Around.under_plain (weight_type_call_type "set" [Z8g] []) rfl]
 repeat (any_goals (first|assumption|wp_step))
 refine Jh (vA Zv (E:=E) (Q:=λ v s1=>∃ led:Bool,(w.params.followText "set-order" = true\/led=true)/\v=.ref s.heap.objs.size/\s1={ s with heap:=s.heap.push { cls:=Z1F,dict:=none,data:=.set #[] 0 Z24 } }) λ led q=>⟨led,q,rfl,rfl⟩) λ r s1 hr=>?_
 match r,hr with
 | .error e,hr=>exact hr
 | .ok (.ret v),hr=>
  obtain⟨led,q,rfl,rfl⟩:=hr
  have new:(s.heap.push { cls:=Z1F,dict:=none,data:=.set #[] 0 Z24 }).get? s.heap.objs.size=some { cls:=Z1F,dict:=none,data:=.set #[] 0 Z24 }:=ZH
  have ty:Shared.TypeIs { s with heap:=s.heap.push { cls:=Z1F,dict:=none,data:=.set #[] 0 Z24 } } ZI "set":=⟨_,new,rfl⟩
  have u6:=F.called_set.init.lookup
  have u7:=F.called_set.init.bind ZI
  repeat (any_goals (first|assumption|wp_step))
  refine codeAny_call_builtin_code (GA F.called_set.init.plain _) (check_set_init_1 ty ?_)
  refine p5 (a:=s.heap.objs.size) (items:=items) (ns:=ns) (led:=led) (by simp[hh]) (hl.push _) hi few (Gp ?_) new q λ h' tk ks S m keep=>?_
  ·obtain⟨ol,hol,_⟩:=hl;exact Heap.lt_size hol
  ·refine Fb (Fb (h h' tk ks S m λ b o e=>keep b o ZAg ZG))
end
theorem lZ (next:Nat->Nat):∀ (n k:Nat) (l:List α) (out:Array α),n=l.length->(pickOrder.go next n k l out).toList.Perm (out.toList++l)
 | 0,k,l,out,h=>by
  have:l=[]:=GO h.symm
  subst this
  unfold pickOrder.go;simp
 | n+1,k,l,out,h=>by
  have j:next k%l.length<l.length:=ZLQ
  unfold pickOrder.go
  rw[E9 j]
  dsimp only
  refine(lZ next n (k+1) _ _ (by rw[List.length_eraseIdx];simp[j];lia)).trans ?_
  rw[HJ,Gd]
  refine IU _ ?_
  rw[List.eraseIdx_eq_take_drop_succ]
  have e:l=l.take (next k%l.length)++l[next k%l.length]::l.drop (next k%l.length+1):=by
   rw[<- Io j,G8]
  refine List.Perm.trans ?_ (List.Perm.of_eq e.symm)
  rw[List.singleton_append]
  exact List.perm_middle.symm
theorem gx (next:Nat->Nat) (xs:Array α):(pickOrder next xs).toList.Perm xs.toList:=by
 unfold pickOrder
 simpa using lZ next xs.size 0 xs.toList #[] (by simp)
section
variable {P:Program}{w:World}{A:Around}{E:Value->Shared->Prop}{s:Shared}{a b:Addr}{ks:List Int}
def dv (P:Program) (w:World) (h:Heap) (a:Addr) (ks:ZU) (es:Array (Int×Value)) (ep:Nat) (t:SetTable):Prop:=
 ∃ o,h.get? a=some o/\o.ExactSet/\o.data=.set es ep t/\ElemsOf Z1B es.toList/\es.toList.map ke=ks/\ks.Nodup/\Good t es.size/\es.size<=63/\(w.params.followText "set-order" = true\/t.led=true)
theorem dg.tab (S:Z2W):∃ es ep t,Z2v:=by
 obtain⟨o,es,ep,t,r⟩:=S;exact⟨es,ep,t,o,r⟩
theorem dv.nM (S:Z2v):Z2W:=by
 obtain⟨o,r⟩:=S;exact⟨o,es,ep,t,r⟩
theorem dv.size (S:Z2v):es.size=ks.length:=by
 obtain⟨o,_,_,_,_,e,_⟩:=S;rw[<- e,Fe,Fs]
theorem dv.good (S:Z2v):ZMj:=by
 obtain⟨o,_,_,_,_,_,_,g,_⟩:=S;exact g
theorem dv.at' (S:Z2v) (e:∀ o,h.get? a=some o->h'.get? a=some o):dv P w h' a ks es ep t:=by
 obtain⟨o,j,r⟩:=S
 exact⟨o,e o j,r⟩
theorem dv.state (S:Zx) (h:Q (es,ep,t) s):wpAny Zh A (setState a) Q E s:=by
 obtain⟨o,q,_,j,_,_,_,g,_⟩:=S
 exact wpAny_setState_of q j g.fits h
theorem dv.store (S:Zx)
  (z:ElemsOf Z1B es2.toList) (J:(ZJO).Nodup) (g:Good t2 es2.size) (q:es2.size<=63) (led:w.params.followText "set-order" = true\/t2.led=true)
  (h:∀ h' ,Heap.SameBut a s.heap h'->dv P w h' a ZJO es2 (ep+1) t2->Q () { s with heap:=h' }) :
  wpAny Zh A (storeSet a es2 t2) Q E s:=by
 obtain⟨o,I,j,G,_⟩:=S
 refine J7 I G ?_ ZSb
 obtain⟨F,L⟩:=stored (es':=es2) (t':=t2) I j G
 exact h _ L ⟨_,F,j,rfl,z,rfl,J,g,q,led⟩
theorem wg (S:Zx) (R:wanted<256) (hn:ks.length*2<=wanted) (h0:0<wanted)
  (h:∀ h' F es' I t',Heap.SameBut a s.heap h'->dv P w h' a F es' I t'->F.Perm ks->wanted<=t'.mask->Q () { s with heap:=h' }) :
  wpAny Zh A (setRelay a wanted) Q E s:=by
 have sz:=S.size
 unfold setRelay
 refine Z31
 dsimp only
 obtain⟨o,ho,W,hd,L,M,Z,g,J,O⟩:=ZUj
 obtain⟨t',j,e,r,pw,pl,l,Y,hm,p⟩:=lL (t:=t) (es:=es) R Z2 g.plain
 have G:¬ (sizeAbove wanted>sizeLine):=by
  have h1:=(iL R).1.pos.2
  have h2:256<=sizeLine:=Z3
  lia
 rw[Fj G]
 have q:=uI p
 have z:(j.filterMap (es[·]?)).size=es.size:=by rw[<- Fs,q.length_eq,Fs]
 rw[e]
 have U:((j.filterMap (es[·]?)).toList.map ke).Perm ks:=by have:=ZWX;rwa [M] at this
 refine E8 (GD (a:=(j.filterMap (es[·]?),t')) ?_ ?_)
 ·show (if ((j.filterMap (es[·]?)).size != es.size)=true then (unsupported "internal:set-table-lost-an-element" >>= λ _=>pure (j.filterMap (es[·]?),t')) else pure (j.filterMap (es[·]?),t'):Sem _)=_
  rw[z]
  simp
 ·dsimp only
  refine S.store (L.perm q) (U.nodup_iff.mpr Z) ⟨by rw[z];exact r,pw,pl,by rw[z];lia⟩ (by rw[z];exact J) (by rw[l];exact O) λ h' sb V=>?_
  exact h h' _ _ _ _ sb V U Y
theorem wR (S:Z4F) (L:ks.length+more<=126) (h0:0<more)
  (h:∀ h' j es' q t',Heap.SameBut a s.heap h'->dv P w h' a j es' q t'->j.Perm ks->(ks.length+more)*5<t'.mask*3->Q () { s with heap:=h' }) :
  wpAny Zh A (setRoomFor a more) Q E s:=by
 obtain⟨es,G,t,S⟩:=S.tab
 have z:=S.size
 have g:=S.good
 have I:t.fill=ks.length:=by unfold fill;rw[g.rise.size,g.rise.clean,z];rfl
 unfold setRoomFor
 refine Z31
 dsimp only
 unfold roomFor
 rw[I,g.rise.size,z]
 by_cases c:(ks.length+more)*5 >= t.mask*3
 ·rw[Fl c]
  dsimp only
  exact wg S Z2 Z2 Z2 λ h' j es' q t' J F p M=>h h' j es' q t' J F p Z2
 ·rw[Fj c]
  dsimp only
  exact Fb (h s.heap ks es G t Z6y S Z5E Z2)
theorem xH (S:Zx)
  (h:∀ xs:Array (Int×Value),xs.toList.Perm es.toList->Q xs s):ZBV:=by
 obtain⟨o,M,G,L,F,I,O,g,z,j⟩:=ZUj
 unfold setWalk setsByText
 refine Z31
 dsimp only
 refine Z7n
 dsimp only
 split
 ·exact E8 (Hq (Fb (h _ (gx _ _))))
 ·next c=>
  have J:t.led=true:=j.resolve_left c
  split
  ·next d=>
   have q:(!t.plain && decide (es.size>1))=true:=d
   rw[g.plain] at q
   cases q
  ·refine E8 (GD (a:=()) ?_ (Fb (h es Z5E)))
   show (if (!t.led && decide (es.size>1))=true then unsupported "set:maker-not-led" else pure ():ZNy)=_
   rw[J]
   rfl
theorem tN (S:Zx)
  (h:∀ xs:Array (Int×Value),xs.toList.Perm es.toList->Q xs s):wpAny Zh A (setWalkUnseen a others f) Q E s:=by
 obtain⟨o,L,G,J,F,I,M,g,z,j⟩:=ZUj
 unfold setWalkUnseen setsByText
 refine Z31
 dsimp only
 refine Z7n
 dsimp only
 split
 ·exact xH S h
 ·next c=>
  exfalso
  apply c
  have q:((ZKt).w.params.followText "set-order" || (t.led && t.plain))=true:=by
   rw[g.plain,Bool.and_true,Kq];exact j
  rw[q];rfl
theorem ph {kb U:ZU}{eb:Array (Int×Value)}{epb:Nat}{tb:SetTable}{each:ZNy}{Q:Unit->Shared->Prop}(ne:a≠b) (Sa:Z4F) (Sb:dv P w s.heap b kb eb epb tb)
  (few:U.length<=62) (sub1:∀ y∈ks,y∈U) (sub2:∀ y∈kb,y∈U)
  (heach:∀ h' (Q:Unit->Shared->Prop),dv P w h' b kb eb epb tb->Q () { s with heap:=h' }->wpAny Zh A each Q E { s with heap:=h' })
  (h:∀ h' ks',Heap.SameBut a s.heap h'->dg P w h' a ks'->(∀ y,y∈ks'↔y∈ks\/y∈kb)->Q () { s with heap:=h' }) :
  wpAny Zh A (setMerge a b each) Q E s:=by
 have szb:=Sb.size
 obtain⟨ob,hob,hexb,hdb,helb,hkb,ndb,gb,fewb,ledb⟩:=id Sb
 have l1:ks.length<=62:=FC (IY Sa.nodup sub1) few
 have l2:kb.length<=62:=FC (IY ndb sub2) few
 unfold setMerge
 rw[Fj (show ¬ ((a == b)=true) by simpa using ne)]
 refine E8 (Sb.state ?_)
 dsimp only
 by_cases em:eb.isEmpty=true
 ·rw[Fl em]
  have:kb=[]:=GO (by rw[<- szb];simpa [Array.isEmpty] using em)
  exact Fb (h s.heap ks Z6y Sa λ y=>by rw[this];simp)
 ·rw[Fj em]
  have pos:0<eb.size:=by
   rcases Nat.eq_zero_or_pos eb.size with z|z
   ·exact absurd (by simp[Array.isEmpty,z]) em
   ·exact z
  refine E8 (wR Sa Z2 pos λ h1 ks1 es1 ep1 t1 sb1 S1 p1 sl=>?_)
  have Sb1:dv P w h1 b kb eb epb tb:=Sb.at' λ o e=>by rw[sb1.2 b Z67];exact e
  refine E8 (S1.state ?_)
  dsimp only
  have sz1:=S1.size
  have g1:=S1.good
  have hf:t1.fill=ks1.length:=by unfold fill;rw[g1.rise.size,g1.rise.clean,sz1];rfl
  obtain⟨o1,ho1,hex1,hd1,hel1,hks1,nd1,_,few1,led1⟩:=id S1
  have ledm:w.params.followText "set-order" = true\/(t1.led && tb.led)=true:=by
   rcases led1 with z|z
   ·exact ZB1
   rcases ledb with y|y
   ·exact .inl y
   ·exact .inr (by rw[z,y];rfl)
  have plm:(t1.plain && tb.plain)=true:=by rw[g1.plain,gb.plain];rfl
  have none1:t1.fill=0->∀ y,y∈kb↔y∈ks\/y∈kb:=λ z y=>by
   have:ks1=[]:=GO (by rw[<- hf];exact z)
   have:ks=[]:=by rw[this] at p1;exact p1.symm.eq_nil
   rw[this];simp
  unfold road
  by_cases f0:t1.fill=0
  ·rw[f0]
   simp only[IK,Fx,↓reduceIte]
   by_cases same:(t1.mask == tb.mask && tb.dummies.isEmpty)=true
   ·rw[Fl same]
    dsimp only
    refine S1.store helb (by rw[hkb];exact ndb) ⟨⟨gb.rise.size,gb.rise.up,gb.rise.clean,gb.rise.few⟩,gb.pow,plm,gb.slack⟩ fewb ledm λ h2 sb2 S2=>?_
    rw[hkb] at S2
    exact h h2 kb ZLn S2.nM (none1 f0)
   ·rw[Fj same]
    dsimp only
    have sl':eb.size*5<t1.mask*3:=Z2
    obtain⟨t',order,e,r,m,l,pl,p⟩:=rG (mask:=t1.mask) (finger:=t1.finger) (moves:=t1.moves) (led:=t1.led && tb.led) (plain:=t1.plain && tb.plain) g1.pow (hs:=eb.map (·.1)) (by rw[HS];lia)
    rw[HS] at r p
    rw[e]
    have q:=uI p
    have sz2:(order.filterMap (eb[·]?)).size=eb.size:=by rw[<- Fs,q.length_eq,Fs]
    have kp:((order.filterMap (eb[·]?)).toList.map ke).Perm kb:=by have:=ZWX;rwa [hkb] at this
    refine E8 (GD (a:=(order.filterMap (eb[·]?),t')) ?_ ?_)
    ·show (if ((order.filterMap (eb[·]?)).size != eb.size)=true then (unsupported "internal:set-table-lost-an-element" >>= λ _=>pure (order.filterMap (eb[·]?),t')) else pure (order.filterMap (eb[·]?),t'):Sem _)=_
     rw[sz2]
     simp
    ·dsimp only
     refine S1.store (helb.perm q) (kp.nodup_iff.mpr ndb) ⟨by rw[sz2];exact r,by rw[m];exact g1.pow,by rw[pl];exact plm,by rw[sz2,m];exact sl'⟩ (by rw[sz2];exact fewb) (by rw[l];exact ledm) λ h2 sb2 S2=>?_
     exact h h2 _ ZLn S2.nM λ y=>by rw[kp.mem_iff];exact none1 f0 y
  ·rw[Fl (by simpa using f0)]
   dsimp only
   refine E8 (tN Sb1 λ xs px=>?_)
   have helx:ElemsOf Z1B xs.toList:=helb.perm px
   have memx:∀ y,y∈xs.toList.map ke↔y∈kb:=λ y=>by rw[<- hkb];exact(px.map ke).mem_iff
   refine E8 (MeetsSeq2.wpAny_forIn_array _ (λ rest _ s'=>∃ h2 ks2,s'={ s with heap:=h2 }/\Heap.SameBut a s.heap h2/\dg P w h2 a ks2/\(∀ y∈ks2,y∈ks\/y∈kb)/\(∀ y∈ks,y∈ks2)/\(∀ y∈kb,y∈ks2\/y∈rest.map ke)/\ElemsOf Z1B rest/\∀ y∈rest.map ke,y∈kb) _ ?_ ?_ xs _ ⟨h1,ks1,rfl,sb1,S1.nM,λ y z=>.inl (p1.mem_iff.mp z),λ y z=>p1.mem_iff.mpr z,λ y z=>.inr ((memx y).mpr z),helx,λ y z=>(memx y).mp z⟩)
   ·rintro⟨hx,x⟩ rest _ s' ⟨h2,ks2,rfl,sb2,S2,m1,m2,m3,er,mr⟩
    obtain⟨⟨k,hk,hh⟩,_⟩:=er (hx,x) Fn
    obtain⟨tok,q⟩:=Value.isInt_shape (show Value.isInt k x=true from hk)
    have hh':hx=hashInt k:=hh
    subst q;subst hh'
    have kk:ke (ZFy,ZLD)=k:=rfl
    have kin:k∈kb:=mr k (by rw[FL,kk];exact Fn)
    have lk:ks2.length<=62:=FC (IY S2.nodup λ y z=>(m1 y z).elim (sub1 y) (sub2 y)) few
    refine E8 (F1 (wj S2 lk λ _ h3 ks3 sb3 S3 m _=>?_))
    have Sb3:dv P w h3 b kb eb epb tb:=Sb.at' λ o e=>by rw[sb3.2 b Z67,sb2.2 b Z67];exact e
    refine E8 (heach h3 _ Sb3 (E8 (Sb3.state ?_)))
    dsimp only
    rw[ZAU]
    refine Fb ⟨h3,ks3,rfl,sb2.trans sb3,S3,λ y z=>?_,λ y z=>(m y).mpr (.inl (m2 y z)),λ y z=>?_,λ e he=>er e (Fo _ he),λ y z=>mr y (by rw[FL];exact ZQR)⟩
    ·rcases (m y).mp z with z|rfl
     ·exact m1 y z
     ·exact .inr kin
    ·rcases m3 y z with z|z
     ·exact .inl ((m y).mpr ZB1)
     ·rw[FL,kk] at z
      rcases Fi.mp z with rfl|z
      ·exact .inl ((m y).mpr Z9s)
      ·exact ZIs
   ·rintro _ s' ⟨h2,ks2,rfl,sb2,S2,m1,m2,m3,_,_⟩
    refine Fb (h h2 ks2 sb2 S2 λ y=>⟨m1 y,λ z=>z.elim (m2 y) λ z=>(m3 y z).elim id λ z=>by cases z⟩)
end
section
variable {P:Program}{w:World}{A:Around}{E:Value->Shared->Prop}{s:Shared}{a b:Addr}{ks:List Int}
theorem dg.typeIs (S:Z4F):Z6P:=by
 obtain⟨o,es,z,t,q,j,r⟩:=S
 exact⟨o,q,j.1⟩
theorem uS:entryFor table "set.__or__" = some Builtin.«frozenset.__or__» :=
 Kx (id':="frozenset.__or__") (by kernel_rfl) rfl ZF (by kernel_rfl)
theorem jk (T:Z6P) (h:Q true s):wpAny Zh A (Builtin.Frozenset.isAnySet ZY) Q E s:=by
 unfold Builtin.Frozenset.isAnySet orM
 refine ZLa
 exact Fb h
theorem xc (T:Z6P) (h:Q Z1F s):wpAny Zh A (Builtin.Frozenset.baseOf a) Q E s:=by
 unfold Builtin.Frozenset.baseOf
 refine ZLa
 exact Fb h
theorem kz (S:Zx) (h:Q ep s):wpAny Zh A (setEpoch a) Q E s:=by
 unfold setEpoch
 exact E8 (S.state ZW4)
theorem B0 {V R U:ZU}{Q:Value->Shared->Prop}(G:dg P w s.heap a V) (I:dg P w s.heap b R) (ne:a≠b)
  (L:U.length<=62) (q:∀ y∈V,y∈U) (O:∀ y∈R,y∈U)
  (h:∀ h' M,dg P w h' s.heap.objs.size M->(∀ y,y∈M↔y∈V\/y∈R)->(∀ c o,s.heap.get? c=some o->h'.get? c=some o)->Q ZI { s with heap:=h' }) :
  wpAny Zh A (binaryOp .BitOr ZY Za) Q E s:=by
 refine wpAny_binaryOp_same G.typeIs I.typeIs F.fills_set_or F.slot_set_or (Gj F.slot_set_or G.typeIs uS ?_ (F.args_set_or_2 _ _))
 show wpAny _ A.in1 (Builtin.Frozenset.slot1 "__or__" _ >>= _) _ _ _
 refine Z4a
 unfold Builtin.Frozenset.slot1
 refine E8 (GD (a:=(ZY,[Za])) rfl Zm)
 dsimp only
 simp only[Fx,↓reduceIte]
 unfold andM
 refine E8 (E8 (jk G.typeIs (jk I.typeIs ?_)))
 simp only[Ho,Fx,↓reduceIte]
 refine ZS7
 show wpAny _ A.in1 (Builtin.Frozenset.copyOf a >>= _) _ _ _
 refine Z4a
 unfold Builtin.Frozenset.copyOf
 refine E8 (xc G.typeIs (E8 (lI λ W hl=>?_)))
 refine Z7E
 have na:a≠s.heap.objs.size:=Fu G.lt
 have nb:b≠s.heap.objs.size:=Fu I.lt
 obtain⟨ea,a3,ta,Ta⟩:=G.tab
 obtain⟨eb,S,tb,Tb⟩:=I.tab
 have Z:dg P w (s.heap.push { cls:=Z1F,dict:=none,data:=.set #[] 0 (.fresh 0 0 W) }) s.heap.objs.size []:=nW ZH hl
 refine E8 (ph ZQy Z (Ta.at' λ o e=>ZG) L (λ y z=>by cases z) q (λ h' Q _ z=>Fb z) λ h1 k1 a1 S1 m1=>?_)
 refine Z5t
 dsimp only
 have Y:(Value.ref b != Value.ref a)=true:=by simpa using Ne.symm ne
 rw[Fl Y]
 have j:∀ c o,s.heap.get? c=some o->h1.get? c=some o:=λ c o e=>by
  rw[a1.2 c ZAg];exact ZG
 refine E8 (Fb ZAV)
 unfold Builtin.Frozenset.updateFrom
 refine E8 (jk (I.at' (j b)).typeIs ?_)
 simp only[↓reduceIte]
 refine Z7E
 unfold Builtin.Frozenset.merge
 have J:dv P w h1 b R eb S tb:=Tb.at' (j b)
 refine E8 (kz J ?_)
 refine ph (s:={ s with heap:=h1 }) (Ne.symm nb) S1 J L (λ y z=>(m1 y).mp z |>.elim (λ z=>by cases z) (q y)) O (λ h' Q T z=>?_) λ h2 k2 a2 S2 m2=>?_
 ·unfold Builtin.Frozenset.unchanged
  refine E8 (kz T ?_)
  rw[ZAU]
  exact Fb z
 ·refine Fb (Fb ⟨_,rfl,Zq,h h2 k2 S2 Z8C λ c o e=>?_⟩)
  ·rw[m2,m1];simp
  ·rw[a2.2 c ZAg];exact j c o e
end
theorem gU:Slot "set_iterator" "__next__" "set_iterator.__next__" :=
 .of (owner:="set_iterator") (n:="__next__") (by rw[typeLookup_type,builtinLookup_eq_fast];kernel_rfl) ZF ZF ZF
  (by first|exact .inl (ZF)|exact .inr ZF) (by rw[Ku];kernel_rfl)
theorem pf:entryFor table "set_iterator.__next__" = some Builtin.«set_iterator.__next__»:=entryFor_of_fast (by kernel_rfl)
theorem qW (a):argsOk "set_iterator.__next__" ZPo:=by unfold argsOk;kernel_rfl
theorem vS:entryFor table "set.__iter__" = some Builtin.«frozenset.__iter__» :=
 Kx (id':="frozenset.__iter__") (by kernel_rfl) rfl ZF (by kernel_rfl)
theorem p6 (h:xs.toList.Pairwise (· < ·)) (e:xs[i]? = some j):below xs (j+1)=i+1:=by
 obtain⟨L,F,G⟩:=fK h (j+1)
 have hi:=ZIK
 have h1:¬ below xs (j+1)<=i:=λ z=>by have:=G i j z e;lia
 have h2:¬ i+1<below xs (j+1):=λ z=>by
  have q:i+1<xs.size:=Z2
  have J:xs[i+1]? = some xs[i+1]:=FO q
  have M:=F (i+1) _ z J
  have I:xs[i]=j:=(HA.mp e).2
  have:=HE.mp h i (i+1) (by simpa using hi) (by simpa using q) (HP _)
  rw[Array.getElem_toList,Array.getElem_toList,I] at this
  lia
 lia
theorem pH (h:xs.toList.Pairwise (· < ·)):below xs 0=0:=by
 obtain⟨q,j,F⟩:=fK h 0
 rcases Nat.eq_zero_or_pos (below xs 0) with z|z
 ·exact z
 ·have:0<xs.size:=Z2
  have:=j 0 _ z (FO this)
  lia
noncomputable def bV (w:World) (a:Addr) (ep:Nat) (es:Array (Int×Value)):Array (Int×Value):=if w.params.followText "set-order" = true then pickOrder (w.params.setOrder a ep) es else es
theorem gu (w) (a) (ep) (es:Array (Int×Value)):(Z1S).toList.Perm es.toList:=by
 unfold bV
 split
 ·exact gx _ _
 ·exact Z5E
theorem eE (w) (a) (ep) (es:Array (Int×Value)):(Z1S).size=es.size:=by
 rw[<- Fs,(ZQB).length_eq,Fs]
section
variable {P:Program}{w:World}{A:Around}{E:Value->Shared->Prop}{s:Shared}{a I:Addr}{ks:List Int}{es:Array (Int×Value)}{ep:Nat}{t:SetTable}
def gC (w:World) (t:SetTable) (h:Heap) (I a:Addr) (i n ep:Nat):Prop:=∃ o slot,h.get? I=some o/\o.cls=.type "set_iterator" /\ o.data=.fields #[.int (slot:Nat) 0,.int i 0,ZY,.int n 0,ZCd]/\(w.params.followText "set-order" = true\/below t.place slot=i)
theorem gC.typeIs (x:ZE7):s.TypeIs ZGT "set_iterator":=by
 obtain⟨o,_,q,j,_⟩:=x;exact⟨o,q,j⟩
theorem uk (S:Zx) (j:w.params.followText "set-order" = true)
  (h:Q Z1S s):ZBV:=by
 unfold setWalk setsByText
 refine Z31
 dsimp only
 refine Z7n
 dsimp only
 unfold bV at h
 rw[Fl j] at h
 split
 ·exact E8 (Hq ZW4)
 ·next c=>exact absurd j c
theorem jX {j i:Nat}{Q:Option (Value×Nat)->Shared->Prop}(S:Zx) (J:w.params.followText "set-order" = true\/below t.place j=i)
  (hs:∀ e z,(Z1S)[i]? = some e->(w.params.followText "set-order" = true\/below t.place z=i+1)->Q (some (e.2,z)) s)
  (G:(Z1S)[i]? = none->Q none s):wpAny Zh A (setNext a j i ep) Q E s:=by
 obtain⟨os,a2,Z,W,Y,a1,nd,g,V,L⟩:=ZUj
 unfold setNext setsByText
 refine Z31
 dsimp only
 refine Z7n
 dsimp only
 split
 ·next c=>
  rw[ZAU]
  refine E8 (uk S c Zm)
  cases q:(bV w a ep es)[i]? with
  | none=>exact G q
  | some e=>exact hs e j q (.inl c)
 ·next c=>
  have hl:t.led=true:=L.resolve_left c
  have hi:below t.place j=i:=J.resolve_left c
  have wo:bV w a ep es=es:=by unfold bV;exact Fj c
  split
  ·next d=>
   have O:(!t.plain && decide (es.size>1))=true:=d
   rw[g.plain] at O
   cases O
  ·refine E8 (GD (a:=()) ?_ Zm)
   ·show (if (!t.led && !es.isEmpty)=true then unsupported "set:maker-not-led" else pure ():ZNy)=_
    rw[hl]
    rfl
   ·rw[hi]
    rw[wo] at hs G
    by_cases U:i<es.size
    ·have M:i<t.place.size:=by rw[g.rise.size];exact U
     have F:es[i]? = some es[i]:=FO U
     have R:t.place[i]? = some t.place[i]:=FO M
     rw[F,R]
     exact hs es[i] (t.place[i]+1) F (.inr (p6 g.rise.up R))
    ·have F:es[i]? = none:=GF Z2
     rw[F]
     exact G F
theorem next_item {i:Nat}{e:Int×Value}{Q:Option Value->Shared->Prop}(V:ZAq) (S:Zx) (U:(Z1S)[i]? = some e)
  (h:∀ h',Heap.SameBut I s.heap h'->gC w t h' I a (i+1) es.size ep->Q (some e.2) { s with heap:=h' }):Z9H:=by
 have T:=V.typeIs
 obtain⟨o,W,M,hc,J,R⟩:=V
 obtain⟨os,a5,a3,a1,a2,a4,nd,g,Z,a6⟩:=ZUj
 unfold pyNext
 refine Z5W
 unfold Builtin.«set_iterator.__next__»
 refine E8 (GD (a:=(ZGT,[])) rfl ?_)
 refine E8 (IJ M J ?_)
 dsimp only
 unfold setEntries
 refine ZHB
 dsimp only
 rw[ZAU]
 simp only[FE]
 refine E8 (jX S R (λ Y j q G=>?_) λ q=>?_)
 ·rw[U] at q
  obtain rfl:e=Y:=Option.some.inj q
  dsimp only
  refine E8 (IH M J ZA ?_)
  have F:=Heap.get?_update_self (Obj.mapFields (·.setIfInBounds 0 ZU4)) M (Obj.isFreed_of_fields (Obj.data_mapFields J _))
  have z:=Obj.data_mapFields J (·.setIfInBounds 0 ZU4)
  refine E8 (IH F z ZA ?_)
  have O:=Heap.get?_update_self (Obj.mapFields (·.setIfInBounds 1 (rawInt ((i:Int)+1)))) F (Obj.isFreed_of_fields (Obj.data_mapFields z _))
  have L:=Obj.data_mapFields z (·.setIfInBounds 1 (rawInt ((i:Int)+1)))
  refine Fb ⟨_,rfl,Fb (h _ ((Heap.SameBut.update ..).trans (Heap.SameBut.update ..)) ⟨_,j,O,?_,?_,G⟩)⟩
  ·rw[Obj.cls_mapFields,Obj.cls_mapFields];exact hc
  ·rw[L];simp[rawInt]
 ·rw[U] at q;cases q
theorem next_end {i:Nat}{Q:Option Value->Shared->Prop}(R:A.handled=none) (L:ZAq) (S:Zx) (O:(Z1S)[i]? = none)
  (h:∀ h',Heap.ExtBut I s.heap h'->Q none { s with heap:=h' }):Z9H:=by
 have T:=L.typeIs
 obtain⟨o,M,G,V,F,j⟩:=L
 unfold pyNext
 refine Z5W
 unfold Builtin.«set_iterator.__next__»
 refine E8 (GD (a:=(ZGT,[])) rfl ?_)
 refine E8 (IJ G F ?_)
 dsimp only
 unfold setEntries
 refine ZHB
 dsimp only
 rw[ZAU]
 simp only[FE]
 refine E8 (jX S j (λ U z q J=>?_) λ q=>?_)
 ·rw[O] at q;cases q
 ·dsimp only
  refine E8 (IH G F ZA ?_)
  refine Z4a
  simp only[newExc,newTuple]
  refine E8 (Gk ?_ (by size_fits))
  refine E8 (m:=Z9b) (GD (a:=Value.none) (by first|rfl|(simp only[firstArgMember];rfl)) ?_)
  refine Gk ?_ (by size_fits)
  simp only[raiseNew]
  refine ZJh
  rw[show A.in1.handled=none from R]
  refine Z6V
  refine Z1M
  exact Fb (h _ (((Heap.SameBut.update ..).extBut.push _).push _))
theorem xk (S:Zx)
  (h:∀ o,gC w t (s.heap.push o) s.heap.objs.size a 0 es.size ep->Q ZI { s with heap:=s.heap.push o }):wpAny Zh A (pyIter ZY) Q E s:=by
 obtain⟨V,O,L,G,J,M,U,g,z,R⟩:=ZUj
 have T:Z6P:=S.nM.typeIs
 refine Jp T F.slot_set_iter (Gj F.slot_set_iter T vS ?_ (F.args_set_iter_1 _))
 unfold Builtin.«frozenset.__iter__» Builtin.Frozenset.slot0
 refine E8 (E8 (GD (a:=(ZY,[])) rfl Zm))
 unfold Builtin.Frozenset.sizeOf setEntries
 refine E8 (E8 (E8 (S.state ZVa)))
 unfold setDrawn setsByText
 refine E8 Z31
 dsimp only
 refine E8 (E8 (Hq ZVa))
 have j:(!(ZKt).w.params.followText "set-order" && (!t.plain && decide (es.size>1)))=false:=by rw[g.plain];simp
 split
 ·next c=>
  have q:(!(ZKt).w.params.followText "set-order" && (!t.plain && decide (es.size>1)))=true:=c
  rw[j] at q;cases q
 ·refine E8 (Fb (E8 (kz S ?_)))
  unfold newFields
  refine E8 (Gk (Fb ⟨_,rfl,"set_iterator",_,ZDM,gU.lookup,h _ ⟨_,0,ZH,rfl,rfl,.inr (pH g.rise.up)⟩⟩))
theorem qG:Slot "set_iterator" "__iter__" "set_iterator.__iter__" :=
 .of (owner:="set_iterator") (n:="__iter__") (by rw[typeLookup_type,builtinLookup_eq_fast];kernel_rfl) ZF ZF ZF
  (by first|exact .inl (ZF)|exact .inr ZF) (by rw[Ku];kernel_rfl)
theorem tL:entryFor table "set_iterator.__iter__" = some Builtin.«dict_keyiterator.__iter__» :=
 Kx (id':="dict_keyiterator.__iter__") (by kernel_rfl) rfl ZF (by kernel_rfl)
theorem xg (a):argsOk "set_iterator.__iter__" ZPo:=by unfold argsOk;kernel_rfl
theorem oW (j:ZE7) (h:Q ZGT s):wpAny Zh A (pyIter ZGT) Q E s:=by
 have T:=j.typeIs
 refine Jp T qG (Gj qG T tL ?_ (xg _))
 unfold Builtin.«dict_keyiterator.__iter__»
 exact E8 (GD (a:=(ZGT,[])) rfl (Fb ⟨_,rfl,"set_iterator",_,T,gU.lookup,h⟩))
theorem gC.at' (x:gC w t h I a i n ep) (e:∀ o,h.get? I=some o->h'.get? I=some o):gC w t h' I a i n ep:=by
 obtain⟨o,j,q,r⟩:=x;exact⟨o,j,e o q,r⟩
theorem sF (M:A.handled=none) (R:a≠I):Walks P w A I [I,a] [I] es.size (λ i v=>∃ e,(Z1S)[i]? = some e/\v=e.2) (λ i h=>gC w t h I a i es.size ep/\dv P w h a ks es ep t) where
 sub:=λ b j=>by simp at j;simp[j]
 frame:=λ i h h' st J=>⟨st.1.at' λ o e=>ZTf,st.2.at' λ o e=>J a Zq o e⟩
 item:=λ i s Q E hi st q=>by
  have O:i<(Z1S).size:=by rw[eE];exact hi
  have G:(Z1S)[i]? = some (Z1S)[i]:=FO O
  refine next_item st.1 st.2 G λ h' L F=>?_
  exact q _ h' s.toks ⟨_,G,rfl⟩ ⟨F,st.2.at' λ o e=>by rw[L.2 a R];exact e⟩ λ b o j e=>by rw[L.2 b (λ z=>j (by simp[z]))];exact e
 done:=λ s Q E st q=>by
  refine next_end M st.1 st.2 (GF (by rw[eE];exact Z9)) λ h' ex=>?_
  exact q h' s.toks λ b o j e=>ex b o (λ z=>j (by simp[z])) e
 self:=λ i s Q E st q=>oW st.1 q
theorem rC:∀ {l:List (Int×Value)},ElemsOf Z1B l->PyProof.Rows.IntsAre (l.map (·.2)) (l.map ke)
 | [],_=>.nil
 | e::l,h=>by
  obtain⟨⟨k,F,_⟩,_⟩:=h e Fn
  obtain⟨j,q⟩:=Value.isInt_shape (show Value.isInt k e.2=true from F)
  obtain⟨x,v⟩:=e
  subst q
  exact .cons k j (rC λ e z=>h e ZQR)
theorem uC {xs:Array (Int×Value)}{acc:Z95}(h:ItemsOf (λ i v=>∃ e,xs[i]? = some e/\v=e.2) acc xs.size):acc.toList=xs.toList.map (·.2):=by
 refine Z5j
 rw[Ff,F2,F2]
 by_cases q:i<acc.size
 ·have j:=FO q
  obtain⟨e,z,F⟩:=ZUr
  rw[j,z,F];rfl
 ·rw[GF Z2,GF (by have:=h.1;lia)];rfl
theorem qm {Q:List Value->Shared->Prop}(hh:A.handled=none) (S:Z4F)
  (h:∀ (vs:List Value) (ns:List Int) h' tk,PyProof.Rows.IntsAre vs ns->ns.Perm ks->(∀ b o,s.heap.get? b=some o->h'.get? b=some o)->Q vs { s with heap:=h',toks:=tk }) :
  wpAny Zh A ZQq Q E s:=by
 obtain⟨es,ep,t,S⟩:=S.tab
 have la:a<s.heap.objs.size:=S.nM.lt
 have ne:s.heap.objs.size≠a:=Gp la
 unfold collect
 refine Z8P
 rw[Z6e]
 unfold Builtin.«proto.collect»
 refine ZTm
 refine Z5F
 rw[Z7M]
 unfold Builtin.«list.__iadd__»
 refine E8 (GD (a:=(ZI,ZLC)) rfl ?_)
 dsimp only
 unfold Builtin.List.listExtendWith
 have V:=S.at' (h':=s.heap.push { cls:=ZO,data:=.seq ([]:Zr).toArray }) λ o e=>ZG
 have T1:Shared.TypeIs { s with heap:=s.heap.push { cls:=ZO,data:=.seq ([]:Zr).toArray } } ZY "set":=V.nM.typeIs (s:={ s with heap:=s.heap.push { cls:=ZO,data:=.seq ([]:Zr).toArray } })
 refine ZOS
 have h1:Builtin.List.listSameRef ZI (ZY)=false:=by simp[Builtin.List.listSameRef,ne]
 have h2:(Value.type "set" == Value.type "list")=false:=Z3
 have h3:(Value.type "set" == Value.type "tuple")=false:=Z3
 simp only[h1,h2,h3,Bool.or_false,Fx,Gi]
 refine E8 (xk V λ J it=>?_)
 refine ZAV
 unfold Builtin.List.listLengthHint
 have W:=V.at' (h':=(s.heap.push { cls:=ZO,data:=.seq ([]:Zr).toArray }).push J) λ o e=>ZG
 have R:Shared.TypeIs { s with heap:=(s.heap.push { cls:=ZO,data:=.seq ([]:Zr).toArray }).push J } ZY "set":=W.nM.typeIs (s:={ s with heap:=(s.heap.push { cls:=ZO,data:=.seq ([]:Zr).toArray }).push J })
 refine E8 (Jd R F.slot_set_len.lookup ?_)
 wp_delta
 refine E8 (G9 R J8 ?_)
 show wpAny _ A.in1 (typeOf Z92 >>= _) _ _ _
 refine E8 (Jf R Zm)
 rw[ZRx]
 refine ZTn
 generalize hH:s.heap.push { cls:=.type "list",data:=.seq ([]:List Value).toArray }=H at it W R ⊢
 have M:H.objs.size=s.heap.objs.size+1:=by rw[<- hH,Heap.size_push]
 have j:(ZOG).get? s.heap.objs.size=some { cls:=ZO,data:=.seq ([]:Zr).toArray }:=Heap.get?_push_of_some _ (hH ▸ Heap.get?_push_size _ rfl)
 show wpAny _ A.in1 (Builtin.List.listTouch ZI >>= _) _ _ _
 refine Z4a
 show wpAny _ A.in1 (updateSeq s.heap.objs.size (·.push .none) >>= λ _=>updateSeq s.heap.objs.size (·.pop)) _ _ _
 refine ZBJ
 have q:=Heap.get?_update_self (Obj.mapSeq (·.push Value.none)) j rfl
 refine ZRs
 have z:=Heap.get?_update_self (Obj.mapSeq (·.pop)) q rfl
 have G:∀ b o,b≠s.heap.objs.size->(ZOG).get? b=some o->(((ZOG).update s.heap.objs.size (Obj.mapSeq (·.push Value.none))).update s.heap.objs.size (Obj.mapSeq (·.pop))).get? b=some o:=
  λ b o hb e=>ZCp
 have nI:s.heap.objs.size≠H.objs.size:=Z2
 have a2:s.heap.objs.size∉[H.objs.size,a]:=by simp only[Fi,Ft,F8,IW];exact ZR6
 have Z:es.size<=sizeLine:=eA (by have:=S.nM.few;have:=S.size;lia)
 refine Fb ⟨ZEM,codeAny_extend_loopS (sF (A:=A.in1) (ks:=ks) (t:=t) (es:=es) (ep:=ep) hh (I:=H.objs.size) (Fu (by rw[M];exact Gx la))).toS Z _ a2 _ es.size 0 _ _ _ rfl Z5N
  ⟨it.at' λ o e=>G _ o ZQz e,W.at' λ o e=>G _ o Z67 e⟩ z ZM5 λ s' L c' U a1 O=>?_⟩
 obtain⟨h',g',d',a6,a5⟩:=s'
 obtain rfl:g'=s.gens:=U.gens
 obtain rfl:d'=s.drawn:=U.drawn
 obtain rfl:a5=s.os:=U.os
 show wpAny _ A (load s.heap.objs.size >>= _) _ _ _
 refine E8 (wpAny_load a1 Zm)
 obtain⟨_,_,_,_,a3,a4,_⟩:=S
 have Y:L.toList=(Z1S).toList.map (·.2):=uC (by rw[eE];exact O)
 have p:=ZQB
 refine h _ ((Z1S).toList.map ke) h' a6 (by rw[Y];exact rC (a3.perm p)) (by rw[<- a4];exact p.map ke) λ b o e=>U.heap b o ?_ (G b o ZAg (Heap.get?_push_of_some _ (hH ▸ Heap.get?_push_of_some _ e)))
 have:=ZK
 simp only[Fi,Ft,F8,IW]
 exact⟨Fu this,Fu (by show b<H.objs.size;rw[M];exact ZRq)⟩
theorem qy {Q:Fin->Shared->Prop}{vs:Zr}{ns:ZU}(hI:PyProof.Rows.IntsAre vs ns) (h64:vs.length<64)
  (h:∀ (out:Array Value) (ns':List Int) h' c,(∀ b o,s.heap.get? b=some o->h'.get? b=some o)->h'.get? s.heap.objs.size=some { cls:=ZO,dict:=none,data:=Z8A,slots:=#[] }->PyProof.Rows.IntsAre out.toList ns'->ns'.Perm ns->ns'.Pairwise (· <= ·) ->
   Q ZAi { s with heap:=h' }) :
  wpAny Zh A (do let l <- newList vs;let _ <- holding [l] Z3c;ret l) Q E s:=by
 refine E8 (Iy ?_ (eA (Gq h64)))
 have hoL:(ZKp).get? s.heap.objs.size=some Z2h:=ZH
 refine E8 (F1 (Gj PyProof.Rows.slot_list_sort ZBw PyProof.Rows.entry_list_sort (PyProof.Rows.list_sort_tree hoL hI h64 λ out ns' a1 a2 a3=>Z3T) (PyProof.Rows.args_list_sort _)))
 obtain⟨e,he⟩:=PyProof.Rows.sortedHeap_at (out:=out) hoL
 refine Fb (h out ns' _ e (λ b o q=>?_) he a1 a2 a3)
 have lt:=Z3Z
 show (PyProof.Rows.sortedHeap ZKp s.heap.objs.size vs out).get? b=some o
 rw[PyProof.Rows.sortedHeap_old ZSr (by rw[Heap.size_push];exact ZVW)]
 exact Zz
theorem mj {Q:Value->Shared->Prop}{x:Value}
  (hc:wpAny Zh A.in1 ZIE (λ vs s1=>∃ ns,PyProof.Rows.IntsAre vs ns/\vs.length<64 /\
   ∀ (out:Array Value) (ns':List Int) h' c,(∀ b o,s1.heap.get? b=some o->h'.get? b=some o)->h'.get? s1.heap.objs.size=some { cls:=ZO,dict:=none,data:=Z8A,slots:=#[] }->PyProof.Rows.IntsAre out.toList ns'->ns'.Perm ns->ns'.Pairwise (· <= ·) ->
    Q Z6a { s1 with heap:=h' }) E s) :
  wpAny Zh A ZDr Q E s:=by
 refine Calls.call_function_entry PyProof.Rows.kind_sorted PyProof.Rows.plain_sorted PyProof.Rows.entry_sorted (PyProof.Rows.args_sorted1 _) ?_
 unfold Builtin.«sorted»
 refine Z3_
 refine Z2o
 obtain⟨ns,hI,h64,fin⟩:=h1
 exact qy hI h64 λ out ns' h' c a b d e f=>⟨_,rfl,fin out ns' h' c a b d e f⟩
end
end SetT
namespace L2
open PySem PySem.Spec PyProof.Rows SetT
noncomputable def gc (P:Program) (w:World) (a:Addr) (ks:ZU):HO:=.ext λ h=>Z2W
theorem gc.ok (S:Z2W):ZDA:=
 ⟨S,let ⟨o,_,_,_,e,_⟩:=S;⟨o,e⟩,λ _ _ S e=>S.at' e⟩
theorem gc.get (x:ZDA):Z2W:=x.1
noncomputable def iV (ns:ZU):Z11:=Z60
theorem jM:∀ {ns:List Int}{us:List Value},Vals Z2O us->IntsAre us ns
 | [],_,.nil=>.nil
 | n::ns,_,.cons r t=>by
  obtain⟨j,rfl⟩:=r
  exact .cons n j (jM t)
theorem mN:∀ {ns:List Int}{us:List Value},IntsAre us ns->Vals Z2O us
 | _,_,.nil=>.nil
 | _,_,.cons n t j=>.cons Z8r (mN j)
section
variable {X:Cx}{K:PySem.W.Frag}{P:Program}{w:World}
inductive vW (K:PySem.W.Frag) (P:Program) (w:World) (xs:List V) (H:Hp) (Q:VK):Prop
 | mk:∀ p ns,xs=[Z00]->SqL K H p Z2O->ns.length<=63->(∀ l ks,H l=none->ks.Nodup->(∀ y,y∈ks↔y∈ns)->Q Zv ZFB)->vW K P w xs H Q
theorem lT (J:X.calm=true) (F:X.K=K:=by rfl) (G:X.prog=P:=by rfl) (M:X.w=w:=by rfl):cN X Z1F (vW K P w):=by
 subst F;subst G;subst M
 intro pins s σ H xs us Q I r h
 obtain⟨p,ns,rfl,L,z,q⟩:=h
 obtain⟨u,rfl,Y⟩:=Z4g
 cases Y
 obtain⟨O,W,V,Z⟩:=I.list L
 have j:=jM W
 have U:=IntsAre.length j
 refine pV (I.ok.hd J) V.isList (by simpa using j) (by simp only[FD];lia) λ h' tk ks S m R=>?_
 exact⟨ZI,_,I.laid R Z9 ZVs,rfl,q _ ks I.fresh S.nodup m⟩
inductive C5 (P:Program) (w:World) (x:V) (y:V) (H:Hp) (Q:VK):Prop
 | mk:∀ (p q:Addr) (ka kb U:List Int),x=.ref p->y=.ref q->p≠q->H p=some (gc P w p ka)->H q=some (gc P w q kb)->U.length<=62->(∀ y∈ka,y∈U)->(∀ y∈kb,y∈U)->(∀ l ks,H l=none->ks.Nodup->(∀ y,y∈ks↔y∈ka\/y∈kb)->Q Zv ZFB)->C5 P w x y H Q
theorem y4 (F:X.prog=P:=by rfl) (L:X.w=w:=by rfl):OpR X (binaryOp .BitOr) (C5 P w):=by
 subst F;subst L
 intro pins s σ H x y v u Q I R V h
 obtain⟨p,q,Z,kb,U,rfl,rfl,O,G,J,j,W,Y,z⟩:=h
 cases R;cases V
 refine B0 (gc.get (I.hok _ _ G)) (gc.get (I.hok _ _ J)) O j W Y λ h' ks S m M=>?_
 exact⟨ZI,_,I.laid (t':=s.toks) M Z9 ZVs,rfl,z _ ks I.fresh S.nodup m⟩
inductive uL (P:Program) (w:World) (xs:List V) (H:Hp) (Q:VK):Prop
 | mk:∀ p ks,xs=[Z00]->H p=some (gc P w p ks)->(∀ l ns,H l=none->ns.Perm ks->ns.Pairwise (· <= ·)->Q Zv (upd H l Z8G))->uL P w xs H Q
theorem pB (U:X.calm=true) (R:X.prog=P:=by rfl) (W:X.w=w:=by rfl):cN X Z14 (uL P w):=by
 subst R;subst W
 intro pins s σ H xs us Q I r h
 obtain⟨p,ks,rfl,V,q⟩:=h
 obtain⟨u,rfl,rx⟩:=Z4g
 cases rx
 have S:=gc.get (I.hok _ _ V)
 refine mj (qm (by simpa using I.ok.hd U) S λ vs ns h1 tk M J Z=>⟨ns,M,?_,λ G j h' c F e O z so=>?_⟩)
 ·have:=S.few;have:=J.length_eq;have:=IntsAre.length M;lia
 ·have L:Inv X pins σ H { s with heap:=h1,toks:=tk }:=I.kept Z
  have Y:(iV j).length<=sizeLine:=by
   unfold iV;rw[Fe,z.length_eq,J.length_eq];exact eA (FC S.few Z2)
  exact⟨.ref h1.objs.size,_,L.laid (t':=tk) F Z9 (show bP X.prog X.w _ h' _ ZPj from ⟨Y,G.toList,c,mN O,by rw[e]⟩),rfl,q _ j L.fresh (z.trans J) so⟩
inductive qe (K:PySem.W.Frag) (xs:List V) (H:Hp) (Q:VK):Prop
 | mk:∀ p ns,xs=[Z00]->SqL K H p Z2O->ns.length<64->(∀ l ns',H l=none->ns'.Perm ns->ns'.Pairwise (· <= ·)->Q Zv (upd H l (.lst (iV ns'))))->qe K xs H Q
theorem pR (U:X.K=K:=by rfl):cN X Z14 (qe K):=by
 subst U
 intro pins s σ H xs us Q I r h
 obtain⟨p,Z,rfl,W,S,q⟩:=h
 obtain⟨u,rfl,rx⟩:=Z4g
 cases rx
 obtain⟨z,r',pl,hz⟩:=I.list W
 have R:=jM r'
 have Y:=IntsAre.length R
 have L:∀ b o,s.heap.get? b=some o->((s.heap.push (seqObj "list" #[] 0)).update s.heap.objs.size (Obj.mapSeq (· ++ z.toArray))).get? b=some o:=λ b o e=>
  (Z46).trans ZG
 refine mj (collect_list pl.isList ⟨Z,R,Z2,λ M j h' c J e V F so=>?_⟩ ZSb)
 have O:Inv X pins σ H { s with heap:=(s.heap.push (seqObj "list" #[] 0)).update s.heap.objs.size (Obj.mapSeq (· ++ z.toArray)) }:=I.kept (t':=s.toks) L
 have G:(iV j).length<=sizeLine:=by
  unfold iV;rw[Fe,F.length_eq];exact eA Z2
 exact⟨ZIp,_,O.laid (t':=s.toks) J Z9 (show bP X.prog X.w _ h' _ ZPj from ⟨G,M.toList,c,mN V,by rw[e]⟩),rfl,q _ j O.fresh F so⟩
end
noncomputable def kS (lo hi:Int):ZU:=(List.range (hi-lo).toNat).map λ i:Nat=>lo+i
theorem i0 {lo hi y:Int}:y∈kS lo hi↔lo<=y/\y<hi:=by
 unfold kS
 rw[Fw]
 constructor
 ·rintro⟨i,hi,rfl⟩
  rw[Hw] at hi
  lia
 ·rintro⟨h1,h2⟩
  exact⟨(y-lo).toNat,Hw.mpr Z2,Z2⟩
theorem gz {lo hi:Int}:(kS lo hi).length=(hi-lo).toNat:=by unfold kS;rw[Fe,Ih]
section
variable {X:Cx}{K:PySem.W.Frag}{P:Program}{w:World}
inductive yu (xs:List V) (H:Hp) (Q:VK):Prop
 | mk:∀ i j:Int,xs=[Z2M,Z2k]->(∀ l,H l=none->Q Zv (upd H l ZK0))->yu xs H Q
theorem tu:cN X Z3H yu:=by
 intro pins s σ H xs J Q I r h
 obtain⟨i,j,rfl,q⟩:=h
 cases r with
 | cons r z=>
  cases z with
  | cons F z=>
   cases z
   obtain⟨t,rfl⟩:=r
   obtain⟨G,rfl⟩:=F
   refine call_range_2 ⟨ZI,_,I.laid ZMw Z9 (show bP X.prog X.w _ _ _ ZK0 from ⟨_,_,_,ZH⟩),rfl,ZC1⟩
inductive tM (xs:List V) (H:Hp) (Q:VK):Prop
 | mk:∀ (p:Addr) (i j:Int),xs=[Z00]->H p=some ZK0->(-(2 ^ 62)<=i/\i<2 ^ 62 /\ -(2 ^ 62)<=j/\j<2 ^ 62)->(j-i).toNat<=1000->(∀ l,H l=none->Q Zv (upd H l ZHM))->tM xs H Q
theorem sx:∀ {n:Nat}{acc:Array Value},ItemsOf (λ k v=>∃ t,v=Value.int (i+k*1) t) acc n->Vals (iV ((List.range n).map λ k:Nat=>i+k)) acc.toList:=by
 intro n acc h
 have j:∀ (l:List Value) (m:Nat),(∀ k v,l[k]? = some v->∃ t,v=Value.int (i+((m+k:Nat):Int)) t)->Vals (iV ((List.range' m l.length).map λ k:Nat=>i+k)) l:=by
  intro l
  induction l with
  | nil=>intro m _;exact .nil
  | cons v l z=>
   intro m q
   obtain⟨t,rfl⟩:=q 0 v rfl
   refine .cons Z8r (z (m+1) λ k u e=>?_)
   obtain⟨t,rfl⟩:=q (k+1) u (by simpa using e)
   exact⟨t,by rw[show m+(k+1)=m+1+k by lia]⟩
 have:=j acc.toList 0 λ k v e=>by
  obtain⟨t,rfl⟩:=h.2 k v (by rw[<- F2];exact e)
  exact⟨t,Zq⟩
 rw[Fs,h.1,<- List.range_eq_range'] at this
 exact this
theorem pX (U:X.calm=true):cN X ZO tM:=by
 intro pins s σ H xs us Q I r h
 obtain⟨p,i,j,rfl,W,⟨J,L,M,O⟩,G,q⟩:=h
 obtain⟨u,rfl,rx⟩:=Z4g
 cases rx
 obtain⟨t,u,v,e⟩:=I.hok _ _ W
 have V:Builtin.Range.rangeSize i j 1=((j-i).toNat:Nat):=by rw[rangeSize_one];split<;>lia
 refine call_list_range (I.ok.hd U) e (small_one J L M O) V Z2 λ h' tk z R Z S F=>?_
 have Y:(iV (kS i j)).length<=sizeLine:=by
  unfold iV;rw[Fe,gz]
  exact FC G Z3
 refine⟨ZI,_,I.laid Z Z9 (show bP X.prog X.w _ h' _ ZHM from ⟨Y,z.toList,R,sx F,by rw[S]⟩),rfl,ZC1⟩
end
section
variable {X:Cx}{pins:List (Addr×Obj)}{σ:St}{H:Hp}{s:Shared}{h':Heap}
theorem Inv.jf {t':Nat}{its:Z09}{a:Addr}{o:HO}(I:Z8) (k:∀ b u,b∉its->s.heap.get? b=some u->h'.get? b=some u) (L:∀ b∈its,Z4E)
  (O:s.heap.objs.size<=a) (M:ZEB):Inv X pins σ Z4m { s with heap:=h',toks:=t' }:=by
 have F:H a=none:=I.hok.fresh O
 have G:∀ b u,H b=some u->b∉its:=λ b u e z=>by rw[(L b z).1] at e;cases e
 have Z:∀ b u,s.heap.get? b=some u->b≠a:=λ b u e z=>absurd (FA ZK (by rw[z];exact O)) ZB6
 refine I.step (g':=s.gens) (d':=s.drawn) (ch:=its) (λ b J=>?_) ZBK Z6s (λ b u _ e n=>by rw[aV (Z b u e)];exact n)
  ZAZ (λ b xs e=>by rw[Z2w];exact e) (λ b u v e=>by rw[Z2w];exact e) (λ b ps e=>⟨#[],by rw[Z2w,e];simp⟩) (λ m W=>?_) (λ b u e=>?_) I.bare
 ·obtain⟨f0,R,f2,S,U,V⟩:=L b J
  exact⟨S,R,U,V⟩
 ·obtain⟨u,es,ep,Y,r⟩:=W
  exact⟨u,es,ep,k _ u (λ z=>(L _ z).2.1 rfl) Y,r⟩
 ·by_cases J:b=a
  ·subst J;rw[aU] at e;cases e;exact M
  ·rw[aV J] at e
   refine(ZHt).kX ZET (λ c q=>by rw[ZRd];exact q) λ c xs q=>by rw[ZRd];exact q
   rcases j with z|z
   ·rw[z];exact G b u e
   ·exact G c _ z
theorem Inv.mQ {t':Nat}{its:Z09}(I:Z8) (k:∀ b u,b∉its->s.heap.get? b=some u->h'.get? b=some u) (G:∀ b∈its,Z4E):Inv X pins σ H { s with heap:=h',toks:=t' }:=by
 have F:∀ b u,H b=some u->b∉its:=λ b u e z=>by rw[(G b z).1] at e;cases e
 refine I.step (g':=s.gens) (d':=s.drawn) (ch:=its) (λ b R=>?_) ZBK Z6s (λ b u _ e n=>n)
  ZAZ (λ b xs e=>e) (λ b u v e=>e) (λ b ps e=>⟨#[],by rw[e];simp⟩) (λ m S=>?_) (λ b u e=>?_) I.bare
 ·obtain⟨V,J,W,L,M,O⟩:=G b R
  exact⟨L,J,M,O⟩
 ·obtain⟨u,es,ep,U,r⟩:=S
  exact⟨u,es,ep,k _ u (λ z=>(G _ z).2.1 rfl) U,r⟩
 ·refine(ZHt).kX ZET (λ c q=>q) λ c xs q=>q
  rcases j with z|z
  ·rw[z];exact F b u e
  ·exact F c _ z
end
noncomputable def Itz (K:PySem.W.Frag) (l1 l2:Addr):It:=
  ⟨λ i H=>∃ xs ys x y,SqL K H l1 xs/\SqL K H l2 ys/\xs[i]? = some x/\ys[i]? = some y,
   λ i H v H'=>∃ p x y,H p=none/\v=.ref p/\H'=upd H p ZB7/\(∀ xs,SqL K H l1 xs->xs[i]? = some x)/\∀ ys,SqL K H l2 ys->ys[i]? = some y,
   λ i H=>∃ xs ys,SqL K H l1 xs/\SqL K H l2 ys/\(xs.length<=i\/ys.length<=i)⟩
theorem ve {P:Program}{w:World}{K:PySem.W.Frag}{es:Z4L}{kk:Nat}{pos:Pos}(z L M R S l1 l2:Addr) (D:ZipApart z L M R S l1 l2) :
  Turn P w K ZJA (Itz K l1 l2) ZRe z
   (λ i h=>IsZip h z L M .none/\IsPair h L (.ref R) (.ref S)/\(∃ a b,IsPair h M a b)/\h.IsListIter R l1 i/\h.IsListIter S l2 i) where
 mem:=Zq
 obj:=λ i h st b hb=>by
  obtain⟨J,j,⟨a,c,G⟩,⟨o1,e1,_,d1⟩,⟨o2,e2,_,d2⟩⟩:=st
  simp only[Fi,Ft,F8] at hb
  rcases hb with rfl|rfl|rfl|rfl|rfl
  ·exact⟨_,J,λ v q=>by cases q⟩
  ·exact⟨_,j,λ v q=>by cases q⟩
  ·exact⟨_,G,λ v q=>by cases q⟩
  ·exact⟨_,e1,λ v q=>by rw[d1] at q;cases q⟩
  ·exact⟨_,e2,λ v q=>by rw[d2] at q;cases q⟩
 keep:=λ i h h' st k=>by
  obtain⟨J,j,⟨a,b,G⟩,h1,h2⟩:=st
  exact⟨k z ZA _ J,k L Zq _ j,⟨a,b,k M ZC6 _ G⟩,h1.at λ o e=>k R ZM0 o e,h2.at λ o e=>k S ZVy o e⟩
 item:=by
  intro X hP hw hK F i pins s σ H E I hf st hg
  subst hP hw hK
  obtain⟨xs,ys,x,y,q1,q2,hx,hy⟩:=hg
  obtain⟨a8,U,p1,ad⟩:=ZVV
  obtain⟨a9,V,p2,ae⟩:=ZVU
  obtain⟨u1,aa,ag⟩:=U.get hx
  obtain⟨u2,ab,ah⟩:=V.get hy
  obtain⟨J,j,⟨a,b,G⟩,h1,h2⟩:=st
  have W:∀ {c o},s.heap.get? c=some o->s.heap.objs.size≠c:=λ e=>Gp ZK
  have n1:s.heap.objs.size≠z:=W J
  refine wpAny_pyNext_zip_item D J j G h1 h2 p1.isList p2.isList (x:=u1) (y:=u2) (by simpa using aa) (by simpa using ab) λ h' a1 a2 a3 a4 a5 a6 hk=>?_
  refine⟨_,rfl,wpAny_letOwnedTupleGo_zip a1 λ O a7 Y=>?_⟩
  have k2:∀ c o,c∉[z,L,M,R,S]->s.heap.get? c=some o->O.get? c=some o:=λ c o F e=>by
   simp only[Fi,Ft,F8,IW] at F
   rw[Y.2 c F.1]
   exact Z7J
  have af:bP X.prog X.w (upd H s.heap.objs.size ZB7) O s.heap.objs.size ZB7:=by
   have e5:O.get? s.heap.objs.size=some { cls:=Z0U,data:=.seq #[u1,u2] }:=(Y.2 _ n1).trans a5
   exact⟨eA ZA,[u1,u2],.cons ag (.cons ah .nil),_,e5,rfl,_,rfl⟩
  refine⟨ZI,_,I.jf (t':=s.toks) k2 hf Z9 af,rfl,⟨_,x,y,I.fresh,rfl,rfl,λ zs hs=>by rw[I.iW hs q1];exact hx,λ zs hs=>by rw[I.iW hs q2];exact hy⟩,?_,λ c F=>?_⟩
  ·exact⟨a7,(Y.2 _ D.TIz).trans (hk _ _ D.TIz D.TITO D.TIi1 D.TIi2 j),⟨_,_,(Y.2 _ D.TOz).trans a2⟩,a3.extBut Y.extBut D.i1z,a4.extBut Y.extBut D.i2z⟩
  ·rw[aV]
   ·exact(hf c F).1
   ·simp only[Fi,Ft,F8] at F
    rcases F with rfl|rfl|rfl|rfl|rfl
    ·exact Ne.symm (W J)
    ·exact Ne.symm (W j)
    ·exact Ne.symm (W G)
    ·obtain⟨_,e,_⟩:=h1;exact ZO3
    ·obtain⟨_,e,_⟩:=h2;exact ZO3
 done:=by
  intro X hP hw hK F i pins s σ H E I hf st hg
  subst hP hw hK
  obtain⟨xs,ys,q1,q2,Z⟩:=hg
  obtain⟨a8,U,p1,ad⟩:=ZVV
  obtain⟨a9,V,p2,ae⟩:=ZVU
  obtain⟨J,j,⟨a,b,G⟩,h1,h2⟩:=st
  have ai:=U.length
  have aj:=V.length
  refine wpAny_pyNext_zip_end (I.ok.hd F) D J j G h1 h2 p1.isList p2.isList (by
   rcases Z with z|z
   ·exact .inl (by simp;lia)
   ·exact .inr (by simp;lia)) λ h' hk=>⟨rfl,I.mQ (t':=s.toks) (its:=ZRe) (λ c o F e=>?_) hf⟩
  simp only[Fi,Ft,F8,IW] at F
  exact Z7J
 self:=λ _ _ _ _ _ st h=>wpAny_pyIter_zip st.1 h
section
variable {X:Cx}{K:PySem.W.Frag}
inductive yA (K:PySem.W.Frag) (R:It->Hp->Prop) (vs:List V) (H1:Hp):Prop
 | mk:∀ p q xs ys,vs=[Z00,Z3L]->SqL K H1 p xs->SqL K H1 q ys->R (Itz K p q) H1->yA K R vs H1
def EU (K:PySem.W.Frag) (ta:TA):TI:=λ σ H R=>ta σ H λ vs H1=>yA K R vs H1
theorem zg {a b:Expr}{ta:TA}{p pos pos':Pos}{es:Z4L}{kk:Nat}(hg:Gl X "zip") (hm:X.mg "zip" = none) (ha:PA X [a,b] ta) (hs:starEach [a,b] X.env=[(false,Z7Z),(false,ZAr)]:=by rfl) (z:starEach [b] X.env=[(false,ZAr)]:=by rfl) (hK:X.K=K:=by rfl) :
  PI X (.Tuple es kk pos') (.Call (.Name "zip" p) [a,b] [] pos) (EU K ta):=by
 subst hK
 intro pins s σ H R I h
 refine Call_ (iG I hg hm boot_zip (Ie (thn (ha pos pins s σ H _ I h) λ us F w=>?_) (by rw[hs,z]) (by rw[z];rfl)))
 obtain⟨vs,H1,j,r1,O⟩:=w
 obtain⟨G,J,xs,ys,rfl,O,q2,q⟩:=O
 obtain⟨u,v,rfl,rx,ry⟩:=vals2 r1
 cases rx;cases ry
 obtain⟨V,a3,Y,a1⟩:=j.list O
 obtain⟨W,a4,p2,a2⟩:=j.list q2
 have L:G<F.heap.objs.size:=by obtain⟨o,e,_⟩:=Y.isList;exact ZK
 have M:J<F.heap.objs.size:=by obtain⟨o,e,_⟩:=p2.isList;exact ZK
 refine call_zip_2 Y.isList p2.isList λ h' Z z2 z3 z4 z5 z6 kp=>?_
 refine wpAny_pyIter_zip Z ?_
 refine⟨_,_,_,Itz X.K G J,H1,rfl,j.kept (t':=F.toks) kp,ve _ _ _ _ _ G J (zipApart_new L M),⟨Z,z2,⟨_,_,z3⟩,z4,z5⟩,λ b U=>?_,q⟩
 have S:F.heap.objs.size<=b:=by
  simp only[Fi,Ft,F8] at U
  rcases U with rfl|rfl|rfl|rfl|rfl<;>first|exact Nat.le_refl _|exact ZVP
 exact j.mO S (j.hok.fresh S)
inductive Cr (K:PySem.W.Frag) (xs:List V) (H:Hp) (Q:VK):Prop
 | mk:∀ (p:Addr) (bs:List Bool),xs=[Z00]->SqL K H p (bs.map V.bl)->Q (.bl (bs.all id)) H->Cr K xs H Q
theorem lB (Y:X.calm=true) (W:X.K=K:=by rfl):cN X ZKi (Cr K):=by
 subst W
 intro pins s σ H xs us Q I r h
 obtain⟨p,j,rfl,O,q⟩:=h
 obtain⟨u,rfl,rx⟩:=Z4g
 cases rx
 obtain⟨z,M,L,hz⟩:=I.list O
 have F:j.length=z.length:=by have:=M.length;rwa [Fe] at this
 have lt:p<s.heap.objs.size:=by obtain⟨o,e,_⟩:=L.isList;exact ZK
 refine call_all_walk (Jq L.isList ⟨s.heap.objs.size,_,_,_,_,_,λ i=>ZMQ,rfl,Walks.list (by simpa using I.ok.hd Y) s.heap.objs.size p (Fu lt) z.toArray,⟨⟨_,Heap.get?_push_size _ rfl,rfl,rfl⟩,L.isList.push _⟩,λ i v s Q E Z J=>?_,λ h' tk kp=>?_⟩)
 ·have G:z[i]? = some v:=by simpa using Z
  have S:i<j.length:=by rw[F];exact ZSu
  obtain⟨u,R,ru⟩:=M.get (i:=i) (x:=V.bl j[i]) (by rw[Ff,E9 S];rfl)
  rw[G] at R
  cases R
  cases ru
  have e:j.getD i false=j[i]:=by rw[Hx,E9 S];rfl
  dsimp only at J
  rw[e] at J
  exact GN J
 ·have U:Inv X pins σ H { s with heap:=h',toks:=tk }:=I.kept λ b o e=>kp b o (by simp only[Fd];exact Fu ZK) ZG
  have e:(List.range z.toArray.size).all (λ i=>ZMQ)=j.all id:=by
   rw[FD,<- F]
   clear q M hz O F
   induction j with
   | nil=>rfl
   | cons b j ih=>
    rw[FV,List.range_succ_eq_map,Jw,Jj,Jw,<- ih]
    rfl
  rw[e]
  exact⟨.bl (j.all id),H,U,rfl,q⟩
end
end L2
namespace L2
theorem mS (h:ZIh) (k:PE X e u):PE X e (λ σ H Q=>t σ H Q\/u σ H Q):=by
 intro pins s σ H Q I q
 rcases q with q|q
 ·exact h pins s σ H Q I q
 ·exact k pins s σ H Q I q
open PySem PySem.Spec PyProof.Rows
noncomputable def isStar:Expr->Bool
 | .Starred .. => true
 | _=>false
theorem qK (h:isStar e=false):starEach (e::es) env=(false,ZJN)::starEach es env:=by
 cases e<;>first|rfl|cases h
theorem bf (j:Z5d) (q:ZGH) (h:isStar e=false:=by rfl):PA X (e::es) ZLv:=xj j q (qK h)
open PySem PySem.Spec PyProof.Rows SetT
abbrev Nx (n i:Nat) (A:Prop):Prop:=∃ m',m'<n-i/\(m'=n-(i+1)/\i+1<=n/\A)
theorem Nx.mk (h:i<n) (a:A):Nx n i A:=⟨n-(i+1),Z2,rfl,h,a⟩
theorem dE {K:PySem.W.Frag}{a:Addr}{xs:Z11}{k:Nat}{g:TG}{tc:TT}{te:TE}{σ:St}{H1:Hp}{Q:VK}(R:xs.length<=1000)
  (h:∀ acc,H1 acc=none->∃ F:Nat->St->List V->Hp->Prop,F 0 (σ++List.replicate k none) [] Z3h/\(∀ i j ys H2,i<=xs.length->F i j ys H2->SqL K H2 a xs/\ys.length<=i) /\
   (∀ i x j ys H2,i<xs.length->xs[i]? = some x->F i j ys H2->g x j H2 λ z O=>tc z O λ b L=>if b=true then te z L λ v M=>M acc=some Z03/\Nx xs.length i (F (i+1) z (ys++[v]) (upd M acc (.lst (ys++[v])))) else Nx xs.length i (F (i+1) z ys L)) /\
   ∀ j ys H2,F xs.length j ys H2->Q Z17 H2):fZ Z94 k g tc te σ H1 Q:=by
 intro acc S
 obtain⟨F,U,Y,ps,W⟩:=h acc S
 refine⟨λ i m j ys H2=>m=xs.length-i/\i<=xs.length/\F i j ys H2,⟨xs.length,Zq,ZH9,U⟩,?_⟩
 rintro i m j ys H2 ⟨rfl,hi,p⟩
 obtain⟨q,J⟩:=Y i j ys H2 hi p
 by_cases G:i<xs.length
 ·refine .inr ⟨⟨xs,xs[i],q,by simp[G]⟩,GH J (bE (by lia)),λ x Z y=>?_⟩
  obtain⟨e,y⟩:=y
  subst e
  exact ZD6
 ·have e:i=xs.length:=Z2
  subst e
  exact .inl ⟨ZNG,W j ys H2 p⟩
theorem kh {lo:Int}{n:Nat}{k:Nat}{g:TG}{tc:TT}{te:TE}{σ:St}{H1:Hp}{Q:VK}(O:n<=1000)
  (h:∀ acc,H1 acc=none->∃ z:Nat->St->List V->Hp->Prop,z 0 (σ++List.replicate k none) [] Z3h/\(∀ i j ys H2,i<=n->z i j ys H2->ys.length<=i) /\
   (∀ i j ys H2,i<n->z i j ys H2->g (.int (lo+i)) j H2 λ q M=>tc q M λ b J=>if b=true then te q J λ v L=>L acc=some Z03/\Nx n i (z (i+1) q (ys++[v]) (upd L acc (.lst (ys++[v])))) else Nx n i (z (i+1) q ys J)) /\
   ∀ j ys H2,z n j ys H2->Q Z17 H2):fZ ZEv k g tc te σ H1 Q:=by
 intro acc R
 obtain⟨z,S,W,ps,U⟩:=h acc R
 refine⟨λ i m j ys H2=>m=n-i/\i<=n/\z i j ys H2,⟨n,Zq,ZH9,S⟩,?_⟩
 rintro i m j ys H2 ⟨rfl,hi,p⟩
 have G:=W i j ys H2 hi p
 by_cases F:i<n
 ·refine .inr ⟨F,GH G ZJR,λ x Y y=>?_⟩
  obtain⟨e,rfl⟩:=y
  subst e
  exact ps i j ys _ F p
 ·have e:i=n:=Z2
  subst e
  exact .inl ⟨Z9,U j ys H2 p⟩
def But (S:Z09) (H H':Hp):Prop:=∀ b o,b∉S->H b=some o->H' b=some o
theorem But.of (h:Z4h):ZAW:=λ b o _ e=>h b o e
theorem But.same (h:ZAW) (s:ZG1) (j:∀ b∈S,G b=none):ZC9:=λ b o e=>h b o (λ z=>by rw[j b z] at e;cases e) (s b o e)
theorem But.trans (h:ZAW) (k:But S H' H''):But S H H'':=λ b o n e=>k b o n (h b o n e)
theorem But.mono (h:ZAW) (k:∀ b∈S,b∈S'):But S' H H':=λ b o n e=>h b o (λ z=>n (k b z)) e
theorem But.upd:But [p] H ZST:=λ b u n e=>by rw[aV (λ z=>n (by simp[z]))];exact e
structure gD (H G G' H':Hp):Prop where
 sub:ZAP
 held:ZNo
 new:∀ b o,G' b=some o->G b=some o\/H b=none
theorem gD.free (g:ZFz) (h:H b≠none) (n:G b=none):G' b=none:=by
 cases e:G' b with
 | none=>rfl
 | some o=>
  rcases g.new b o e with z|z
  ·rw[n] at z;cases z
  ·exact absurd z h
theorem gD.refl (s:ZG1):gD H G G H:=⟨ZV2,s,λ _ _ e=>ZGX⟩
def okD (n:Nat) (d:PyData):Prop:=d.canLay0=true/\d.depth<=n/\noDict d=true
theorem okD.int:okD n (Z2M):=⟨by simp[PyData.canLay0],by simp[PyData.depth],by simp[noDict]⟩
theorem okD.bool:okD n (.bool i):=⟨by simp[PyData.canLay0],by simp[PyData.depth],by simp[noDict]⟩
theorem okD.none:okD n .none:=⟨by simp[PyData.canLay0],by simp[PyData.depth],by simp[noDict]⟩
theorem okD.all:∀ {xs:List PyData},(∀ d∈xs,ZAM)->PyData.canLayAll0 xs=true/\PyData.depthAll xs<=n/\noDicts xs=true
 | [],_=>⟨by simp[PyData.canLayAll0],by simp[PyData.depthAll],by simp[noDicts]⟩
 | x::xs,h=>by
  obtain⟨a,b,c⟩:=okD.all λ d z=>h d ZQR
  obtain⟨j,F,q⟩:=ZQ8
  refine⟨by simp[PyData.canLayAll0,a,j],?_,by simp[noDicts,c,q]⟩
  rw[PyData.depthAll]
  lia
theorem okD.list (h:∀ d∈xs,ZAM):okD (n+1) (.list xs):=by
 obtain⟨a,b,c⟩:=ZUY
 exact⟨by simp[PyData.canLay0,a],by rw[PyData.depth];lia,by simp[noDict,c]⟩
theorem okD.tuple (h:∀ d∈xs,ZAM):okD (n+1) (.tuple xs):=by
 obtain⟨a,b,c⟩:=ZUY
 exact⟨by simp[PyData.canLay0,a],by rw[PyData.depth];lia,by simp[noDict,c]⟩
theorem okD.mono (h:ZAM) (l:n<=m):okD m d:=⟨h.1,ZTj,h.2.2⟩
theorem okD.shaped (h:ZAM) (l:n<=64):SeqAt.shaped d=true:=by
 unfold SeqAt.shaped
 rw[h.1,FX ZTj]
 rfl
theorem okD.self (h:ZAM):PyData.eqv d d=true:=jW h.2.2
theorem eZ {K:PySem.W.Frag}{H:Hp}:∀ {ns:List Int},dj K H Z2O ZI9
 | []=>.nil
 | n::ns=>.cons (.int n) eZ
theorem gy {n:Nat}{ns:ZU}:∀ d∈ns.map PyData.int,ZAM:=λ d hd=>by
 obtain⟨i,_,rfl⟩:=ZX7
 exact .int
theorem gD.freeze (g:ZFz) (n:H p=none) (h:H' p=some o):gD H G (L2.upd G' p o) H':=by
 refine⟨λ b u e=>?_,λ b u e=>?_,λ b u e=>?_⟩
 ·by_cases j:b=p
  ·subst j
   have:=ZMV
   rw[h] at this
   rw[aU];exact this
  ·rw[aV j];exact ZC5
 ·by_cases j:b=p
  ·subst j;rw[aU] at e;rw[h];exact e
  ·rw[aV j] at e;exact g.held _ _ e
 ·by_cases j:b=p
  ·subst j;exact .inr n
  ·rw[aV j] at e;exact g.new _ _ e
theorem gD.then (g:gD H G G1 H1) (k:gD H1 G1 G2 H2) (s:∀ b o,H b=some o->∃ u,H1 b=some u):gD H G G2 H2:=
 ⟨g.sub.trans k.sub,k.held,λ b o e=>by
  rcases k.new b o e with z|z
  ·exact g.new b o z
  ·refine .inr ?_
   cases q:H b with
   | none=>rfl
   | some u=>obtain⟨F,j⟩:=s b u q;rw[z] at j;cases j⟩
theorem dj.len {K:PySem.W.Frag}{H:Hp}:∀ {xs:List V}{ds:List PyData},dj K H xs ds->xs.length=ds.length
 | _,_,.nil=>rfl
 | _,_,.cons _ r=>by simp[dj.len r]
section
variable {X:Cx}{e a b:Expr}{es:List Expr}{te ta tb:TE}{t:TA}{pos:Pos}{ks:List (Option Expr)}{vs:List Expr}{ts:List (TE×TE)}
end
def Top (val:Nat->Int) (j:Nat) (m:Int):Prop:=(∀ i,i<j->val i<=m)/\∃ i,i<j/\val i=m
section
variable {prog:Program}{w:World}{A:Around}{R:Result->Shared->Prop}{it S:Addr}{fp wr:List Addr}{n:Nat}{Pi:Nat->Value->Prop}{St:Nat->Heap->Prop}{kw:List (Str×Value)}{val:Nat->Int}
theorem wq (W:Z1r) (hv:∀ i v,Pi i v->∃ t,v=.int ZSS t) (out:S∉fp) :
  ∀ (left j:Nat) (s:Shared) (m:Int) (t:Tok) (c:Nat),left=n-j->0<j->j<=n->St j s.heap->Top val j m ->
   s.heap.get? S=some { cls:=ZO,dict:=none,data:=.seq #[ZXJ,ZXJ] c,slots:=#[] } ->
   (∀ m' t' h' tk,Top val n m'->(∀ b o,b∉wr->b≠S->s.heap.get? b=some o->h'.get? b=some o)->R (.ok (.ret (.int m' t'))) { s with heap:=h',toks:=tk }) ->
   codeAny ZE A Z9R R s:=by
 have M:S∉wr:=λ z=>Z7W
 have nm:(toString "max" ++ toString ".loop" :ZD2) = "max.loop":=Z3
 intro left
 induction left with
 | zero=>
  intro j s m t c hl h0 hj V tp hS J
  obtain rfl:j=n:=Z2
  refine Z7D
  rw[Z33]
  refine Z3F
  refine E8 (Ht (W.done s _ _ V λ h' tk kp=>?_))
  refine E8 (G6 ZRK rfl ZEO)
  exact J m t _ tk tp λ b o Z nS e=>ZEb
 | succ left ih=>
  intro j s m t c hl h0 hj V tp hS J
  have lt:j<n:=Z2
  refine Z7D
  rw[Z33]
  refine Z3F
  refine E8 (Ht (W.item j s _ _ lt V λ v h' tk pv L kp=>?_))
  have U:=ZRK
  obtain⟨u,rfl⟩:=ZUl
  refine Z7E
  refine ZKL
  refine CmpOf.ints_gt (P:=λ i v=>∃ t,v=.int ([ZJE,m].getD i 0) t) (λ i=>[ZJE,m].getD i 0) (λ _ _ z=>z) 0 1 _ _ _ _ _ ⟨u,rfl⟩ Z8r ?_
  refine ZLb
  refine ZEO
  by_cases g:val j>m
  ·have a1:Top val (j+1) (ZJE):=⟨λ i hi=>by
    by_cases e:i=j
    ·subst e;lia
    ·have:=ZUM;lia,j,Z2,rfl⟩
   have gb:(λ i j'=>decide ([ZJE,m].getD i 0 > [ZJE,m].getD j' 0)) 0 1=true:=FX g
   rw[Fl gb]
   refine E8 (G6 U rfl ZEP)
   rw[nm]
   refine Fb ⟨Z30,ih (j+1) _ ZJE u _ Z2 Z2 lt ZA3 a1 (Heap.get?_update_self _ U rfl) λ m' t' O G q Y=>?_⟩
   ·exact(Heap.get?_update_other _ _ (λ z:S=b=>out (z ▸ hb))).trans e
   ·exact J m' t' O G q λ b o Z nS e=>Y b o Z nS ZEb
  ·have a1:Top val (j+1) m:=⟨λ i hi=>by
    by_cases e:i=j
    ·subst e;lia
    ·exact ZUM,let ⟨i,a,b⟩:=tp.2;⟨i,Z2,b⟩⟩
   have gb:¬ ((λ i j'=>decide ([ZJE,m].getD i 0 > [ZJE,m].getD j' 0)) 0 1=true):=λ z=>g ZW3
   rw[Fj gb]
   refine ZEP
   rw[nm]
   refine Fb ⟨Z30,ih (j+1) _ m t c Z2 Z2 lt L a1 U λ m' t' O G q Y=>?_⟩
   exact J m' t' O G q λ b o Z nS e=>Y b o Z nS (kp b o Z e)
theorem rM (W:Z1r) (hv:∀ i v,Pi i v->∃ t,v=.int ZSS t) (out:S∉fp) (J:ZRi) (hS:s.heap.get? S=some { cls:=ZO,dict:=none,data:=.seq #[] c,slots:=#[] })
  (none:n=0->∃ k d j,kw=(k,d)::j/\∀ h' tk,(∀ b o,b∉wr->b≠S->s.heap.get? b=some o->h'.get? b=some o)->R (.ok (.ret d)) { s with heap:=h',toks:=tk })
  (Z:∀ V t' h' tk,Top val n V->(∀ b o,b∉wr->b≠S->s.heap.get? b=some o->h'.get? b=some o)->R (.ok (.ret (.int V t'))) { s with heap:=h',toks:=tk }) :
  codeAny ZE A Z9R R s:=by
 have M:S∉wr:=λ z=>Z7W
 have nm:(toString "max" ++ toString ".loop" :ZD2) = "max.loop":=Z3
 refine Z7D
 rw[Z33]
 refine Z3F
 by_cases n0:n=0
 ·obtain⟨k,d,j,rfl,q⟩:=none n0
  refine E8 (Ht (W.done s _ _ (by rw[n0];exact J) λ h' tk U=>?_))
  exact E8 (GZ (Fb (q h' tk λ b o Y _ e=>ZV9)))
 ·refine E8 (Ht (W.item 0 s _ _ Z2 J λ v h' tk pv L U=>?_))
  have G:=U S _ M hS
  obtain⟨u,rfl⟩:=ZUm
  refine Z7E
  refine E8 (G6 G rfl ?_)
  rw[nm]
  refine Fb ⟨Z30,wq W hv out (n-1) 1 _ (val 0) u _ rfl Z2 Z2 ZA3 ⟨λ i hi=>?_,0,Z2,rfl⟩ (Heap.get?_update_self _ G rfl) λ V t' a1 O q a2=>?_⟩
  ·exact(Heap.get?_update_other _ _ (λ z:S=b=>out (z ▸ hb))).trans e
  ·obtain rfl:i=0:=Z2
   exact ZGL
  ·exact Z V t' a1 O q λ b o Y nS e=>a2 b o Y nS ((Z0R).trans ZV9)
end
theorem sr (a d):argsOk "max" ⟨[a],[("default",d)]⟩:=by unfold argsOk;kernel_rfl
section
variable {X:Cx}{K:PySem.W.Frag}
def oa (ns:ZU) (m:Int):Prop:=m∈ns/\∀ z∈ns,z<=m
theorem vL (h:Top ZSO ns.length m):oa ns m:=by
 obtain⟨h1,i,hi,e⟩:=h
 have g:∀ j (q:j<ns.length),ns.getD j 0=ns[j]:=λ j q=>by rw[Hx,E9 q];rfl
 refine⟨?_,λ z G=>?_⟩
 ·have F:ns.getD i 0=m:=e
  rw[g i hi] at F
  rw[<- F];exact Kh hi
 ·obtain⟨j,q,rfl⟩:=FQ G
  have:=h1 j q
  simp only[] at this
  rw[g j q] at this;exact this
theorem qD (hc:X.calm=true) (I:Z8) (hq:SqL X.K H l Z2O)
  (h0:ns=[]->∃ k d j,kw=(k,d)::j/\∃ x,RelV x d/\Q x H) (h1:∀ m,oa ns m->Q Z4Q H) :
  wpAny Z5 X.A.in1 (pyIter Zv) (λ it Y=>∃ Z:Addr,it=.ref Z/\codeAny Z5 X.A (.builtin "max.loop" ⟨[.ref Z,.none,.ref Y.heap.objs.size],kw⟩)
   (λ r s'=>match r with | .ok (.ret v)=>EP X pins σ Q v s' | .ok _=>False | .error e=>X.xe e s') { Y with heap:=Y.heap.push { cls:=.type "list",data:=.seq #[] 0 } }) X.xe s:=by
 obtain⟨F,rv,U,hz⟩:=ZCO
 have hI:=jM rv
 have O:=IntsAre.length hI
 have lt:l<s.heap.objs.size:=by obtain⟨o,e,_⟩:=U.isList;exact ZK
 refine Jq U.isList ⟨s.heap.objs.size,rfl,?_⟩
 have W:=Walks.list (A:=X.A.in1) (prog:=X.prog) (w:=X.w) (by simpa using I.ok.hd hc) s.heap.objs.size l (Fu lt) F.toArray
 have sz:(s.heap.push { cls:=ZGS,data:=.fields #[Z8g,ZBk] }).objs.size=s.heap.objs.size+1:=Heap.size_push ..
 have nl:F.toArray.size=ns.length:=by rw[FD];lia
 have L:∀ {h':Heap},(∀ b o,b∉[s.heap.objs.size]->b≠s.heap.objs.size+1->((s.heap.push { cls:=ZGS,data:=.fields #[Z8g,ZBk] }).push { cls:=ZO,data:=.seq #[] 0 }).get? b=some o->h'.get? b=some o)->∀ b o,s.heap.get? b=some o->h'.get? b=some o:=λ J b o e=>by
  have lb:=ZK
  exact J b o (by simp only[Fd];exact Fu lb) (Fu (Gx lb)) Z2z
 rw[sz]
 refine rM (val:=λ i=>ZH_) W (λ i v hv=>?_) ?_ (W.frame 0 _ _ ⟨Z2i,U.isList.push _⟩ λ b _ o e=>ZG) (by rw[<- sz];exact ZH) (λ n0=>?_) λ m' t' h' tk M J=>?_
 ·have G:F[i]? = some v:=by simpa using hv
  have li:i<ns.length:=by rw[<- O];exact ZSu
  obtain⟨u,hu,ru⟩:=rv.get (i:=i) (x:=V.int ns[i]) (by unfold iV;rw[Ff,E9 li];rfl)
  rw[G] at hu
  cases hu
  obtain⟨t,rfl⟩:=ru
  exact⟨t,by rw[Hx,E9 li];rfl⟩
 ·intro z
  simp only[Fi,Ft,F8] at z
  rcases z with z|z
  ·exact absurd z ZSq
  ·exact absurd z (Gp ZVW)
 ·have e0:ns=[]:=GO Z2
  obtain⟨k,d,j,rfl,x,rx,q⟩:=h0 e0
  exact⟨k,d,j,rfl,λ h' tk J=>⟨x,H,ZQP,rx,q⟩⟩
 ·rw[nl] at M
  exact⟨.int m',H,ZQP,⟨t',rfl⟩,h1 m' (vL M)⟩
inductive ya (K:PySem.W.Frag) (xs:List V) (H:Hp) (Q:VK):Prop
 | mk:∀ p ns,xs=[Z00]->SqL K H p Z2O->ns≠[]->(∀ m,oa ns m->Q Z4Q H)->ya K xs H Q
theorem me (G:X.calm=true) (j:X.K=K:=by rfl):cN X Z78 (ya K):=by
 subst j
 intro pins s σ H xs W Q I r h
 obtain⟨p,U,rfl,J,L,q⟩:=h
 obtain⟨u,rfl,M⟩:=Z4g
 cases M
 have nm:(toString "max" ++ toString ".loop" :ZD2) = "max.loop":=Z3
 refine call_function_tree F.kind_max F.plain_max F.entry_max (F.args_max1 _) ?_
 refine E8 (m:=Builtin.Builtins.bindParams "max" Z3C 0 Z8s) (GD (show Builtin.Builtins.bindParams "max" Z3C 0 Z8s=pure [none,none] from rfl) ?_)
 refine Z7E
 refine E8 (Ga (qD G I J (kw:=[]) (λ z=>absurd z L) q) (λ it V w=>?_) λ _ _ z=>z)
 obtain⟨O,e,z⟩:=w
 subst e
 refine ZJi
 rw[nm]
 exact ZMm
inductive uo (K:PySem.W.Frag) (Q:VK) (vs:List V) (zs:List V) (H2:Hp):Prop
 | mk:∀ p ns y,vs=[Z00]->zs=[y]->SqL K H2 p Z2O->(ns=[]->Q y H2)->(∀ m,oa ns m->Q Z4Q H2)->uo K Q vs zs H2
def C9 (K:PySem.W.Frag) (ta tk:TA):TE:=λ σ H Q=>ta σ H λ vs H1=>tk σ H1 λ zs H2=>uo K Q vs zs H2
theorem wN {prog:Program}{w:World}{A:Around}{E:Value->Shared->Prop}{s:Shared}{id:String}{f:Builtin}{us:Zr}{kw:List (Str×Value)}{R:Value->Shared->Prop}(k1:builtinKind id=none) (k2:plainId id=true) (k3:entryFor table id=some f) (F:argsOk id ZBt)
  (j:wpAny ZE A.in1 (f ZBt) (λ q s'=>match q with
   | .done z=>(match (Except.ok z:Result) with | .ok (.ret v)=>R v s' | .ok _=>False | .error e=>E e s')
   | .again z=>z.quiet=true/\codeAny ZE A z (λ r s'=>match r with | .ok (.ret v)=>R v s' | .ok _=>False | .error e=>E e s') s') E s) :
  wpAny ZE A (call Z1g us kw) R E s:=by
 refine IV (Ja k2 k3 ?_)
 simp only[checkBuiltinCall,k1]
 cases J:Manifest.signature? id with
 | none=>exact Fb j
 | some sig=>
  have G:Bind.checkArgs id sig ZBt=pure ():=by simpa only[argsOk,J] using F
  show wpAny _ A.in1 (Bind.checkArgs id sig ZBt) _ _ s
  rw[G];exact Fb j
theorem xu (M:X.calm=true) (U:Gl X "max") (V:X.mg "max" = none) (Y:bootBuiltins "max" = some Z78) (L:PA X [e] ta) (O:PK X Z5c tk) (hs:isStar e=false:=by rfl) (J:X.K=K:=by rfl) :
  PE X (.Call (.Name "max" p) [e] Z5c pos) (C9 K ta tk):=by
 subst J
 intro pins s σ H Q I h
 refine HX (iG I U V Y ?_)
 have es:starEach [e] X.env=[(false,Z0k)]:=qK hs
 have nm:(toString "max" ++ toString ".loop" :ZD2) = "max.loop":=Z3
 refine PyProof.Rows.callWith_kw (kws:=Z5c) (thn (L pos pins s σ H _ I h) λ us s1 z=>?_) (by rw[es];rfl) (by rw[es];rfl)
 obtain⟨vs,H1,j,r1,Z⟩:=z
 refine thn (O pos pins s1 σ H1 _ j Z) λ ks s2 z=>?_
 obtain⟨zs,H2,q,r2,q2⟩:=z
 obtain⟨l,ns,y,rfl,rfl,W,h0,h1⟩:=q2
 obtain⟨u,rfl,ru⟩:=ZWF
 cases ru
 obtain⟨d,rfl,rd⟩:=vals1 r2
 show wpAny Z5 X.A (call Z78 [Z8g] [("default",d)]) _ _ s2
 refine wN F.kind_max F.plain_max F.entry_max (sr _ _) ?_
 refine E8 (m:=Builtin.Builtins.bindParams "max" Z3C 0 ⟨[],[("default",d)]⟩) (GD (show Builtin.Builtins.bindParams "max" Z3C 0 ⟨[],[("default",d)]⟩=pure [none,some d] from rfl) ?_)
 refine Z7E
 refine E8 (Ga (qD M q W (kw:=[("default",d)]) (λ z=>⟨_,d,[],rfl,y,rd,h0 z⟩) h1) (λ it s3 w=>?_) λ _ _ z=>z)
 obtain⟨I3,G,z⟩:=w
 subst G
 refine ZJi
 rw[nm]
 exact ZMm
end
theorem cS:∀ (j:List (Str×NameKind)) (n:Nat) (acc:List (Str×Addr)),cellsFrom n j acc=cellsFrom n j []++acc
 | [],_,_=>rfl
 | (x,k)::r,n,acc=>by
  unfold cellsFrom
  split
  ·rw[cS r (n+1) ((x,n)::acc),cS r (n+1) [(x,n)],Gd];rfl
  ·exact cS r n acc
theorem fm:∀ {j:List (Str×NameKind)}{n:Nat}{acc:List (Str×Addr)}{x:Str}{c:Addr},(x,c)∈cellsFrom n j acc->(x,c)∈acc\/∃ y∈j,y.1=x/\y.2=.cell
 | [],_,_,_,_,h=>Z9t
 | (y,k)::r,n,acc,x,c,h=>by
  unfold cellsFrom at h
  split at h
  ·rename_i G
   rcases fm h with z|⟨F,m,q⟩
   ·rcases Fi.mp z with z|z
    ·cases z;exact .inr ⟨_,Fn,rfl,Hv.mp G⟩
    ·exact ZB1
   ·exact ZGW
  ·rcases fm h with z|⟨F,m,q⟩
   ·exact ZB1
   ·exact ZGW
theorem jy (f:Str×Value->PUnit->Sem (ForInStep PUnit)) (z:∀ n v u,f (n,v) u=(do storeName env n v;pure (.yield ⟨⟩))) (F:env.scope.kind=.function) :
  ∀ (j:List (Str×Value)) (m:Str->Option Value) (s:Shared) (Q:PUnit->Shared->Prop),s.heap.Ns env.locals m->(∀ x∈j,env.kindOf x.1=some .local) ->
   (∀ h' tk,h'.Ns env.locals (bindL env.kindOf j m)->Heap.SameBut env.locals s.heap h'->Q ⟨⟩ { s with heap:=h',toks:=tk })->wpAny M A (forIn j ⟨⟩ f) Q E s
 | [],m,s,Q,n,_,h=>by rw[List.forIn_nil];exact Fb (h s.heap s.toks n (Heap.SameBut.refl ..))
 | (x,v)::r,m,s,Q,n,hl,h=>by
  rw[IA,z]
  have G:env.kindOf x=some .local:=hl (x,v) Fn
  refine E8 (E8 (wpAny_storeName_local G n (λ h1 U J=>Z5t) (by rw[F];rfl)))
  refine jy f z F r _ _ Q U (λ y O=>hl y (Fo _ O)) λ h2 tk V L=>?_
  refine h h2 tk ?_ ⟨L.1.trans J.1,λ b q=>(L.2 b q).trans (J.2 b q)⟩
  unfold bindL
  rw[Fl G]
  exact V
theorem pL {M:Model}{A:Around}{E:Value->Shared->Prop}{s:Shared}{scope:Scope}{cl:List (Str×Addr)}{j:List (Str×Value)}{qual:Str}{z:ZCM}{q:Value}{Q:Env->Shared->Prop}
  (Y:scope.kind=.function) (Z:∀ x∈j,scope.names.lookup x.1=some .local)
  (W:∀ env,env=newEnv scope s.heap.objs.size mainGlobals (cellsFrom (s.heap.objs.size+1) scope.names cl) qual z q none builtinsNs ->
   ∀ h' tk,h'.Ns s.heap.objs.size (bindL env.kindOf j λ _=>none)->(∀ b o,s.heap.get? b=some o->h'.get? b=some o) ->
    (∀ n c,(n,c)∈cellsFrom (s.heap.objs.size+1) scope.names []->h'.IsCell c none/\s.heap.objs.size+1<=c)->(cellsFrom (s.heap.objs.size+1) scope.names []).Pairwise (λ x y=>x.2≠y.2)->Q env { s with heap:=h',toks:=tk }) :
  wpAny M A (newFunctionEnv scope mainGlobals cl j qual z q none builtinsNs) Q E s:=by
 simp only[newFunctionEnv,Option.isSome_none,Fx,Gi]
 refine E8 (wpAny_alloc ?_)
 refine E8 (wpAny_layCells _ (λ name F G=>by cases J:F == NameKind.cell<;>simp[J]) _ _ _ _ ?_)
 have O:=cellsFrom_ok scope.names (s.heap.push { cls:=ZF3,data:=.dict #[] }) (s.heap.objs.size+1) [] ⟨λ _ _ L=>(nomatch L),List.Pairwise.nil⟩ (by rw[Heap.size_push];exact Z9)
 rw[Heap.size_push] at O
 rw[show ({ s with heap:=s.heap.push { cls:=ZF3,data:=.dict #[] } }:Shared).heap.objs.size=s.heap.objs.size+1 from Heap.size_push ..]
 refine E8 (jy (env:=newEnv scope s.heap.objs.size mainGlobals (cellsFrom (s.heap.objs.size+1) scope.names cl) qual z q none builtinsNs)
  _ (λ _ _ _=>rfl) Y j ZQf _ _ ((Heap.Ns.new s.heap ZF3).keeps (pushCells_keeps _ _)) Z λ h' tk n U=>Fb (W _ rfl h' tk n (λ b o e=>?_) (λ n c L=>?_) O.apart))
 ·exact(U.2 b ZAg).trans (pushCells_keeps _ _ b o ZG)
 ·obtain⟨z1,V⟩:=O.empty n c L
  exact⟨z1.sameBut U (Gp V),V⟩
structure kI (N ps F:List Str) (sc:Scope):Prop where
 kind:sc.kind=.function
 co:sc.isCoroutine=false
 gen:sc.isGenerator=false
 nd:N.Nodup
 pre:N.take ps.length=ps
 post:N.drop (N.length-F.length)=F
 fit:ps.length+F.length<=N.length
 par:∀ x∈ps,sc.names.lookup x=some .local
 fre:∀ y∈sc.names,y.2=.free->y.1∈F
 isf:∀ x∈F,sc.names.lookup x=some .free
 noc:∀ y∈sc.names,y.2=.cell->y.1∉F
structure Clo (H:Hp) (name qual:Str) (st:Stmt) (F:List Str) (f:Addr) (ws:List V):Prop where
 ex:∃ (cl:List (Str×Addr)) (doc pm ctv:Value) (c':Addr) (oc:Obj) (vs:Array Value) (t:Tok),
  H f=some (.frz { cls:=Z3g,data:=.func (PySem.W.fnX name qual (jJ st) ZLu ZAc cl .none .none doc pm none Z84 ctv) } ZPi) /\
  H c'=some Z2_/\oc.data=.fields vs/\vs[1]? = some ZFO /\
  (∀ x c,cl.lookup x=some c->x∈F)/\(∀ x y c,cl.lookup x=some c->cl.lookup y=some c->x=y) /\
  ∀ (i:Nat) x v,F[i]? = some x->ws[i]? = some v->∃ c o u,cl.lookup x=some c/\H c=some Z3N/\o.data=.cell ZBm/\RelV v u
 len:ws.length=F.length
theorem Clo.same {H H':Hp}{name qual:Str}{st:Stmt}{F:Zo}{f:Addr}{z:Z11}(k:∀ b o u,H b=some Z3M->H' b=some Z3M) (c:Clo H name qual st F f z):Clo H' name qual st F f z:=by
 obtain⟨⟨cl,q,pm,j,G,Z,vs,t,J,L,M,O,U,W,Y⟩,l⟩:=c
 exact⟨⟨cl,q,pm,j,G,Z,vs,t,k _ _ _ J,k _ _ _ L,M,O,U,W,λ i x v h1 h2=>let ⟨c,o,u,z1,z2,z3,z4⟩:=Y i x v h1 h2;⟨c,o,u,z1,k _ _ _ z2,z3,z4⟩⟩,l⟩
noncomputable def iw (N:Zo) (vs ws:Z11):St:=vs.map some++List.replicate (N.length-vs.length-ws.length) none++ws.map some
noncomputable def cxC (CX:CXT) (P:Program) (w:World) (K:PySem.W.Frag) (mg:Str->Option Value) (base:Heap) (N F:Zo) (qual:Str) (scope:Scope) (f:Addr) (cd:Value) (cl:List (Str×Addr)) (A:Around) (outer:Z5Q) (s:Shared) (H:Hp) (E:XK):Cx where
 prog:=P
 w:=w
 K:=K
 mg:=mg
 base:=base
 A:=A.deeper (PySem.W.envX qual scope s.heap.objs.size f cd (cellsFrom (s.heap.objs.size+1) scope.names cl))
 N:=N
 s₀:=s
 H₀:=H
 env:=PySem.W.envX qual scope s.heap.objs.size f cd (cellsFrom (s.heap.objs.size+1) scope.names cl)
 outer:=outer
 stack:=PySem.W.envX qual scope s.heap.objs.size f cd (cellsFrom (s.heap.objs.size+1) scope.names cl)::outer
 ex:=[]
 calm:=true
 fn:=λ x=>!F.contains x
 pn:=[]
 xe:=λ e s'=>wpAny Zh (A.deeper (PySem.W.envX qual scope s.heap.objs.size f cd (cellsFrom (s.heap.objs.size+1) scope.names cl))) (leaving (PySem.W.envX qual scope s.heap.objs.size f cd (cellsFrom (s.heap.objs.size+1) scope.names cl)) e)
  ZAE Z9N s'
theorem qx (z:vs.length+ws.length<=N.length) (h:(ZTD)[i]? = some Z4c) :
  (i<vs.length/\vs[i]? = some v)\/∃ j,i=N.length-ws.length+j/\ws[j]? = some v:=by
 unfold iw at h
 by_cases h1:i<vs.length
 ·rw[Gd,F4 (by simpa using h1),Ff] at h
  cases e:vs[i]? with
  | none=>rw[e] at h;cases h
  | some a=>rw[e] at h;cases h;exact .inl ⟨h1,rfl⟩
 ·by_cases h2:i<N.length-ws.length
  ·rw[F4 (by simp;lia),FI (by simpa using h1),JH] at h
   split at h<;>cases h
  ·rw[FI (by simp;lia),Ff] at h
   refine .inr ⟨i-(N.length-ws.length),Z2,?_⟩
   have e:i-(List.map some vs++List.replicate (N.length-vs.length-ws.length) none).length=i-(N.length-ws.length):=by simp;lia
   rw[e] at h
   cases q:ws[i-(N.length-ws.length)]? with
   | none=>rw[q] at h;cases h
   | some a=>rw[q] at h;cases h;rfl
theorem qt {CX:CXT}{P:Program}{w:World}{K:PySem.W.Frag}{mg:Str->Option Value}{base:Heap}{N ps F:Zo}{qual:Str}{scope:Scope}{f:Addr}{cd:Value}{cl:List (Str×Addr)}{A:Around}{outer:Z5Q}{s:Shared}{H:Hp}{E:XK}{us:Zr}{vs ws:Z11}{h':Heap}{tk:Nat}
  (S:kI N ps F scope) (hd:A.handled=none) (e0:ZBY) (hl:vs.length=ps.length) (r:ZEE) (wl:ws.length=F.length)
  (c1:∀ x c,cl.lookup x=some c->x∈F) (c2:∀ x y c,cl.lookup x=some c->cl.lookup y=some c->x=y)
  (c3:∀ (i:Nat) x v,F[i]? = some x->ws[i]? = some v->∃ c o u,cl.lookup x=some c/\H c=some Z3N/\o.data=.cell ZBm/\RelV v u)
  (n:h'.Ns s.heap.objs.size (bindL (PySem.W.envX qual scope s.heap.objs.size f cd (cellsFrom (s.heap.objs.size+1) scope.names cl)).kindOf Z9a λ _=>none)) (hk:∀ b o,s.heap.get? b=some o->h'.get? b=some o)
  (o1:∀ n c,(n,c)∈cellsFrom (s.heap.objs.size+1) scope.names []->h'.IsCell c none/\s.heap.objs.size+1<=c) (o2:(cellsFrom (s.heap.objs.size+1) scope.names []).Pairwise (λ x y=>x.2≠y.2)) :
  Inv Z1R [] ZTD H { s with heap:=h',toks:=tk }:=by
 have noA:∀ b:Addr,b∉(Z1R).ex:=λ b z=>absurd (show b∈([]:Z09) from z) ZA
 have look:∀ x c,(cellsFrom (s.heap.objs.size+1) scope.names cl).lookup x=some c->(x,c)∈cellsFrom (s.heap.objs.size+1) scope.names []\/cl.lookup x=some c:=λ x c e=>by
  rw[cS,J5] at e
  cases q:(cellsFrom (s.heap.objs.size+1) scope.names []).lookup x with
  | none=>rw[q] at e;exact .inr e
  | some d=>rw[q] at e;cases e;exact .inl (Gg q)
 have inF:∀ x c,cl.lookup x=some c->∃ o u,H c=some Z3N/\o.data=.cell ZBm/\h'.get? c=some o/\c<s.heap.objs.size:=λ x c e=>by
  obtain⟨i,hi,ei⟩:=GV.mp (c1 x c e)
  have hw:i<ws.length:=Z2
  obtain⟨c',o,u,z1,z2,z3,_⟩:=c3 i x ws[i] (by rw[ZDa,ei]) (E9 hw)
  rw[e] at z1;cases z1
  obtain⟨q,_⟩:=ZNh
  exact⟨o,u,z2,z3,ZWf,Z3Z⟩
 have nofn:∀ x,x∈F->(Z1R).fn x=false:=λ x hx=>by
  show (!F.contains x)=false
  rw[List.contains_iff_mem.mpr hx];rfl
 refine⟨⟨e0.mod,S.kind,rfl,rfl,Z9,λ y z c h1 h2=>?_,λ y hy=>?_,λ y c hf h=>?_,λ _=>hd,ZAz,ZOZ,λ b z=>Z73,e0.bs,e0.bsz,λ b _ _=>noA b,λ b z=>Z73,e0.iJ,e0.frf⟩,
  rfl,e0.bare,ZTT,⟨_,n,λ i y v h1 h2 h3=>?_⟩,λ y c h=>?_,ZL2,λ y c h=>?_,λ p hp=>absurd (show p∈([]:List (Addr×Obj)) from hp) ZA,ZMY,?_⟩
 ·rcases look y c h1 with a|a<;>rcases look z c h2 with b|b
  ·exact name_of_addr o2 a b
  ·obtain⟨_,_,_,_,_,lt⟩:=inF z c b
   exact absurd (FA lt (FC ZEd (ZIU).2)) ZB6
  ·obtain⟨_,_,_,_,_,lt⟩:=ZKx
   exact absurd (FA lt (FC ZEd (o1 z c b).2)) ZB6
  ·exact c2 y z c a b
 ·have hy:scope.names.lookup y=some .cell\/scope.names.lookup y=some .free:=hy
  show ∃ c,(cellsFrom (s.heap.objs.size+1) scope.names cl).lookup y=some c
  rw[cS,J5]
  rcases hy with hy|hy
  ·obtain⟨c,e⟩:=kN (n:=s.heap.objs.size+1) hy
   exact⟨c,by rw[e];rfl⟩
  ·obtain⟨i,hi,ei⟩:=GV.mp (S.fre _ (Gg hy) rfl)
   have hw:i<ws.length:=Z2
   obtain⟨c',_,_,z1,_⟩:=c3 i y ws[i] (by rw[ZDa,ei]) (E9 hw)
   cases q:(cellsFrom (s.heap.objs.size+1) scope.names []).lookup y with
   | none=>exact⟨c',by rw[z1];rfl⟩
   | some d=>exact⟨d,rfl⟩
 ·rcases look y c h with a|a
  ·have:=(ZIU).2
   show s.heap.objs.size<=c
   lia
  ·rw[ZJJ] at hf;cases hf
 ·have hi:i<N.length:=(Fc.mp h1).1
  rcases qx (by have:=S.fit;lia) h2 with ⟨hi,ha⟩|⟨j,rfl,ha⟩
  ·obtain⟨u,hu,rv⟩:=ZWV
   have hp:ps[i]? = some y:=by
    rw[<- S.pre,Ju Z2];exact h1
   have ndP:ps.Nodup:=by rw[<- S.pre];exact ZGC
   have k:=S.par y (Fg hp)
   exact⟨u,rv,ZCf⟩
  ·have hF:F[j]? = some y:=by
    rw[<- S.post,List.getElem?_drop,<- wl];exact h1
   obtain⟨c,o,u,z1,z2,z3,z4⟩:=c3 j y v hF ha
   obtain⟨q,_⟩:=ZNh
   refine⟨u,z4,.inr ⟨.inr (S.isf y (Fg hF)),c,?_,o,ZWf,z3⟩⟩
   show (cellsFrom (s.heap.objs.size+1) scope.names cl).lookup y=some c
   rw[cS,J5]
   cases q:(cellsFrom (s.heap.objs.size+1) scope.names []).lookup y with
   | none=>rw[z1];rfl
   | some d=>
    rcases fm (Gg q) with z|⟨y',m1,rfl,m3⟩
    ·exact ZCA
    ·exact absurd (Fg hF) (S.noc _ m1 m3)
 ·rcases look y c h with a|a
  ·exact⟨_,(ZIU).1⟩
  ·obtain⟨o,u,_,z3,z,_⟩:=ZKx
   exact⟨_,o,z,z3⟩
 ·rcases look y c h with a|a
  ·exact .inl (e0.hok.fresh (by have:=(ZIU).2;lia))
  ·obtain⟨o,u,z,_⟩:=ZKx
   exact .inr ⟨ZJJ,o,_,z⟩
 ·unfold iw
  show _=N.length
  rw[Fh,Fh,Fe,Fe,HD]
  have:=S.fit
  lia
structure vf (P:Program) (w:World) (K:PySem.W.Frag) (mg:Str->Option Value) (base:Heap) (CX:CXT) (k:Nat) (name qual:Str) (st:Stmt) (ps F:List Str) (sp:List V->Sp):Prop where
 len:∀ ws vs H Q E,sp ws vs H Q E->vs.length=ps.length
 run:∀ (f:Addr) (ws:List V) (A:Around) (outer:List Env) (s:Shared) (H:Hp) (us:List Value) (vs:List V) (Q:VK) (E:XK),dk k A->kY P w K mg base A outer s H->Clo H name qual st F f ws->Vals vs us->sp ws vs H Q E ->
  codeAny Zh A ZMD Z6J s
theorem vf.mono {P:Program}{w:World}{K:PySem.W.Frag}{mg:Str->Option Value}{base:Heap}{CX:CXT}{j k:Nat}{name qual:Str}{st:Stmt}{ps F:Zo}{sp:List V->Sp}(C:vf P w K mg base CX j name qual st ps F sp) (h:j<=k) :
  vf P w K mg base CX k name qual st ps F sp:=Z2R
def ic (H H':Hp):Prop:=∀ b o u,H b=some Z3M->H' b=some Z3M
theorem ic.refl (H:Hp):ic H H:=λ _ _ _ h=>h
theorem ic.trans (a:ic H H1) (b:ic H1 H2):ic H H2:=λ c o u h=>b c o u (a c o u h)
theorem mT {sc:Scope}{env:Env}(h:∀ y∈sc.names,y.2=.free->∃ c,env.cells.lookup y.1=some c) :
  ∃ cl,closureFor sc env=pure cl/\∀ x c,cl.lookup x=some c->∃ y∈sc.names,y.1=x/\y.2=.free:=by
 have go:∀ (names:List (Str×NameKind)) (cs:List (Str×Addr)),(∀ y∈names,y.2=.free->∃ c,env.cells.lookup y.1=some c) ->
   ∃ cl,(forIn names cs λ(x:Str×NameKind) (r:List (Str×Addr))=>(if (x.2 == NameKind.free)=true then do let c <- cellOf env x.1;pure (ForInStep.yield ((x.1,c)::r)) else pure (Z6U):Sem (ForInStep (List (Str×Addr)))))=pure cl /\
    ∀ x c,cl.lookup x=some c->(∃ c',cs.lookup x=some c')\/∃ y∈names,y.1=x/\y.2=.free:=by
  intro names
  induction names with
  | nil=>intro cs _;exact⟨cs,rfl,λ x c e=>.inl ⟨c,e⟩⟩
  | cons y r ih=>
   intro cs hn
   by_cases hy:y.2=.free
   ·obtain⟨c,hc⟩:=ZTE
    obtain⟨cl,e,h1⟩:=ih ((y.1,c)::cs) Z3b
    refine ZD4
    ·rw[IA]
     have e1:(y.2 == NameKind.free)=true:=by rw[hy];rfl
     have e2:cellOf env y.1=pure c:=by unfold cellOf;rw[hc]
     rw[e1,e2]
     exact e
    ·rcases h1 x c' e' with ⟨c2,z⟩|⟨z,m,q⟩
     ·rw[Hf] at z
      cases hb:x == y.1 with
      | true=>exact .inr ⟨y,Fn,(Hv.mp hb).symm,hy⟩
      | false=>rw[hb] at z;exact .inl ⟨c2,z⟩
     ·exact ZGV
   ·obtain⟨cl,e,h1⟩:=ih cs Z3b
    refine ZD4
    ·rw[IA]
     have e1:(y.2 == NameKind.free)=false:=by simpa using hy
     rw[e1]
     exact e
    ·rcases h1 x c' e' with z|⟨z,m,q⟩
     ·exact ZB1
     ·exact ZGV
 obtain⟨cl,e,h1⟩:=go sc.names [] h
 refine⟨cl,?_,λ x c e=>(h1 x c e).elim (λ⟨_,z⟩=>by simp at z) id⟩
 have e2:closureFor sc env=((forIn sc.names [] λ(x:Str×NameKind) (r:List (Str×Addr))=>(if (x.2 == NameKind.free)=true then do let c <- cellOf env x.1;pure (ForInStep.yield ((x.1,c)::r)) else pure (Z6U):Sem (ForInStep (List (Str×Addr))))) >>= λ s=>pure s):=rfl
 rw[e2,e]
 rfl
def nF (H:Hp) (P:Addr) (pos:Pos) (qual:Str):Prop:=
 H P=some (.tbl #[])\/∃ c' oc vs t,H P=some (.tbl #[Z7U,Z8Y,Z84])/\H c'=some Z2_/\oc.data=.fields vs/\vs[1]? = some ZFO
theorem nF.get (t:ZKs):∃ ps,H P=some ZM8:=by
 rcases t with t|⟨_,_,_,_,t,_⟩<;>exact⟨_,t⟩
theorem nF.same (k:ic H H') (e:H' P=H P) (t:ZKs):nF H' P pos qual:=by
 rcases t with t|⟨j,F,vs,tk,t,z,q⟩
 ·exact .inl ZUy
 ·exact .inr ⟨j,F,vs,tk,ZUy,ZUd,q⟩
def qY (P:Addr) (H H':Hp):Prop:=∀ b o,b≠P->H b=some o->H' b=some o
structure Tab (mg:Str->Option Value) (base:Heap) (c P:Addr):Prop where
 code:PySem.W.CodeHd base c P
 blt:base.BuiltinsAt mg P
 ne:mainGlobals≠P
section
variable {P:Program}{w:World}{H H1:Hp}{h h':Heap}{T:Addr}{ps more:Array Value}{fs:List Addr}
theorem grown (J:H T=some ZM8) (U:Z12) (a:ZUU) (b:∀ x,x≠T->H x=none->x<h.objs.size->H1 x=none) (c:∀ x o,x≠T->h.get? x=some o->h'.get? x=some o)
  (d:H1 T=some (.tbl (ps++more))) (O:h'.get? T=some { cls:=.none,data:=.fields (ps++more) }) (e:∀ x o,H x=none->H1 x=some o->bP P w H1 h' x o):Un fs [] H H1 h h'/\HOk P w H1 h':=by
 have G:∀ x,H x=none->x≠T:=λ x n z=>by rw[z,J] at n;cases n
 have j:∀ x o,H x=some o->(∀ q,o≠.tbl q)->x≠T:=λ x o n q z=>by rw[z,J] at n;cases n;exact q _ rfl
 refine⟨⟨λ x o q n _ _=>ZL7,λ x o q n _ _=>⟨o.slots,ZL7⟩,λ x o q n _=>b x (G x n) n Z3Z,λ x o q _=>?_,λ x xs q=>a x _ (j x _ q λ _=>Zq) q,λ x o u q=>a x _ (j x _ q λ _=>ZC6) q,λ x V q=>?_⟩,λ x o q=>?_⟩
 ·by_cases F:x=T
  ·subst F;exact⟨_,O⟩
  ·exact⟨o,c x o F q⟩
 ·by_cases F:x=T
  ·subst F;rw[J] at q;cases q;exact⟨more,d⟩
  ·exact⟨#[],by rw[a x _ F q];simp⟩
 ·by_cases F:x=T
  ·subst F
   rw[d] at q;cases q
   exact O
  ·cases L:H x with
   | none=>exact e x o L q
   | some o'=>
    have z:=a x o' F L
    rw[q] at z;cases z
    refine(U x o L).kX (λ y u M r=>c y u ?_ r) (λ y r=>a y _ (j y _ r λ _=>Zq) r) λ y xs r=>a y _ (j y _ r λ _=>ZC6) r
    rcases M with rfl|M
    ·exact F
    ·exact j y _ M λ _=>Zq
end
def PM (X:Cx) (body:Z5f) (t:TE):Prop:=
 ∀ (s:Shared) (σ:St) (H:Hp) (Q:VK),Inv X [] σ H s->t σ H Q->wpAny Z5 X.A (execs body X.env)
  (λ fl s'=>∃ u v H',fl=.ret u/\s'.os=X.s₀.os/\AllBare s'.gens/\Un X.fs X.ex X.H₀ H' X.s₀.heap s'.heap/\HOk X.prog X.w H' s'.heap/\RelV v u/\Q v H') X.xe s
def E2 (t:TS) (u:TE):TE:=λ σ H Q=>t { nx:=λ σ' H'=>u σ' H' Q,rt:=λ _ _=>False } σ H
theorem nj {X:Cx}{st:Stmt}{rest:Z5f}{t:TS}{u:TE}(h1:ZLJ) (h2:PM X rest u):PM X (st::rest) (E2 t u):=by
 intro s σ H Q I h
 refine Jz (thn (h1 [] s σ H _ I h) λ f F q=>?_)
 cases f with
 | next=>
  obtain⟨j,H',z,q⟩:=q
  exact h2 F j H' Q z q
 | ret v=>obtain⟨_,_,_,_,_,q⟩:=q;exact Z3x
 | brk=>obtain⟨_,_,_,q⟩:=q;exact Z3x
 | cont=>obtain⟨_,_,_,q⟩:=q;exact Z3x
theorem B3 {CX:CXT}{P:Program}{w:World}{K:PySem.W.Frag}{mg:Str->Option Value}{base:Heap}{k:Nat}{f:Addr}{name qual:Str}{j:Arguments}{F:Z5f}{scope:Scope}{dV kV L pm z ct oc:Value}{an od:ZCM}
  {a2:Z8Q}{N ps:Zo}{sp:Sp}(lk:K.lookup f=some ⟨oc,od,.func Z5S,a2⟩) (W:PySem.W.codeIn K z qual=true) (S:ZNm)
  (U:∀ vs H Q E,sp vs H Q E->vs.length=ps.length)
  (G:∀ (A:Around) (outer:List Env) (s:Shared) (H:Hp) (vs:List V) (Q:VK) (E:XK),dk k (A.deeper (envOfC qual scope s.heap.objs.size f z))->sp vs H Q E ->
   ∃ t,PM (Z5p).nox F t/\t Z34 H Q) :
  bR P w K mg base CX (k+1) f Z5S ps sp:=by
 refine⟨U,λ A outer s H a3 us vs Q E Y M hb r O=>?_⟩
 have hl:=U _ _ _ _ O
 have KX:Z3n:=Z7L
 have a1:s.heap.NoLimit:=Z6d
 have J:∀ y∈ps.zip us,scope.names.lookup y.1=some .local\/(scope.names.lookup y.1=some .cell/\((cellsFrom (s.heap.objs.size+1) scope.names []).lookup y.1).isSome=true):=λ⟨n,v⟩ hy=>by
  rcases S.par n (Je hy).1 with q|q
  ·exact ZLi
  ·exact ZB0
 refine Z1l
 refine wpAny_newFunctionEnv_cells S.kind J λ a4 he s1 x=>?_
 subst he
 refine⟨a1.keeps x.toInCall.keep,ZL4⟩
 obtain⟨t,ht,hq⟩:=G A outer s H vs Q E ZQw O
 have I:Inv Z5p [] Z34 H s1:=ZIV
 refine Ga (ht s1 Z34 H Q ZP7 hq) (λ fl s' Z=>?_) λ e s' Z=>False.elim Z
 obtain⟨u,v,H',rfl,o1,o2,o3,o4,o5,o6⟩:=Z
 exact⟨v,H',o1,o2,o3,o4,o5,o6⟩
theorem Fun.okM {CX:CXT}{P:Program}{w:World}{K:PySem.W.Frag}{mg:Str->Option Value}{base:Heap}{x qual:Str}{st:Stmt}{f c:Addr}{fd:FuncData}{N ps:Zo}{k:Nat}{sp:Sp}(F:ZH8) (L:fd.code=.ref c) (S:ZRX) (G:∀ vs H Q E,sp vs H Q E->vs.length=ps.length)
  (j:∀ (A:Around) (outer:List Env) (s:Shared) (H:Hp) (vs:List V) (Q:VK) (E:XK),dk k (A.deeper (envOfC qual ZAc s.heap.objs.size f Z6X))->sp vs H Q E ->
   ∃ t,PM (nv CX P w K mg base N qual ZAc f Z6X A outer s H E).nox ZLu t/\t Z34 H Q):bR P w K mg base CX (k+1) f fd ps sp:=by
 obtain⟨Z,od,Y,J,pm,U,q,W,O,rfl,M,z⟩:=F.ex
 obtain rfl:q=.ref c:=L
 exact B3 M z S G j
theorem y8 {F N:Zo}{ix:ZO8}(h:ix.map (λ i=>N[i]?)=F.map some):∀ (j:Nat) x,F[j]? = some x->∃ G,ix[j]? = some G/\N[G]? = some x:=λ j x e=>by
 have z:(F.map some)[j]? = some ZXU:=by rw[Ff,e];rfl
 rw[<- h,Ff] at z
 cases q:ix[j]? with
 | none=>rw[q] at z;cases z
 | some i=>rw[q] at z;exact⟨i,rfl,by simpa using z⟩
noncomputable def inDef (s:Stmt) (j:Nat):Stmt:=(fN s).getD j ZGZ
theorem rN {P:Program}{w:World}{K:PySem.W.Frag}{mg mb:Str->Option Value}{CX:CXT}{k:Nat}{fa a:Addr}{fd:FuncData}{x:Str}{sp:Sp}{j:Shared}{vs:Zr}{ns:ZU}{tabs:List (Addr×Addr)}
  (KX:K.In j.heap) (W:j.heap.Ns mainGlobals mg) (J:j.heap.Ns builtinsNs mb) (ai:∀ x:Str,x ≠ "__name__" -> mb x=bootBuiltins x) (a8:j.heap.NoLimit) (hg:j.gens = #[])
  (aj:∃ bm ob,mg "__builtins__" = some (.ref bm)/\bm≠builtinsNs/\j.heap.get? bm=some ob/\ob.cls=.type "module" /\ ob.dict=some builtinsNs/\ob.data=.plain)
  (hT:PySem.W.TabsAt tabs j.heap) (ag:∀ q∈tabs,K.lookup q.2=none)
  (ha:j.heap.get? a=some { cls:=ZO,data:=Z5G}) (hi:IntsAre vs ns) (hl:ns.length<=sizeLine) (hr:ZQC)
  (F:∀ base:Heap,K.In base->base.Ns mainGlobals mg->(∀ q∈tabs,ZHj)->bR P w K mg base CX k fa fd [x] sp) (a4:∀ (s:Shared) (u:Value),BindsTo s fd ZPn [(x,u)])
  (ak:∀ H:Hp,(∀ q∈tabs,H q.2=some (.tbl #[]))->SqL K H a (Z60)->sp ZLC H (λ v _=>v=.bl true) λ _ _ _=>False)
  (ae:∀ H e s',CX [] H j ZJq e s'->False) :
  codeAny Zh callerA ZGu (λ r s'=>r=.ok ZK1/\OldK j.heap s'.heap/\s'.os=j.os/\AllBare s'.gens) j:=by
 have rv:=lJ hi
 have aa:=hi.length
 have aT:a∉tabs.map (·.2):=λ m=>by
  obtain⟨q,M,e⟩:=ZRt
  have:=ZJt
  rw[e,ha] at this;cases this
 have Z:∀ H:Hp,(∀ b,H b=none\/(∃ o xs,H b=some ZSy)\/(b∈tabs.map (·.2)/\H b=some (.tbl #[])))->(∀ q∈tabs,H q.2=some (.tbl #[]))->SqL K H a (Z60)->HOk P w H j.heap->(∀ b,H b≠none->b=a\/b∈tabs.map (·.2))->(H a≠none->K.lookup a=none) ->
   codeAny Zh callerA ZGu (λ r s'=>r=.ok ZK1/\OldK j.heap s'.heap/\s'.os=j.os/\AllBare s'.gens) j:=by
  intro H hO af hS a9 hA hK
  have G:∀ {b:Addr} {o:Obj},j.heap.get? b=some o->H b=none->(Z6m).get? b=some o:=λ e n=>ug e n
  have ad:∀ {b:Addr} {o:Obj},j.heap.get? b=some o->H b≠none->o.cls=.type "list" \/ o=PySem.W.tabObj #[]:=λ{b o} e n=>by
   rcases hA b n with z|z
   ·subst z;rw[ha] at e;cases e;exact Z1x
   ·obtain⟨q,M,rfl⟩:=ZLV
    have:=ZJt
    rw[e] at this;cases this;exact Z9s
  have am:∀ {b:Addr} {o:Obj},j.heap.get? b=some o->o.cls≠.type "list" -> (∀ q,o.data≠.fields q)->H b=none:=λ{b o} e d1 d2=>by
   cases q:H b with
   | none=>rfl
   | some u=>
    rcases ad e (by rw[q];simp) with z|z
    ·exact absurd z d1
    ·rw[z] at d2;exact absurd rfl (d2 #[])
  have an:∀ {b:Addr} {o:Obj} {es:Array DictEntry} {ep:Nat},j.heap.get? b=some o->o.data=.dict es ep->H b=none:=λ{b o es ep} e d=>by
   cases q:H b with
   | none=>rfl
   | some u=>
    rcases hA b (by rw[q];simp) with z|z
    ·subst z;rw[ha] at e;cases e
     have d':Data.seq vs.toArray _=Data.dict es ep:=d
     cases d'
    ·obtain⟨r,O,rfl⟩:=ZLV
     have:=(ZQ7).2
     rw[e] at this;cases this
     have d':Data.fields #[]=Data.dict es ep:=d
     cases d'
  have Y:∀ {b:Addr} {m:Str->Option Value},j.heap.Ns b m->(Z6m).Ns b m:=λ{b m} ⟨o,es,ep,e,d,r⟩=>⟨o,es,ep,G e (an e d),d,r⟩
  have a7:K.In (Z6m):=λ b o e=>G (KX b o e) (by
   cases q:H b with
   | none=>rfl
   | some u=>
    rcases hA b (by rw[q];simp) with e'|z
    ·subst e'
     rw[hK (by rw[q];simp)] at e;cases e
    ·obtain⟨r,O,rfl⟩:=Fw.mp z
     rw[ag r O] at e;cases e)
  have hM:Mod K mg (Z6m):=⟨a7,Y W,⟨mb,Y J,ai⟩,let ⟨mc,h1,h2⟩:=a8;⟨mc,Y h1,h2⟩⟩
  have ah:∀ q∈tabs,Tab mg Z6m q.1 q.2:=λ q M=>by
   obtain⟨⟨o,ws,a6,tf,a3,tg,al,ab,tt,e1,r1,r2,r3⟩,e2⟩:=hT q M
   have n1:H q.1=none:=by
    cases z:H q.1 with
    | none=>rfl
    | some u=>
     rcases ad e1 (by rw[z];simp) with z|z
     ·rw[r1] at z;exact ZCA
     ·rw[z] at r1;exact absurd r1 (by simp[PySem.W.tabObj])
   obtain⟨bm,ob,b1,b2,b3,b4,b5,b6⟩:=aj
   have n2:H bm=none:=am b3 (by rw[b4];decide) (λ z=>by rw[b6];simp)
   refine⟨⟨o,ws,a6,tf,a3,tg,al,ab,tt,G e1 n1,r1,r2,r3⟩,⟨bm,ob,b1,b2,λ z=>?_,λ z=>?_,G b3 n2,b4,b5,b6⟩,λ z=>?_⟩
   ·obtain⟨og,es,ep,g1,g2,_⟩:=W
    rw[<- z,b3] at g1;cases g1;rw[b6] at g2;cases g2
   ·rw[z,e2] at b3;cases b3;cases b4
   ·obtain⟨og,es,ep,g1,g2,_⟩:=W
    rw[z,e2] at g1;cases g1;cases g2
  have e0:kY P w K mg Z6m callerA [] j H:=⟨rfl,hM,λ b o e=>wG e,Il (sO _ _),trivial,λ b J=>absurd (show b∈([]:Z09) from J) ZA,a9,.of_eq hg⟩
  refine Jh ((F _ a7 (Y W) ah).run callerA [] j H Z9U ZLC ZLC _ _ hr e0 (a4 j ZY) ZKh (ak H af hS)) λ r s' h=>?_
  cases r with
  | error e=>exact(ae H e s' h).elim
  | ok fl=>
   cases fl with
   | next=>exact ZGO
   | brk=>exact ZGO
   | cont=>exact ZGO
   | ret u=>
    obtain⟨v,H',os,a5,un,a1,r',q⟩:=h
    have q':v=.bl true:=q
    subst q'
    obtain rfl:u=Value.bool true:=r'
    have a2:∀ b o,j.heap.get? b=some o->s'.heap.get? b=some o\/(isCodeTable j.heap b/\o=PySem.W.tabObj #[]/\∃ ps,s'.heap.get? b=some (PySem.W.tabObj ps)):=λ b o e=>by
     cases q:H b with
     | none=>exact .inl (un.keep b o e q (by intro z;exact absurd (show b∈([]:Z09) from z) ZA) Zq)
     | some u=>
      rcases hO b with z|⟨ob,xs,z⟩|⟨m,z⟩
      ·rw[q] at z;cases z
      ·have z2:=un.frzs b ob _ z
       obtain⟨e1,_⟩:=a9 b _ z
       obtain⟨e2,_⟩:=a1 b _ z2
       rw[e] at e1;cases e1
       exact ZSK
      ·obtain⟨r,O,rfl⟩:=ZRt
       obtain⟨more,z2⟩:=un.tbls _ _ z
       have e2:s'.heap.get? r.2=some (PySem.W.tabObj (#[]++more)):=a1 _ _ z2
       have e3:=(ZQ7).2
       rw[e] at e3
       exact .inr ⟨((ZQ7).1.tab (ZQ7).2).isCodeTable,Option.some.inj e3,_,e2⟩
    refine⟨rfl,⟨λ b o e=>?_,λ b o e=>?_⟩,os,a5⟩
    ·rcases a2 b o e with z|⟨t,rfl,ps,hP⟩
     ·exact ZB1
     ·exact .inr (.inl ⟨t,rfl,#[],ps,rfl,by rw[Array.empty_append];exact hP⟩)
    ·rcases a2 b o e with z|⟨t,rfl,ps,hP⟩
     ·exact⟨o,z⟩
     ·exact⟨_,hP⟩
 have U:∀ q∈tabs,j.heap.get? q.2=some { cls:=.none,data:=.fields #[] }:=λ q M=>ZJt
 classical
 cases hk:K.lookup a with
 | some o=>
  have e:=KX a o hk
  rw[ha] at e
  cases e
  refine Z (λ b=>if b∈tabs.map (·.2) then some (.tbl #[]) else none) ZTy (λ q M=>ZVZ) (.inr ⟨_,vs.toArray,_,hk,rfl,rfl,rfl,by rw[FD,aa];exact hl,by simpa using rv⟩) (λ b u z=>?_) (λ b z=>?_) λ z=>absurd (Fj aT) z
  ·by_cases J:b∈tabs.map (·.2)
   ·exact .inr (.inr ⟨J,Fl J⟩)
   ·exact .inl (Fj J)
  ·by_cases J:b∈tabs.map (·.2)
   ·have z':=ZIL
    cases z'
    obtain⟨q,M,rfl⟩:=ZRu
    exact U q M
   ·have z':=ZIM
    cases z'
  ·by_cases J:b∈tabs.map (·.2)
   ·exact .inr J
   ·exact absurd (Fj J) z
 | none=>
  refine Z (λ b=>if b=a then some (.frz { cls:=ZO,data:=Z5G} (.lst Z60)) else if b∈tabs.map (·.2) then some (.tbl #[]) else none) ZTy (λ q M=>?_) (.inl (.inr ⟨{ cls:=ZO,data:=Z5G},Z1U⟩)) (λ b u z=>?_) (λ b z=>?_) λ _=>hk
  ·by_cases J:b=a
   ·exact .inr (.inl ⟨_,_,Fl J⟩)
   ·by_cases L:b∈tabs.map (·.2)
    ·exact .inr (.inr ⟨L,by rw[Fj J,Fl L]⟩)
    ·exact .inl (by rw[Fj J,Fj L])
  ·show (if q.2=a then _ else _)=_
   rw[Fj (λ z:q.2=a=>aT (by rw[<- z];exact Fq M)),ZVZ]
  ·by_cases J:b=a
   ·have z':=ZIL
    cases z'
    subst J
    exact⟨ha,by rw[Fe];exact hl,vs,_,rv,ha⟩
   ·have z':=ZIM
    by_cases L:b∈tabs.map (·.2)
    ·have z2:=(Fl L).symm.trans z'
     cases z2
     obtain⟨q,M,rfl⟩:=Fw.mp L
     exact U q M
    ·have z2:=(Fj L).symm.trans z'
     cases z2
  ·by_cases J:b=a
   ·exact .inl J
   ·by_cases L:b∈tabs.map (·.2)
    ·exact .inr L
    ·exact absurd (by rw[Fj J,Fj L]) z
theorem vc {l:PySem.W.OpenLaw}{n k:Nat}{q:Program}{M:Zo}{XP:(Str->Option Value)->Heap->Prop}{YP:World->Heap->Prop}{d:DefRec}{K:Params->PySem.W.Frag}{CX:World->CXT}{sp:World->Sp}{x:Str}(ts:Z09)
  (hn:l.most=some n) (a5:n<=sizeLine) (a3:d.params.defaults=[]) (hr:ZQC)
  (hY:∀ (w:World) (h:Heap),YP w h->(Z3E).In h) (hT:∀ (w:World) (h:Heap),YP w h->∀ P∈ts,h.get? P=some (PySem.W.tabObj #[]))
  (F:∀ (w:World) (mg:Str->Option Value) (Z:Addr) (h:Heap),(Z3E).In h->h.Ns mainGlobals mg->mg d.name=some (.ref Z) ->
   ∃ (fd:FuncData) (tabs:List (Addr×Addr)),(∀ q∈tabs,PySem.W.codeHdIn Z3E q.1 q.2=true/\(Z3E).lookup q.2=none/\q.2∈ts)/\(∀ P∈ts,P∈tabs.map (·.2))/\(∀ (s:Shared) (u:Value),BindsTo s fd ZPn [(x,u)]) /\
    ∀ base:Heap,(Z3E).In base->base.Ns mainGlobals mg->(∀ q∈tabs,ZHj)->bR l.prog w Z3E mg base (CX w) k Z fd [x] (sp w))
  (a6:∀ (w:World) (H:Hp) (a:Addr) (ns:List Int),ns.length<=n->(∀ P∈ts,H P=some (.tbl #[]))->SqL Z3E H a (Z60)->sp w ZLC H (λ v _=>v=.bl true) λ _ _ _=>False)
  (a1:∀ (w:World) (H:Hp) (s:Shared) (e:Value) (s':Shared),CX w [] H s ZJq e s'->False) :
  PySem.W.WalkO q M XP YP l.row.toRowW d [] Z5u:=by
 refine Att.oQ hn a3 λ w s₀ z mg mb Z o pm cd a7 a vs ns G Y ho hd a8 a4 W L j hg=>?_
 have KX:=hY w _ Y
 obtain⟨fd,tabs,J,U,hb,hF⟩:=F w mg Z _ KX G.T.g a4
 have a2:PySem.W.TabsAt tabs z.heap:=λ q O=>⟨PySem.W.codeHd_of_K KX (J q O).1,hT w _ Y _ (J q O).2.2⟩
 exact rN (tabs:=tabs) KX G.T.g G.T.b G.T.builtins G.T.nolimit hg G.T.bmain a2 (λ q O=>(J q O).2.1) W L (FC j a5) hr hF hb
  (λ H hH hS=>a6 w H a ns j (λ P hP=>by
   obtain⟨q,O,rfl⟩:=Fw.mp (U P hP)
   exact hH q O) hS) λ H e s'=>a1 w H z e s'
section
variable {X:Cx}{K:PySem.W.Frag}
theorem vO (U:xs.length<=1000)
  (h:∀ acc,H1 acc=none->∃ F:Nat->St->List V->Hp->Prop,F 0 (σ++List.replicate k none) [] Z3h/\(∀ i j ys H2,i<=xs.length->F i j ys H2->SqT K H2 a xs/\ys.length<=i) /\
   (∀ i x j ys H2,i<xs.length->xs[i]? = some x->F i j ys H2->g x j H2 λ z O=>tc z O λ b L=>if b=true then te z L λ v M=>M acc=some Z03/\Nx xs.length i (F (i+1) z (ys++[v]) (upd M acc (.lst (ys++[v])))) else Nx xs.length i (F (i+1) z ys L)) /\
   ∀ j ys H2,F xs.length j ys H2->Q Z17 H2):fZ ZM4 k g tc te σ H1 Q:=by
 intro acc W
 obtain⟨F,Y,pl,ps,Z⟩:=h acc W
 refine⟨λ i m j ys H2=>m=xs.length-i/\i<=xs.length/\F i j ys H2,⟨xs.length,Zq,ZH9,Y⟩,?_⟩
 rintro i m j ys H2 ⟨rfl,hi,p⟩
 obtain⟨q,J⟩:=ZJI
 by_cases G:i<xs.length
 ·refine .inr ⟨⟨xs,xs[i],q,by simp[G]⟩,GH J (bE (by lia)),λ x H3 y=>?_⟩
  obtain⟨e,y⟩:=y
  subst e
  exact ZD6
 ·have e:i=xs.length:=Z2
  subst e
  exact .inl ⟨ZNG,Z j ys H2 p⟩
end
section
variable {X:Cx}{pr:Params}{a:Addr}{kvs:List (Str×Int)}{name:Str}{i:Expr}{ty:TE}{p pos:Pos}
end
section
variable {X:Cx}{K:PySem.W.Frag}
end
section
open PySem.Builtin PySem.Builtin.Str
end
section
variable {X:Cx}
end
def Asc (x:Str):Prop:=∀ c∈x.cps.toList,c<128
end L2
namespace PySem
section
variable {prog:Program}{w:World}{K:Type} [DecidableEq K] {knd:HeapKind prog w K}{A:Around}{E:Value->Shared->Prop}{s:Shared}
theorem hZ (f:α->β):∀ (l:List α) (j:Nat),(ZEq).eraseIdx j=(l.eraseIdx j).map f
 | [],_=>Zq
 | x::r,0=>Zq
 | x::r,j+1=>by simp[hZ f r j]
theorem kU {xs:List (K×Addr×Value)}(q:(xs.map (·.1)).Nodup):∀ {j:Nat}{k:K}{p:Addr×Value},xs[j]? = some (k,p)->xs.eraseIdx j=xs.filter λ x=>decide (x.1≠k):=by
 induction xs with
 | nil=>intro j k p h;simp at h
 | cons x r G=>
  intro j k p h
  rw[FL,GJ] at q
  cases j with
  | zero=>
   simp only[List.getElem?_cons_zero,Option.some.injEq] at h
   subst h
   rw[List.eraseIdx_cons_zero,IG ZA]
   rw[List.filter_eq_self.mpr]
   intro y F
   refine FX λ e=>q.1 (Fw.mpr ⟨y,F,e⟩)
  | succ j=>
   simp only[List.getElem?_cons_succ] at h
   have z:k∈r.map (·.1):=Fw.mpr ⟨(k,p),Fg h,rfl⟩
   have J:x.1≠k:=λ e=>q.1 (by rw[e];exact z)
   rw[List.eraseIdx_cons_succ,G q.2 h,HR (p:=λ x:K×Addr×Value=>decide (x.1≠k)) (by simpa using J)]
theorem mL {d a:Addr}{xs:List (K×Addr×Value)}{k:K}{p:Addr×Value}{Q:Option DictEntry->Shared->Prop}(hu:ZTA) (z:ZJK) (hm:ZEn) (V:atKey xs k=some p)
  (F:∀ h',h'.DictOfH knd d (xs.filter λ x=>decide (x.1≠k))->Heap.SameBut d s.heap h'->Q (some ⟨knd.hash k,.ref p.1,p.2⟩) { s with heap:=h',toks:=s.toks+knd.draws k })
  (hsz:xs.length<=sizeLine):wpAny ZE A (Builtin.Dict.takeOut d ZY) Q E s:=by
 obtain⟨o,es,ep,M,hc,G,J,L,U⟩:=hm
 unfold Builtin.Dict.takeOut
 try with_reducible refine ZS3
 refine E8 (knd.pyHash hu z ?_)
 refine E8 (wpAny_dictFind_heap (s:={ s with toks:=s.toks+knd.draws k }) hu z M G J L U ?_ ?_)
 ·intro Z
  rw[atKey_none_of_get Z] at V
  cases V
 ·intro j q O
  have W:q=p:=by rw[atKey_of_get U O] at V;exact Option.some.inj V
  subst W
  refine E8 (Gw (s:={ s with toks:=s.toks+knd.draws k }) M G ?_)
  rw[Kw J j,O]
  refine E8 (wpAny_updateDictKeys (hz:=by have e:=Hj J;lia) (s:={ s with toks:=s.toks+knd.draws k }) M G (Fb (F _ ⟨_,_,ep+1,Heap.get?_update_self _ M (Obj.isFreed_of_dict ZEF),
   hc.mapDictKeys _,ZEF,?_,?_,?_⟩ (Heap.SameBut.update ..))))
  ·rw[<- kU U O]
   have Y:j<es.size:=by
    rw[Hj J]
    exact ZCw
   show (es.eraseIdxIfInBounds j).toList=_
   rw[Array.eraseIdxIfInBounds,dif_pos Y,Array.toList_eraseIdx,J,hZ]
  ·intro x hx
   exact knd.keeps (L x (FN.mp hx).1) M G (Heap.SameBut.update ..)
  ·exact(List.filter_sublist.map _).nodup U
theorem jD (knd:ZJe) (d a) :
  MeetsIn prog w (Builtin.«dict.pop» ⟨[Z9n,ZY],[]⟩) (λ A R s=>knd.room A.in1/\∃ k xs p,knd.is s.heap k a/\s.heap.DictOfH knd d xs/\xs.length<=sizeLine/\atKey xs k=some p /\
   ∀ h',h'.DictOfH knd d (xs.filter λ x=>decide (x.1≠k))->Heap.SameBut d s.heap h'->R ZKf { s with heap:=h',toks:=s.toks+knd.draws k }):=
 .of_wp λ A R s z=>by
  obtain⟨W,k,xs,p,j,q,J,L,h⟩:=z
  unfold Builtin.«dict.pop»
  refine Z4a
  unfold Builtin.Dict.keyAndDefault
  refine E8 (Ic q.typeIs ?_)
  show wpAny _ _ (pure (d,Z92,none)) _ _ s
  refine Z5t
  obtain⟨o,es,ep,V,Z,M,O,U,hn⟩:=id q
  have Y:es.isEmpty=false:=by
   have:es.size≠0:=by
    rw[Hj O]
    intro z
    rw[List.length_eq_zero_iff.mp z] at L
    cases L
   simp[Array.isEmpty,this]
  simp only[show (keyPart (Value.ref a)).isSome=false from rfl,Fx,Gi]
  refine E8 (Gw V M ?_)
  refine Z7E
  rw[Y]
  simp only[Fx,Gi]
  refine E8 (mL W j q L (λ h' F G=>?_) J)
  simp only[Option.isNone_some,Fx,Gi]
  exact E8 (HV (Fb ⟨_,rfl,h h' F G⟩))
theorem hU (W:ZTA) (q:ZJK) (hm:ZEn)
  (h1:∀ p,atKey xs k=some p->Q p.2 { s with toks:=s.toks+knd.draws k })
  (h2:atKey xs k=none->∀ h',h'.DictOfH knd d (xs++[(k,a,dflt)])->Heap.SameBut d s.heap h'->Q dflt { s with heap:=h',toks:=s.toks+knd.draws k })
  (hsz:xs.length<=sizeLine):wpAny ZE A (dictSetDefault d ZY dflt) Q E s:=by
 obtain⟨o,es,ep,G,Z,F,O,J,U⟩:=hm
 unfold dictSetDefault
 try with_reducible refine ZS3
 refine E8 (knd.pyHash W q ?_)
 refine E8 (wpAny_dictFind_heap (s:={ s with toks:=s.toks+knd.draws k }) W q G F O J U ?_ ?_)
 ·intro L
  have M:k∉xs.map (·.1):=not_mem_keys_of_get L
  refine E8 (GZ (E8 (wpAny_updateDictKeys (hz:=by have e:=Hj O;lia) (s:={ s with toks:=s.toks+knd.draws k }) G F (Fb (h2 (atKey_none_of_get L) _ ⟨_,_,ep+1,Heap.get?_update_self _ G (Obj.isFreed_of_dict ZEG),
   Z.mapDictKeys _,ZEG,?_,?_,?_⟩ (Heap.SameBut.update ..))))))
  ·simp[O,entryOfKey]
  ·intro x z
   rcases Fm.mp z with z|z
   ·exact knd.keeps (J x z) G F (Heap.SameBut.update ..)
   ·simp only[Fd] at z
    subst z
    exact knd.keeps q G F (Heap.SameBut.update ..)
  ·rw[FF,GC]
   refine⟨U,Zq,?_⟩
   intro x z y Y
   simp only[FL,Kc,Fd] at Y
   subst Y
   exact λ e=>M (e ▸ z)
 ·intro j p V
  refine E8 (Gw (s:={ s with toks:=s.toks+knd.draws k }) G F ?_)
  rw[Kw O j,V]
  exact E8 (GZ (Fb (h1 p (atKey_of_get U V))))
theorem fJ (knd:ZJe) (d a) (L:(d == sysModules)=false) (j) :
  MeetsIn prog w (Builtin.«dict.setdefault» ⟨[Z9n,ZY,j],[]⟩) (λ A R s=>knd.room A.in1/\∃ k xs,knd.is s.heap k a/\s.heap.DictOfH knd d xs/\xs.length<=sizeLine /\
   (∀ p,atKey xs k=some p->R ZKf { s with toks:=s.toks+knd.draws k }) /\
   (atKey xs k=none->∀ h',h'.DictOfH knd d (xs++[(k,a,j)])->Heap.SameBut d s.heap h'->R (.ok (.ret j)) { s with heap:=h',toks:=s.toks+knd.draws k })):=
 .of_wp λ A R s z=>by
  obtain⟨O,k,xs,q,J,V,h1,h2⟩:=z
  unfold Builtin.«dict.setdefault»
  refine Z4a
  unfold Builtin.Dict.keyAndDefault
  refine E8 (Ic J.typeIs ?_)
  show wpAny _ _ (pure (d,Z92,some j)) _ _ s
  refine Z5t
  show wpAny _ _ (if (d == sysModules)=true then _ else (dictSetDefault d ZY j >>= _)) _ _ s
  rw[Fj (by rw[L];exact Fv)]
  exact E8 (hU O q J (λ v U=>Fb ⟨v.2,rfl,h1 v U⟩) (λ M h' F G=>Fb ⟨j,rfl,h2 M h' F G⟩) V)
end
end PySem
namespace L2
open PySem PySem.Spec PyProof.Rows
theorem KT.drop (r:Z5g) (k):KT H ZNZ (xs.filter λ x=>decide (x.1≠k)):=by
 unfold lY
 induction r with
 | nil=>exact .nil
 | @cons p q ps z h t j=>
  by_cases e:p.1=k
  ·rw[IG (by simp[e]),IG (by rw[<- h.1];simp[e])]
   exact j
  ·rw[HR (by simp[e]),HR (by rw[<- h.1];simp[e])]
   exact .cons h j
theorem KT.atKey (r:Z5g) (h:cf kvs k=some v):∃ p,PySem.atKey xs k=some p/\RelV v p.2:=by
 obtain⟨G,F,q⟩:=fV.some_of (v:=v) (o:=(PySem.atKey xs k).map (·.2)) (by rw[<- h];exact r.val k)
 obtain⟨p,z,j⟩:=GL.mp F
 exact⟨p,z,by rw[j];exact q⟩
section
variable {X:Cx}
theorem tR (I:Z8) (e:H a=some Zk) (M:(a == sysModules)=false) (hs:ZEL)
  (dd:h'.DictOfH Z28 a xs') (r:KT H kvs' xs') (O:kvs'.length<=sizeLine):Inv X pins σ (upd H a (.dT kvs')) { s with heap:=h',toks:=t' }:=by
 obtain⟨q,es,ep,F,h2,G,J,_,L⟩:=dd
 refine nG I (by rw[e];exact True.intro) hs ⟨q,F⟩ ⟨O,M,_,r.keeps λ c ys j=>?_,q,es,ep,F,h2,G,J,L⟩
 rw[aV (eP j e (λ z=>nomatch z))]
 exact j
inductive yf (x:V) (vs:List V) (H:Hp) (Q:VK):Prop
 | mk:∀ a b kvs k v,x=.ref a->vs=[Za]->H a=some Zk->H b=some Z16->cf kvs k=some v->Q v (upd H a (.dT ZNZ))->yf x vs H Q
theorem xA (U:X.A.units+1<cLine):MtM X "dict.pop" yf:=by
 intro pins s σ H x vs v us Q I rx Z h
 obtain⟨a,b,kvs,k,y,rfl,rfl,e,J,V,q⟩:=h
 cases rx
 obtain⟨u,rfl,Y⟩:=Z.one
 cases (show u=Value.ref b from Y)
 obtain⟨z,L,xs,j,G⟩:=ZJF
 obtain⟨p,M,W⟩:=j.atKey V
 refine JI PySem.F.slot_dict_pop G.typeIs PySem.F.entry_dict_pop (PySem.F.args_dict_pop_2 _ _) (jD Z28 a b)
  ⟨Hu U,k,xs,p,ZJM,G,by rw[<- Paired.length j];exact z,M,λ h' F O=>⟨y,_,tR I e L O F (j.drop k) (FC (vR kvs k) z),W,q⟩⟩
inductive oM (x:V) (vs:List V) (H:Hp) (Q:VK):Prop
 | mk:∀ a b kvs k y,x=.ref a->vs=[Za,y]->H a=some Zk->H b=some Z16->kvs.length<sizeLine->(∀ v,cf kvs k=some v->Q v H)->(cf kvs k=none->Q y (upd H a (.dT (kvs++[(k,y)]))))->oM x vs H Q
theorem pE (hu:X.A.units+1<cLine):MtM X "dict.setdefault" oM:=by
 intro pins s σ H x vs v us Q I rx rv h
 obtain⟨a,b,kvs,k,y,rfl,rfl,e,U,hl,q1,q2⟩:=h
 cases rx
 obtain⟨u,M,rfl,ru,J⟩:∃ u M,us=u::M/\RelV (.ref b) u/\Vals [y] M:=by cases rv with|cons a b=>exact⟨_,_,rfl,a,b⟩
 obtain⟨u2,rfl,q⟩:=J.one
 cases (show u=Value.ref b from ru)
 obtain⟨z,V,xs,j,O⟩:=ZJF
 refine JI PySem.F.slot_dict_setdefault O.typeIs PySem.F.entry_dict_setdefault (PySem.F.args_dict_setdefault_3 _ _ _) (fJ Z28 a b V u2)
  ⟨Hu hu,k,xs,gi I.hok U,O,by rw[<- Paired.length j];exact z,λ p Y=>?_,λ W h' F Z=>?_⟩
 ·have r:=j.val k
  rw[Y] at r
  obtain⟨v,hv,L⟩:∃ v,cf kvs k=some v/\RelV v p.2:=by
   cases h:cf kvs k with
   | none=>rw[h] at r;exact(show False from r).elim
   | some v=>rw[h] at r;exact⟨v,rfl,r⟩
  exact⟨v,H,Z2A,L,q1 v hv⟩
 ·have G:cf kvs k=none:=by
   have r:=j.val k
   rw[W] at r
   cases h:cf kvs k with
   | none=>rfl
   | some v=>rw[h] at r;exact(show False from r).elim
  exact⟨y,_,tR I e V Z F (Paired.snoc j ⟨rfl,U,q⟩) (by rw[Fh];show _+1<=_;lia),q,q2 G⟩
end
end L2
namespace PySem
section
variable {prog:Program}{w:World}{K:Type} [DecidableEq K] {knd:HeapKind prog w K}{A:Around}{E:Value->Shared->Prop}{s:Shared}
theorem nJ {es:List DictEntry}(q:(es.map (·.hash)).Nodup) {e:DictEntry}(j:e∈es):(es.filter (·.hash == e.hash)).length<=1:=by
 induction es with
 | nil=>cases j
 | cons x r G=>
  rw[FL,GJ] at q
  by_cases h:x.hash=e.hash
  ·rw[HR (by simp[h]),IM.mpr]
   ·simp
   ·intro y F z
    exact q.1 (Fw.mpr ⟨y,F,by simpa [h] using z⟩)
  ·rw[IG (by simp[h])]
   rcases Fi.mp j with rfl|j
   ·exact ZG3
   ·exact G q.2 j
theorem gs {id:String}{d:Addr}{o:Obj}{es ep}{Q:Array DictEntry->Shared->Prop}(M:s.heap.get? d=some o) (J:o.data=.dict es ep)
  (O:∀ e∈es.toList,∃ b,e.key=.ref b/\s.TypeIs Za "tuple") (L:(es.toList.map (·.hash)).Nodup) (h:Q es s) :
  wpAny ZE A (Builtin.Dict.entriesForEmpty id d) Q E s:=by
 unfold Builtin.Dict.entriesForEmpty
 refine E8 (Gw M J ?_)
 refine Z4a
 rw[<- Array.forIn_toList]
 refine wpAny_forIn_list _ (λ rest _ s'=>s'=s/\∀ e∈rest,e∈es.toList) _ ?_ ?_ _ _ ⟨rfl,λ e j=>j⟩
 ·rintro x rest r s' ⟨rfl,q⟩
  obtain⟨b,z,G⟩:=O x ZXW
  refine Z4a
  rw[z]
  unfold Builtin.Dict.quietEq
  refine E8 (Jd G F.slot_tuple_eq.lookup Zm)
  have W:=nJ L ZXW
  have U:¬ (es.filter (·.hash == x.hash)).size>1:=by
   have V:(es.filter (·.hash == x.hash)).size=(es.toList.filter (·.hash == x.hash)).length:=by
    rw[<- Fs,Array.toList_filter]
   lia
  rw[ZRx,Fj U]
  exact Fb ⟨rfl,λ e j=>q e ZJ6⟩
 ·rintro r s' ⟨rfl,_⟩
  exact Fb h
theorem kj (M:d≠o) (O:(o == sysModules)=false)
  (z:s.heap.get? d=some od) (q:od.data=.dict #[] epd) (F:s.heap.get? o=some oo) (j:oo.data=.dict es ep)
  (V:∀ e∈es.toList,∃ b,e.key=.ref b/\s.TypeIs Za "tuple") (Y:(es.toList.map (·.hash)).Nodup) (hsz:es.size<=sizeLine)
  (U:∀ h' od' J,h'.get? d=some od'->od'.data=.dict es J->(od.ExactDict->od'.ExactDict)->Heap.SameBut d s.heap h'->Q () { s with heap:=h' }) :
  wpAny ZE A (Builtin.Dict.mergeDict nm d o) Q E s:=by
 unfold Builtin.Dict.mergeDict
 rw[Fj (by simpa using M)]
 unfold Builtin.Dict.showsAll
 rw[Fj (by rw[O];exact Fv)]
 refine Z7E
 refine ZMp
 dsimp only
 by_cases G:es = #[]
 ·subst G
  rw[ZAU]
  refine E8 (Ia F j ?_)
  refine ZMp
  refine Z4a
  rw[Std.Legacy.Range.forIn_eq_forIn_range']
  refine wpAny_forIn_list _ (λ rest _ s'=>s'=s/\rest=[]) _ ?_ ?_ _ _ Z0a
  ·rintro x rest r s' ⟨_,e⟩;cases e
  ·rintro r s' ⟨rfl,_⟩
   exact Fb (U _ od epd z q id Z6y)
 ·have L:(decide (es.size<=8) && es.all λ e=>ZFg)=false:=by
   have:(es.all λ e=>ZFg)=false:=by
    rw[<- Array.all_toList]
    cases h:es.toList with
    | nil=>exact absurd (by rw[<- Kj];exact h) G
    | cons x r=>
     obtain⟨b,W,_⟩:=V x (by rw[h];exact Fn)
     rw[Jw,W]
     rfl
   rw[this,KA]
  rw[L]
  rw[ZRx]
  refine E8 (Gw z q ?_)
  rw[ZRx]
  refine E8 (gs F j V Y ?_)
  rw[Fl (by cases h:es.isEmpty with|true=>exact absurd (Array.isEmpty_iff.mp h) G|false=>rfl)]
  refine E8 (wpAny_updateDictKeysTo z q (Fb (U _ _ (epd+1) (Heap.get?_update_self _ z (Obj.isFreed_of_dict ZDI)) ZDI (λ h=>h.mapDictKeys _) (Heap.SameBut.update ..))) Z2)
theorem jV (a1:(o == sysModules)=false) (L:s.heap.get? o=some oo) (hx:oo.ExactDict) (O:oo.data=.dict es ep)
  (hq:∀ e∈es.toList,∃ b,e.key=.ref b/\s.TypeIs Za "tuple") (hn:(es.toList.map (·.hash)).Nodup) (hsz:es.size<=sizeLine)
  (h:∀ h' od G,h'.get? s.heap.objs.size=some od->od.data=.dict es G->od.ExactDict->(∀ b u,s.heap.get? b=some u->h'.get? b=some u)->Q ZI { s with heap:=h' }) :
  wpAny ZE A (call Z15 [.ref o]) Q E s:=by
 refine callType_codes (Q₁:=λ U j=>U=.ref s.heap.objs.size/\j={ s with heap:=s.heap.push { cls:=Z15,data:=.dict #[] } }) F.kt_called_dict (F.kt_typeCall_dict_1 _) F.entry_dict_init (kt_code_dict_new _ Z0a) ?_
 rintro U j ⟨rfl,rfl⟩
 have hg:(s.heap.push { cls:=Z15,data:=.dict #[] }).get? s.heap.objs.size=some { cls:=Z15,data:=.dict #[] }:=ZH
 have V:∀ b u,s.heap.get? b=some u->(s.heap.push { cls:=Z15,data:=.dict #[] }).get? b=some u:=λ b u e=>ZG
 have M:({ s with heap:=s.heap.push { cls:=Z15,data:=.dict #[] } }:Shared).TypeIs ZI "dict":=⟨_,hg,rfl⟩
 have J:({ s with heap:=s.heap.push { cls:=Z15,data:=.dict #[] } }:Shared).TypeIs ZPh "dict":=⟨_,V _ _ L,hx.1⟩
 have Y:s.heap.objs.size≠o:=λ e=>absurd (Heap.lt_size L) (by rw[e];exact GY _)
 refine⟨M,F.args_dict_init_2 _ _,?_⟩
 unfold Builtin.«dict.__init__»
 refine Z4a
 unfold Builtin.Dict.selfAndRest
 refine E8 (Ic M ?_)
 show wpAny _ _ (pure (s.heap.objs.size,[Value.ref o])) _ _ _
 refine Z5t
 show wpAny _ _ (Builtin.Dict.updateFrom "dict.__init__" s.heap.objs.size ZPh [] .none) _ _ _
 unfold Builtin.Dict.updateFrom
 refine E8 (Jf J ?_)
 rw[ZBH]
 refine Z4a
 unfold Builtin.Dict.merge
 refine Z4a
 unfold Builtin.Dict.readDirectly
 refine E8 (G9 J isSubtype_dict_dict ?_)
 simp only[Ho,Fx,Gi]
 refine E8 (Jd J F.slot_dict_iter.lookup Zm)
 simp only[JA,HB]
 refine Z7E
 refine kj Y a1 hg rfl (V _ _ L) O (λ e he=>?_) hn hsz λ h' a4 G Z W a3 a2=>?_
 ·obtain⟨b,eb,q,hb,hc⟩:=hq e he
  exact⟨b,eb,q,V _ _ hb,hc⟩
 ·show wpAny _ _ (Builtin.Dict.addKeywords s.heap.objs.size [] >>= _) _ _ _
  exact E8 (Fb (Fb ⟨rfl,h h' a4 G Z W (a3 ZAI) λ b u e=>(a2.2 b λ z=>absurd ZK (by rw[z];exact GY _)).trans (V _ _ e)⟩))
end
end PySem
namespace L2
open PySem PySem.Spec PyProof.Rows
noncomputable def hT (w:World) (k:ZBf):Int:=reduceHash (Builtin.Tuple.tupleHashOf (k.map (DV w)))
section
variable {X:Cx}
inductive wu (w:World) (xs:List V) (H:Hp) (Q:VK):Prop
 | mk:∀ a kvs,xs=[.ref a]->Rd H a (.dT kvs)->(kvs.map λ p=>hT w p.1).Nodup->(∀ l,H l=none->Q Zv (upd H l Zk))->wu w xs H Q
theorem KT.E4 (r:Z5g):xs.map (·.1)=kvs.map (·.1):=by
 induction r with
 | nil=>rfl
 | @cons p q ps z h t j=>rw[FL,FL,j,h.1]
theorem jY:cN X Z15 (wu X.w):=by
 intro pins s σ H xs us Q I r h
 obtain⟨a,kvs,rfl,e,hh,q⟩:=h
 obtain⟨u,rfl,ru⟩:=Z4g
 cases ru
 obtain⟨z,hd,xs,j,o,es,ep,ho,hx,F,L,U,hn⟩:=Z5U
 have Z:es.toList.map (·.hash)=kvs.map λ p=>ZTF:=by
  rw[L,F9]
  have:(kvs.map λ p=>ZTF)=(kvs.map (·.1)).map (hT X.w):=by rw[F9];rfl
  rw[this,<- KT.E4 j,F9]
  rfl
 have a2:kvs.length=es.size:=by rw[Hj L];exact Paired.length j
 refine jV hd ho hx F (λ en G=>?_) (by rw[Z];exact hh) Z2 λ h' od M hg O V kp=>?_
 ·rw[L] at G
  obtain⟨x,W,rfl⟩:=Fw.mp G
  obtain⟨ob,a1,n,h1,h2,h3,_⟩:=U x W
  exact⟨x.2.1,rfl,ob,h1,h2⟩
 ·have J:H s.heap.objs.size=none:=Z2f
  refine⟨ZI,_,I.laid (a:=s.heap.objs.size) (o:=.dT kvs) (t':=s.toks) kp Z9 ⟨z,?_,xs,j.keeps λ c ys Y=>?_,od,es,M,hg,V,O,L,hn⟩,rfl,q _ J⟩
  ·have:=I.big
   rw[Hl]
   exact Gp this
  ·rw[aV (ba Y J)];exact Y
end
end L2
namespace PySem
section
variable {prog:Program}{w:World}{A:Around}{E:Value->Shared->Prop}{s:Shared}
theorem ku (J:(d == sysModules)=false) (z:s.heap.get? d=some o) (L:o.ExactDict) (j:o.data=.dict es ep)
  (G:Q ZI { s with heap:=s.heap.push { cls:=ZER,data:=.fields #[Z9n,ZBk,Z8j,ZCd] } }) :
  wpAny ZE A (pyIter Z9n) Q E s:=by
 have q:s.TypeIs Z9n "dict":=⟨o,z,L.1⟩
 refine Jp q F.slot_dict_iter (Gj F.slot_dict_iter q F.entry_dict_iter ?_ (F.args_dict_iter_1 _))
 unfold Builtin.«dict.__iter__»
 refine Z4a
 unfold Builtin.Dict.dictSlotNone
 refine E8 (Ic q ?_)
 show wpAny _ _ (pure (Value.ref d)) _ _ s
 refine Z5t
 show wpAny _ _ (Builtin.Dict.showsAll d >>= _) _ _ s
 unfold Builtin.Dict.showsAll
 rw[Fj (by rw[J];exact Fv)]
 refine E8 (Fb (E8 (Gw z j (E8 (Ia z j ?_)))))
 refine E8 (Gk (Fb ⟨_,rfl,"dict_keyiterator",_,ZDM,F.slot_dict_keyiterator_next.lookup,?_⟩))
 simpa [rawInt] using G
theorem kL (j:Z9I) (J:s.heap.get? d=some od) (z:od.data=.dict es ep) (G:i<es.size)
  (U:∀ h',h'.IsKeyIter it d (i+1) es.size ep->Heap.SameBut it s.heap h'->Q (some es[i].key) { s with heap:=h' }) :
  wpAny ZE A Z40 Q E s:=by
 obtain⟨o,O,V,M⟩:=id j
 unfold pyNext
 refine E8 (HL (Hh (name:=Z1e) j.typeIs F.slot_dict_keyiterator_next
  (Gj F.slot_dict_keyiterator_next j.typeIs F.entry_dict_keyiterator_next ?_ Z9P)))
 refine Z7E
 refine Z4a
 refine Z4a
 first|refine E8 ZKb|refine ZHv
 refine E8 (IJ O M ?_)
 have L:Builtin.Dict_items.ownsTuple "dict_keyiterator" = false:=Z3
 simp only[L,Fx,Gi]
 show wpAny _ _ (if (Value.ref d == Value.none)=true then _ else _) _ _ s
 rw[Fj (show ¬ ((Value.ref d == Value.none)=true) from Fv)]
 refine E8 (Fb (E8 (Gw J z ?_)))
 rw[ZAU]
 refine E8 (Fb (E8 (Ia J z ?_)))
 rw[ZAU]
 refine Z5t
 simp only[show ¬ ((i:Int)<0) from by lia,Gi,FE,FO G]
 refine Z4a
 first|refine E8 ZKb|refine ZHv
 refine E8 (wpAny_isOneOf_keyiter j.typeIs ?_)
 show wpAny _ _ (setField Z0m 1 (rawInt ((i:Int)+1)) >>= _) _ _ s
 refine E8 (IH O M ZA ?_)
 have q:(s.heap.update it (Obj.mapFields (·.setIfInBounds 1 (rawInt ((i:Int)+1))))).IsKeyIter it d (i+1) es.size ep:=
  ⟨_,Heap.get?_update_self _ O (Obj.isFreed_of_fields (Obj.data_mapFields M _)),(Obj.cls_mapFields ..).trans V,by rw[Obj.data_mapFields M];simp[rawInt]⟩
 refine ZAV
 refine E8 (wpAny_isOneOf_keyiter (s:={ s with heap:=s.heap.update it (Obj.mapFields (·.setIfInBounds 1 (rawInt ((i:Int)+1)))) }) q.typeIs ?_)
 show wpAny _ _ (pure es[i].key) _ _ _
 exact Fb (Fb ⟨_,rfl,Fb (U _ q (Heap.SameBut.update ..))⟩)
theorem mK {it d:Addr}{i ep:Nat}{od:Obj}{es:Z4O}{Q:Option Value->Shared->Prop}(hh:A.handled=none) (hit:Z9I) (hod:s.heap.get? d=some od) (hdd:od.data=.dict es ep) (hge:es.size<=i)
  (hQ:∀ h',Heap.ExtBut it s.heap h'->Q none { s with heap:=h' }):ZGy:=by
 obtain⟨o,ho,hc,hd⟩:=id hit
 unfold pyNext
 refine E8 (HL (Hh (name:=Z1e) hit.typeIs F.slot_dict_keyiterator_next
  (Gj F.slot_dict_keyiterator_next hit.typeIs F.entry_dict_keyiterator_next ?_ Z9P)))
 refine Z7E
 refine Z4a
 refine Z4a
 first|refine E8 ZJ5|refine ZGP
 refine E8 (IJ ho hd ?_)
 have hown:Builtin.Dict_items.ownsTuple "dict_keyiterator" = false:=Z3
 simp only[hown,Fx,Gi]
 show wpAny _ _ (if (Value.ref d == Value.none)=true then _ else _) _ _ s
 rw[Fj (show ¬ ((Value.ref d == Value.none)=true) from Fv)]
 refine E8 (Fb (E8 (Gw hod hdd ?_)))
 rw[ZAU]
 refine E8 (Fb (E8 (Ia hod hdd ?_)))
 rw[ZAU]
 refine Z5t
 simp only[show ¬ ((i:Int)<0) from by lia,Gi,FE,GF hge]
 refine Z4a
 first|refine E8 ZJ5|refine ZGP
 show wpAny _ _ (setField Z0m 0 .none >>= _) _ _ s
 refine E8 (IH ho hd ZA ?_)
 show wpAny _ _ (newExc ZFN [] >>= _) _ _ _
 refine Z4a
 simp only[newExc,newTuple]
 refine E8 (Gk ?_ (by size_fits))
 refine E8 (m:=Z9b) (GD (a:=Value.none) (by first|rfl|(simp only[firstArgMember];rfl)) ?_)
 refine Gk ?_ (by size_fits)
 simp only[raiseNew]
 refine ZJh
 rw[show A.in1.handled=none from hh]
 refine Z6V
 refine Z1M
 exact Fb (hQ _ (((Heap.SameBut.update ..).extBut.push _).push _))
end
end PySem
namespace L2
open PySem PySem.Spec PyProof.Rows
section
variable {X:Cx}{pins:List (Addr×Obj)}{σ:St}{H:Hp}{s:Shared}
theorem Inv.xX {a:Addr}{u u':HO}(I:Z8) (e:H a=some u) (nt:∀ xs,u≠.tup xs) (nb:∀ ps,u≠.tbl ps) (no:∀ b,u≠.own b) (nf:∀ o v,u=.frz o v->(∀ o' v',X.H₀ a≠some ZR4)/\∀ x c,X.env.cells.lookup x=some c->c≠a)
  (ok:bP X.prog X.w ZQh s.heap a u'):Inv X pins σ ZQh s:=by
 have ne:∀ {b:Addr} {v:HO},H b=some v->v≠u->b≠a:=λ h n z=>by rw[z,e] at h;exact n (Z4t).symm
 have n0:∀ {b:Addr},H b=none->b≠a:=λ h z=>by rw[z,e] at h;cases h
 refine⟨I.ok,I.os,I.bare,⟨I.base.keep,I.base.slot,λ b o q n hx=>?_,I.base.there,λ b xs q=>?_,λ b o v q=>?_,λ b ps q=>?_⟩,I.loc,I.cell,?_,λ x c q=>?_,λ p hp=>?_,λ b v q=>?_,I.len⟩
 ·have:=I.base.free b o q n hx
  rw[aV (n0 this)];exact this
 ·have:=ZIk
  rw[aV (ne this λ z=>nt xs z.symm)];exact this
 ·have h1:=I.base.frzs b o v q
  rw[ZRb]
  ·exact h1
  ·subst z
   rw[e] at h1
   exact(nf o v Z4K).1 o v q
 ·obtain⟨m,h1⟩:=ZIl
  exact⟨m,by rw[aV (ne h1 λ z=>nb _ z.symm)];exact h1⟩
 ·rw[aV (n0 I.free)];exact I.free
 ·rcases I.freeC x c q with h1|⟨h1,o,v,h2⟩
  ·exact .inl (by rw[aV (n0 h1)];exact h1)
  ·refine .inr ⟨h1,o,v,?_⟩
   rw[ZRb]
   ·exact h2
   ·have h3:u=.frz o v:=by rw[z,e] at h2;exact Option.some.inj h2
    exact(nf o v h3).2 x c q z
 ·obtain⟨h1,h2,h3⟩:=ZEK
  exact⟨h1,by rw[aV (n0 h2)];exact h2,h3⟩
 ·by_cases z:b=a
  ·subst z
   rw[aU] at q;cases q;exact ok
  ·rw[aV z] at q
   refine(I.hok b v q).kX (λ c o hc r=>r) (λ c r=>?_) λ c xs r=>?_
   ·rw[aV (ne r λ z=>no _ z.symm)];exact r
   ·rw[aV (ne r λ z=>nt _ z.symm)];exact r
theorem yC (F:bP X.prog X.w H h a Zk) (j:∀ b xs,H b=some Zb->H' b=some Zb):bP X.prog X.w H' h a Zk:=by
 obtain⟨z,y,xs,r,q⟩:=F
 exact⟨z,y,xs,KT.keeps r j,q⟩
theorem Inv.qP (I:Z8) (e:H a=some Zk):∃ o,s.heap.get? a=some o/\Inv X pins σ (upd H a Z0g) s:=by
 have j:=Z5i
 obtain⟨z,y,xs,r,o,es,ep,h1,h2⟩:=id j
 refine⟨o,h1,I.xX e (λ _ z=>nomatch z) (λ _ z=>nomatch z) (λ _ z=>nomatch z) (λ _ _ z=>nomatch z) ⟨h1,yC j λ b xs q=>?_⟩⟩
 rw[aV (eP q e (λ z=>nomatch z))];exact q
theorem Inv.CV (I:Z8) (e:H a=some Z0g) (n:∀ o' G,X.H₀ a≠some (.frz o' G)):Inv X pins σ (upd H a Zk) s:=by
 obtain⟨h1,F⟩:=(show bP X.prog X.w H s.heap a Z0g from Z5i)
 refine I.xX e (λ _ z=>nomatch z) (λ _ z=>nomatch z) (λ _ z=>nomatch z) (λ o' G z=>⟨n,λ x c q z=>?_⟩) (yC F λ b xs q=>?_)
 ·obtain⟨v,O,h2,j⟩:=I.cell x c q
  obtain⟨_,_,_,_,M,es,ep,J,_,L,_⟩:=F
  rw[z,J] at h2;cases h2
  rw[L] at j;cases j
 ·rw[aV (eP q e (λ z=>nomatch z))];exact q
end
theorem Paired.pq:∀ {xs:List α}{ys:List β}{i:Nat}{x:α},Paired F xs ys->xs[i]? = some x->∃ y,ys[i]? = some y/\F x y
 | _,_,_,_,.nil,e=>by simp at e
 | _,_,0,_,.cons a _,e=>by simp at e;subst e;exact⟨_,rfl,a⟩
 | _,_,i+1,v,.cons _ b,e=>by
  obtain⟨r,h1,h2⟩:=Paired.pq (i:=i) b (by simpa using e)
  exact⟨r,by simpa using h1,h2⟩
noncomputable def Itk (a:Addr) (o:Obj) (kvs:List (List Key×V)):It:=
 ⟨λ i H=>H a=some Z0g/\i<kvs.length,λ i H x H'=>H'=H/\∃ b k v,x=.ref b/\kvs[i]? = some (k,v)/\H b=some Z16,λ i H=>H a=some Z0g/\kvs.length<=i⟩
theorem tH {P:Program}{w:World}{K:PySem.W.Frag}{tg:Expr}(a it:Addr) {o:Obj}{es:Z4O}{ep:Nat}{kvs:List (List Key×V)}(hd:o.data=.dict es ep) (hn:es.size=kvs.length) :
  Turn P w K tg ZA4 [it] it (λ i h=>h.IsKeyIter it a i es.size ep) where
 mem:=Zq
 obj:=λ i h st b j=>by
  have e:b=it:=by simpa using j
  subst e
  obtain⟨o,e,c,d⟩:=st
  exact⟨o,e,λ v z=>by rw[d] at z;cases z⟩
 keep:=λ i h h' st k=>by
  obtain⟨o,e,c⟩:=st
  exact⟨o,k it ZA o e,c⟩
 item:=by
  intro X hP hw Z hc i pins s σ H E I L st hg
  subst hP hw Z
  obtain⟨e,hi⟩:=hg
  obtain⟨h1,ok⟩:=(show bP X.prog X.w H s.heap a Z0g from Z5i)
  obtain⟨z,y,xs,r,o1,a2,a1,g1,g2,g3,g4,g5⟩:=ok
  rw[h1] at g1;cases g1
  rw[hd] at g3;cases g3
  obtain⟨M,O,f2,U,W,Y⟩:=L it ZA
  have G:i<es.size:=Z2
  refine kL st h1 hd G λ h' J sb=>?_
  have I1:Inv X pins σ H { s with heap:=h' }:=I.turned (t':=s.toks) (λ b o j e=>(sb.2 b j).trans e) M O U W Y
  obtain⟨oi,ei,ci,di⟩:=id J
  obtain⟨⟨k,v⟩,F⟩:∃ p,kvs[i]? = some p:=ZHP
  obtain⟨q,hq,q1,q2,q3⟩:∃ q,xs[i]? = some q/\k=q.1/\H q.2.1=some (.tup (k.map kV))/\RelV v q.2.2:=by
   have:=Paired.pq (i:=i) r F
   obtain⟨q,hq,h⟩:=this
   exact⟨q,hq,h⟩
  have ek:es[i].key=.ref q.2.1:=by
   have:=ZRn
   rw[hq,FO G] at this
   have:=Z8N
   rw[this];rfl
  exact⟨_,rfl,rE (s:={ s with heap:=h' }) ei ci di Z3 ⟨Z8B,H,I1,ek,⟨rfl,q.2.1,k,v,rfl,F,q2⟩,J,λ b j=>(L b j).1⟩⟩
 done:=by
  intro X hP hw Z hc i pins s σ H E I L st hg
  subst hP hw Z
  obtain⟨e,hi⟩:=hg
  obtain⟨h1,ok⟩:=(show bP X.prog X.w H s.heap a Z0g from Z5i)
  obtain⟨M,O,f2,U,W,Y⟩:=L it ZA
  exact mK (I.ok.hd hc) st h1 hd Z2 λ h' eb=>⟨rfl,I.turned (t':=s.toks) (λ b o j e=>eb b o j e) M O U W Y⟩
 self:=λ _ _ _ _ _ st h=>JS st h
section
variable {X:Cx}{tg:Expr}
inductive uw (R:It->Hp->Prop) (x:V) (H1:Hp):Prop
 | mk:∀ a kvs,x=.ref a->((H1 a=some Zk/\∀ o,R ZA4 ZMy)\/∃ o,H1 a=some Z0g/\R ZA4 H1)->uw R x H1
def C4 (tl:TE):TI:=λ σ H R=>tl σ H λ x H1=>uw R x H1
theorem rA {l:Expr}{tl:TE}(Y:ZGF):PI X tg l (C4 tl):=by
 intro pins s σ H R I h
 refine thn (Y pins s σ H _ I h) λ v F z=>?_
 obtain⟨x,H1,G,r1,q1⟩:=z
 obtain⟨a,kvs,rfl,q⟩:=q1
 cases r1
 obtain⟨o,H2,j,M,V⟩:∃ o H2,Inv X pins σ H2 F/\H2 a=some (.frz o (.dT kvs))/\R (Itk a o kvs) H2:=by
  rcases q with ⟨e,q⟩|⟨o,e,q⟩
  ·obtain⟨o,_,j⟩:=G.qP e
   exact⟨o,_,j,aU,q o⟩
  ·exact⟨o,H1,G,e,q⟩
 obtain⟨h1,ok⟩:=(show bP X.prog X.w H2 F.heap a Z0g from j.hok a _ M)
 obtain⟨z,y,xs,r,o1,es,ep,J,O,L,U,g5⟩:=ok
 rw[h1] at J;cases J
 have Z:es.size=kvs.length:=by rw[Hj U];exact ZEa
 refine ku y h1 O L ?_
 refine⟨F.heap.objs.size,[F.heap.objs.size],_,_,H2,rfl,j.kept (t':=F.toks) λ b o e=>ZG,tH a _ L Z,Z2i,λ b W=>?_,V⟩
 have e:b=F.heap.objs.size:=by simpa using W
 subst e
 exact j.mO Z9 (j.hok.fresh Z9)
end
theorem mf (W:kvs.length<=1000)
  (h:∀ acc,H1 acc=none->∃ F:Nat->St->List V->Hp->Prop,F 0 (σ++List.replicate k none) [] Z3h/\(∀ i j ys H2,i<=kvs.length->F i j ys H2->H2 a=some Z0g/\ys.length<=i) /\
   (∀ i b J v j ys H2,i<kvs.length->kvs[i]? = some (J,v)->H2 b=some (.tup (J.map kV))->F i j ys H2->g Za j H2 λ z U=>tc z U λ c M=>if c=true then te z M λ v O=>O acc=some Z03/\Nx kvs.length i (F (i+1) z (ys++[v]) (upd O acc (.lst (ys++[v])))) else Nx kvs.length i (F (i+1) z ys M)) /\
   ∀ j ys H2,F kvs.length j ys H2->Q Z17 H2):fZ ZA4 k g tc te σ H1 Q:=by
 intro acc Y
 obtain⟨F,Z,pl,ps,pd⟩:=h acc Y
 refine⟨λ i m j ys H2=>m=kvs.length-i/\i<=kvs.length/\F i j ys H2,⟨kvs.length,Zq,ZH9,Z⟩,?_⟩
 rintro i m j ys H2 ⟨rfl,hi,p⟩
 obtain⟨q,L⟩:=ZJI
 by_cases G:i<kvs.length
 ·refine .inr ⟨⟨q,G⟩,GH L ZJR,λ x H3 y=>?_⟩
  obtain⟨e,b,J,v,rfl,y1,y2⟩:=y
  subst e
  exact ps i b J v j ys _ G y1 y2 p
 ·have e:i=kvs.length:=Z2
  subst e
  exact .inl ⟨ZT1,pd j ys H2 p⟩
section
variable {X:Cx}
inductive ud (H₀:Hp) (Q:VK) (v:V) (H1:Hp):Prop
 | mk:∀ a o kvs,H1 a=some Z0g->(∀ o' v',H₀ a≠some ZR4)->Q v (upd H1 a Zk)->ud H₀ Q v H1
def EN (H₀:Hp) (t:TE):TE:=λ σ H Q=>t σ H λ v H1=>ud H₀ Q v H1
theorem wV (h:ZIh) (G:X.H₀=H₀:=by rfl):PE X e (EN H₀ t):=by
 subst G
 intro pins s σ H Q I J
 refine Ga (h pins s σ H _ I J) (λ v O w=>?_) λ _ _ z=>z
 obtain⟨y,H1,j,M,L⟩:=w
 obtain⟨a,o,kvs,F,n,q⟩:=L
 exact⟨y,_,j.CV F n,M,q⟩
end
noncomputable def Ite (K:PySem.W.Frag) (l:Addr):It:=
 ⟨λ i H=>∃ xs x,SqL K H l xs/\xs[i]? = some x,λ i H v H'=>∃ p x,H p=none/\v=.ref p/\H'=upd H p Z8o/\∀ xs,SqL K H l xs->xs[i]? = some x,λ i H=>∃ xs,SqL K H l xs/\xs.length<=i⟩
theorem sI {P:Program}{w:World}{K:PySem.W.Frag}{es:Z4L}{kk:Nat}{pos:Pos}(e it l:Addr) (L:e≠it) :
  Turn P w K ZJA ZLR [e,it] e (λ i h=>(∃ j,IsEnum h e it i j)/\h.IsListIter it l i) where
 mem:=Zq
 obj:=λ i h st b hb=>by
  obtain⟨⟨j,F⟩,⟨o1,e1,_,d1⟩⟩:=st
  simp only[Fi,Ft,F8] at hb
  rcases hb with rfl|rfl
  ·exact⟨_,F,λ v q=>by cases q⟩
  ·exact⟨_,e1,λ v q=>by rw[d1] at q;cases q⟩
 keep:=λ i h h' st k=>by
  obtain⟨⟨j,F⟩,h1⟩:=st
  exact⟨⟨j,k e ZA _ F⟩,h1.at λ o q=>k it Zq o q⟩
 item:=by
  intro X W hw V z i pins s σ H E I O st Y
  subst W hw V
  obtain⟨xs,x,U,hx⟩:=Y
  obtain⟨its,rv,p1,hz⟩:=ZX4
  obtain⟨u,hu,ru⟩:=rv.get hx
  obtain⟨⟨j,F⟩,h1⟩:=st
  have lt:∀ {c o},s.heap.get? c=some o->s.heap.objs.size≠c:=λ e=>Gp ZK
  have n1:s.heap.objs.size≠e:=lt F
  have n2:s.heap.objs.size≠it:=by obtain⟨_,q,_⟩:=h1;exact lt q
  refine wpAny_pyNext_enum_item F h1 p1.isList (x:=u) (by simpa using hu) L λ h' ho M hT a3 Z=>?_
  refine⟨_,rfl,wpAny_letOwnedTupleGo_enum (s:={ s with heap:=h',toks:=s.toks+1 }) ho λ G J sb=>?_⟩
  have k2:∀ c o,c∉[e,it]->s.heap.get? c=some o->G.get? c=some o:=λ c o z q=>by
   simp only[Fi,Ft,F8,IW] at z
   exact(sb.2 c z.1).trans (Z c o z.1 z.2 q)
  have a1:bP X.prog X.w (upd H s.heap.objs.size Z8o) G s.heap.objs.size Z8o:=by
   have e5:G.get? s.heap.objs.size=some { cls:=Z0U,data:=.seq #[ZOY,u] }:=ZHF
   exact⟨bE ZA,[ZOY,u],.cons Z1_ (.cons ru .nil),_,e5,rfl,_,rfl⟩
  refine⟨ZI,_,I.jf (t':=s.toks+1) k2 O Z9 a1,rfl,⟨_,x,I.fresh,rfl,rfl,λ zs hs=>by rw[I.iW hs U];exact hx⟩,?_,λ c z=>?_⟩
  ·exact⟨⟨_,by simpa using J⟩,M.at λ o q=>(sb.2 it L.symm).trans q⟩
  ·rw[aV]
   ·exact(O c z).1
   ·simp only[Fi,Ft,F8] at z
    rcases z with rfl|rfl
    ·exact ZTb
    ·exact Ne.symm n2
 done:=by
  intro X W hw V z i pins s σ H E I O st Y
  subst W hw V
  obtain⟨xs,U,a2⟩:=Y
  obtain⟨its,rv,p1,hz⟩:=ZX4
  obtain⟨⟨j,F⟩,h1⟩:=st
  have a4:=rv.length
  refine wpAny_pyNext_enum_end (I.ok.hd z) F h1 p1.isList (GF (by simp;lia)) λ h' Z=>⟨rfl,I.mQ (t':=s.toks) (its:=[e,it]) (λ c o z q=>?_) O⟩
  simp only[Fi,Ft,F8,IW] at z
  exact Z c o z.2 q
 self:=λ _ _ _ _ _ st h=>by
  obtain⟨⟨j,F⟩,_⟩:=st
  exact wpAny_pyIter_enum F h
section
variable {X:Cx}{K:PySem.W.Frag}
theorem boot_enumerate:bootBuiltins "enumerate" = some (.type "enumerate"):=ZF
inductive uK (K:PySem.W.Frag) (R:It->Hp->Prop) (vs:List V) (H1:Hp):Prop
 | mk:∀ p xs,vs=[Z00]->SqL K H1 p xs->R (Ite K p) H1->uK K R vs H1
def Bl (K:PySem.W.Frag) (ta:TA):TI:=λ σ H R=>ta σ H λ vs H1=>uK K R vs H1
theorem nC {a:Expr}{ta:TA}{p pos pos':Pos}{es:Z4L}{Y:Nat}(U:Gl X "enumerate") (V:X.mg "enumerate" = none) (O:ZRk) (hs:starEach [a] X.env=[(false,Z7Z)]:=by rfl) (M:X.K=K:=by rfl) :
  PI X (.Tuple es Y pos') (.Call (.Name "enumerate" p) [a] [] pos) (Bl K ta):=by
 subst M
 intro pins s σ H R I h
 refine Call_ (iG I U V boot_enumerate (Ie (thn (O pos pins s σ H _ I h) λ us J w=>?_) hs rfl))
 obtain⟨vs,H1,j,r1,z⟩:=w
 obtain⟨l,xs,rfl,z,q⟩:=z
 obtain⟨u,rfl,rx⟩:=ZWF
 cases rx
 obtain⟨W,rv,p1,hz⟩:=j.list z
 refine call_enumerate_list p1.isList λ h' L z2 z3 Z=>?_
 refine wpAny_pyIter_enum L ?_
 refine⟨_,_,_,Ite X.K l,H1,rfl,j.kept (t':=J.toks) Z,sI _ _ l ZSq,⟨⟨_,L⟩,z2⟩,λ b G=>?_,q⟩
 have F:J.heap.objs.size<=b:=by
  simp only[Fi,Ft,F8] at G
  rcases G with rfl|rfl
  ·exact ZVP
  ·exact Z9
 exact j.mO F (j.hok.fresh F)
end
theorem kP {K:PySem.W.Frag}{l:Addr}{xs:Z11}{g:TG}{tb:TS}{D:Ends}{σ:St}{H:Hp}(Pv:Nat->St->Hp->Prop) (h0:ZGD) (hl:∀ i σ H,i<=xs.length->Pv i σ H->SqL K H l xs)
  (hs:∀ i x p σ H,xs[i]? = some x->H p=none->Pv i σ H->g Z00 σ (upd H p Z8o) λ σ2 H2=>tb { D with nx:=Pv (i+1),ct:=Pv (i+1),bk:=ZGQ} σ2 H2) (hd:∀ σ H,Pv xs.length σ H->D.nx σ H) :
  ∃ W:Nat->Nat->St->Hp->Prop,(∃ m,ZED)/\∀ i m σ H,W i m σ H ->
   ((ZLR).stop i H/\D.nx σ H)\/((ZLR).go i H/\∃ N:St->Hp->Prop,(∀ σ' H',N σ' H'->∃ m',m'<m/\W (i+1) m' σ' H')/\∀ x H',(ZLR).yld i H x H'->g x σ H' λ σ2 H2=>tb { D with nx:=N,ct:=N,bk:=ZGQ} σ2 H2):=by
 refine⟨λ i m σ H=>m=xs.length-i/\i<=xs.length/\Pv i σ H,ZD3,?_⟩
 rintro i m σ H ⟨rfl,hi,p⟩
 have q:=ZDP
 by_cases hlt:i<xs.length
 ·refine .inr ⟨⟨xs,xs[i],q,by simp[hlt]⟩,Pv (i+1),λ σ' H' p'=>⟨xs.length-(i+1),by lia,rfl,hlt,p'⟩,λ v H' y=>?_⟩
  obtain⟨a,x,na,rfl,rfl,y⟩:=y
  exact hs i x a σ H ZXR na p
 ·have e:i=xs.length:=Z2
  subst e
  exact Z9K
end L2
namespace PySem
section
variable {prog:Program}{w:World}{A:Around}{E:Value->Shared->Prop}{s:Shared}
theorem vG (j:IsItemIter s.heap it d i n ep ok ov)
  (hQ:∀ h',IsItemIterOut h' it d i n ep x y s.heap.objs.size->h'.get? s.heap.objs.size=some { cls:=Z0U,data:=.seq #[x,y] }->h'.objs.size=s.heap.objs.size+1 ->
   (∀ b o,b≠it->s.heap.get? b=some o->h'.get? b=some o)->Q ZI { s with heap:=h' }) :
  wpAny ZE A (Builtin.Dict_items.pairFromOwner Z0m 6 x y) Q E s:=by
 unfold Builtin.Dict_items.pairFromOwner
 refine E8 (Kt ?_)
 have z:s.heap.objs.size≠it:=Gp ZMi
 have h0:IsItemIter (s.heap.push { cls:=Z0U,data:=.seq #[x,y] }) it d i n ep ok ov:=Heap.get?_push_of_some _ j
 have V:(s.heap.push { cls:=Z0U,data:=.seq #[x,y] }).get? s.heap.objs.size=some { cls:=Z0U,data:=.seq #[x,y] }:=ZH
 have W:(s.heap.push { cls:=Z0U,data:=.seq #[x,y] }).objs.size=s.heap.objs.size+1:=Heap.size_push ..
 have U:∀ b o,s.heap.get? b=some o->(s.heap.push { cls:=Z0U,data:=.seq #[x,y] }).get? b=some o:=λ b o e=>ZG
 show wpAny _ _ (Builtin.Dict_items.ownedTupleIsFree Z0m >>= _) _ _ { s with heap:=s.heap.push { cls:=Z0U,data:=.seq #[x,y] } }
 generalize s.heap.push { cls:=.type "tuple",data:=.seq #[x,y] }=h at h0 V W U ⊢
 unfold Builtin.Dict_items.ownedTupleIsFree
 refine E8 (E8 (Kk h0 rfl (x:=.none) rfl Zm))
 simp only[HB]
 refine E8 (Kk h0 rfl (x:=ok) rfl (E8 (Kk h0 rfl (x:=ov) rfl ?_)))
 refine E8 (IC h0 ZA λ h1 e1 G=>E8 (IC (show IsItemIter h1 it d i n ep x ov from e1) Zq λ h2 e2 J=>?_))
 refine E8 (IC (show IsItemIter h2 it d i n ep x y from e2) ZA λ F e3 L=>E8 (IC (show IsItemIterOut F it d i n ep x y s.heap.objs.size from e3) Zq λ O e4 M=>?_))
 refine E8 (HV (Fb (hQ O e4 ?_ ?_ λ b o q e=>?_)))
 ·exact M.extBut _ _ z (L.extBut _ _ z (J.extBut _ _ z (G.extBut _ _ z V)))
 ·have a4:O.objs.size=F.objs.size:=M.1
  have a3:F.objs.size=h2.objs.size:=L.1
  have Z:h2.objs.size=h1.objs.size:=J.1
  have Y:h1.objs.size=h.objs.size:=G.1
  rw[a4,a3,Z,Y,W]
 ·exact M.extBut _ _ q (L.extBut _ _ q (J.extBut _ _ q (G.extBut _ _ q ZRg)))
set_option maxHeartbeats 1000000 in
theorem qf (j:Z7B) (O:s.heap.get? d=some od) (J:od.data=.dict es ep) (W:i<es.size)
  (hQ:∀ h',IsItemIterOut h' it d (i+1) es.size ep es[i].key es[i].val s.heap.objs.size ->
   h'.get? s.heap.objs.size=some { cls:=Z0U,data:=.seq #[es[i].key,es[i].val] }->h'.objs.size=s.heap.objs.size+1 ->
   (∀ b o,b≠it->s.heap.get? b=some o->h'.get? b=some o)->Q (some ZI) { s with heap:=h' }) :
  wpAny ZE A Z40 Q E s:=by
 have q:ZAA:=ZNH
 unfold pyNext
 refine E8 (HL (Hh (name:=Z1e) q F.slot_dict_itemiterator_next
  Z1b))
 obtain⟨Y,g,z,tk,V⟩:=s
 have f1:=mroOf_itemiter
 wp_walk using Gw O J,Ia O J,ZX1,HN q,HW q
 simp only[show ¬ ((i:Int)<0) from by lia,Gi,FE,FO W]
 refine ZJj
 refine E8 (HW q ?_)
 show wpAny _ _ (setField Z0m 3 (rawInt ((i:Int)+1)) >>= _) _ _ ⟨Y,g,z,tk,V⟩
 refine E8 (IC j ZA λ h1 L U=>?_)
 have G:Shared.TypeIs Z6N Z0m "dict_itemiterator":=⟨_,L,rfl⟩
 refine ZAV
 refine E8 (HW G (E8 (HW G ?_)))
 show wpAny _ _ (Builtin.Dict_items.pairFromOwner Z0m 6 es[i].key es[i].val) _ _ Z6N
 have M:IsItemIter h1 it d (i+1) es.size ep ok ov:=by
  have e:((i+1:Nat):Int)=(i:Int)+1:=Z2
  unfold IsItemIter;rw[e];simpa [rawInt] using L
 have sz:h1.objs.size=Y.objs.size:=U.1
 refine vG (s:=Z6N) M λ h' a b c k=>Fb ⟨_,rfl,Z5t⟩
 rw[show (Shared.heap Z6N).objs.size=Y.objs.size from sz] at a b c ⊢
 exact hQ h' a b c λ b o Z e=>k b o Z (U.extBut b o Z e)
set_option maxHeartbeats 1000000 in
theorem rQ (M:A.handled=none) (j:Z7B) (G:s.heap.get? d=some od) (z:od.data=.dict es ep) (J:es.size<=i)
  (L:∀ h',Heap.ExtBut it s.heap h'->Q none { s with heap:=h' }):ZGy:=by
 have q:ZAA:=ZNH
 unfold pyNext
 refine E8 (HL (Hh (name:=Z1e) q F.slot_dict_itemiterator_next
  Z1b))
 obtain⟨V,g,O,tk,W⟩:=s
 have U:=mroOf_itemiter
 wp_walk using Gw G z,Ia G z,ZX1,HN q,HW q
 simp only[show ¬ ((i:Int)<0) from by lia,Gi,FE,GF J]
 refine ZJj
 show wpAny _ _ (setField Z0m 2 .none >>= _) _ _ _
 refine E8 (IH j rfl ZA ?_)
 show wpAny _ _ (newExc ZFN [] >>= _) _ _ _
 refine Z4a
 simp only[newExc,newTuple]
 refine E8 (Gk ?_ (by size_fits))
 refine E8 (m:=Z9b) (GD (a:=Value.none) (by first|rfl|(simp only[firstArgMember];rfl)) ?_)
 refine Gk ?_ (by size_fits)
 simp only[raiseNew]
 refine ZJh
 rw[show A.in1.handled=none from M]
 refine Z6V
 refine Z1M
 exact Fb (L _ (((Heap.SameBut.update ..).extBut.push _).push _))
theorem uH (J:s.heap.IsItemsView v d) (L:s.heap.get? d=some o) (j:o.data=.dict es ep)
  (M:Q ZI { s with heap:=s.heap.push { cls:=ZDe,data:=.fields #[.none,ZSM,Z9n,ZBk,Z8j,ZCd,.none,.none] } }) :
  wpAny ZE A (pyIter (.ref v)) Q E s:=by
 obtain⟨U,G,O,z⟩:=id J
 refine Jp J.typeIs F.slot_dict_items_iter (Gj F.slot_dict_items_iter J.typeIs F.entry_dict_items_iter ?_ (F.args_dict_items_iter_1 _))
 unfold Builtin.«dict_items.__iter__» Builtin.Dict_items.dictOf Builtin.Dict_items.newIterator
 refine E8 (Fb (E8 (E8 (Kk G z (x:=Z9n) rfl Zm))))
 refine E8 (E8 (Gw L j (E8 (Ia L j ?_))))
 have q:Builtin.Dict_items.ownsTuple "dict_itemiterator" = true:=Z3
 simp only[q,HB]
 refine Gk (Fb ⟨_,rfl,"dict_itemiterator",_,ZDM,F.slot_dict_itemiterator_next.lookup,?_⟩)
  (by simp only[sizeOk,Builtin.Dict_items.ownedTupleFields,FD,Fh,FV,Ko,GG];lia)
 simpa [rawInt,Builtin.Dict_items.ownedTupleFields] using M
theorem jE (d) (q:(d == sysModules)=false) :
  MeetsIn prog w (Builtin.«dict.items» ⟨[Z9n],[]⟩) (λ _ R s=>s.TypeIs Z9n "dict" /\ R (.ok (.ret ZI)) { s with heap:=s.heap.push { cls:=Z4P,data:=.fields #[Z9n] } }):=
 .of_wp λ A R s ⟨j,h⟩=>by
  unfold Builtin.«dict.items» Builtin.Dict.noArgs
  refine E8 (E8 (Ic j ?_))
  show wpAny _ _ (pure d) _ _ s
  refine Z5t
  show wpAny _ _ (Builtin.Dict.showsAll d >>= _) _ _ s
  unfold Builtin.Dict.showsAll
  rw[Fj (by rw[q];exact Fv)]
  exact E8 (Fb (E8 (Gk (Fb ⟨_,rfl,h⟩))))
end
end PySem
namespace L2
open PySem PySem.Spec PyProof.Rows
noncomputable def Iti (a:Addr) (o:Obj) (kvs:List (List Key×V)):It:=
 ⟨λ i H=>H a=some Z0g/\i<kvs.length,λ i H x H'=>∃ p b k v,H p=none/\x=.ref p/\kvs[i]? = some (k,v)/\H b=some Z16/\H'=upd H p ZPC,λ i H=>H a=some Z0g/\kvs.length<=i⟩
theorem pN {P:Program}{w:World}{K:PySem.W.Frag}{ex:Z4L}{kk:Nat}{pos:Pos}(a it:Addr) {o:Obj}{es:Z4O}{ep:Nat}{kvs:List (List Key×V)}(Z:o.data=.dict es ep) (hn:es.size=kvs.length) :
  Turn P w K ZJ9 Z6r [it] it (λ i h=>∃ G J,IsItemIter h it a i es.size ep G J) where
 mem:=Zq
 obj:=λ i h st b hb=>by
  have e:b=it:=by simpa using hb
  subst e
  obtain⟨G,J,st⟩:=st
  exact⟨_,st,λ v q=>by cases q⟩
 keep:=λ i h h' st k=>by
  obtain⟨G,J,st⟩:=st
  exact⟨G,J,k it ZA _ st⟩
 item:=by
  intro X Y hw W j i pins s σ H E I U st hg
  subst Y hw W
  obtain⟨e,hi⟩:=hg
  obtain⟨G,J,st⟩:=st
  obtain⟨h1,a2⟩:=(show bP X.prog X.w H s.heap a Z0g from Z5i)
  obtain⟨z,y,xs,r,o1,a4,a3,g1,g2,g3,g4,g5⟩:=a2
  rw[h1] at g1;cases g1
  rw[Z] at g3;cases g3
  have O:i<es.size:=Z2
  have n1:s.heap.objs.size≠it:=Gp (Heap.lt_size st)
  obtain⟨⟨k,v⟩,M⟩:∃ p,kvs[i]? = some p:=ZHP
  obtain⟨q,hq,q1,q2,q3⟩:∃ q,xs[i]? = some q/\k=q.1/\H q.2.1=some (.tup (k.map kV))/\RelV v q.2.2:=Paired.pq (i:=i) r M
  have ee:es[i]=⟨(Z28).hash q.1,Z8B,q.2.2⟩:=by
   have:=ZRn
   rw[hq,FO O] at this
   exact Z8N
  refine qf st h1 Z O λ h' ho hT a5 hk=>?_
  refine⟨_,rfl,wpAny_letOwnedTupleGo_items (s:={ s with heap:=h' }) ho λ F L sb=>?_⟩
  have k2:∀ c o,c∉[it]->s.heap.get? c=some o->F.get? c=some o:=λ c o j q=>by
   simp only[Fd] at j
   exact(sb.2 c j).trans (hk c o j q)
  have a1:bP X.prog X.w (upd H s.heap.objs.size ZNC) F s.heap.objs.size ZNC:=by
   have e5:F.get? s.heap.objs.size=some { cls:=Z0U,data:=.seq #[Z8B,q.2.2] }:=by
    rw[ee] at hT
    exact ZHF
   exact⟨bE ZA,[Z8B,q.2.2],.cons rfl (.cons q3 .nil),_,e5,rfl,_,rfl⟩
  refine⟨ZI,_,I.jf (t':=s.toks) k2 U Z9 a1,rfl,⟨_,q.2.1,k,v,I.fresh,rfl,M,q2,rfl⟩,⟨_,_,L⟩,λ c j=>?_⟩
  rw[aV]
  ·exact(U c j).1
  ·have:c=it:=by simpa using j
   rw[this];exact ZTb
 done:=by
  intro X Y hw W j i pins s σ H E I U st hg
  subst Y hw W
  obtain⟨e,hi⟩:=hg
  obtain⟨G,J,st⟩:=st
  obtain⟨h1,_⟩:=(show bP X.prog X.w H s.heap a Z0g from Z5i)
  refine rQ ZSn st h1 Z Z2 λ h' hk=>⟨rfl,I.mQ (t':=s.toks) (its:=[it]) (λ c o j q=>?_) U⟩
  exact hk c o (λ z=>j (by simp[z])) q
 self:=λ _ _ _ _ _ st h=>by
  obtain⟨G,J,st⟩:=st
  exact PySem.W.kcp_self st h
section
variable {X:Cx}
inductive rr (R:It->Hp->Prop) (x:V) (H1:Hp):Prop
 | mk:∀ a kvs,x=.ref a->((H1 a=some Zk/\∀ o,R Z6r ZMy)\/∃ o,H1 a=some Z0g/\R Z6r H1)->rr R x H1
def zV (tl:TE):TI:=λ σ H R=>tl σ H λ x H1=>rr R x H1
theorem uh {l:Expr}{tl:TE}{apos cpos pos:Pos}{ex:Z4L}{kk:Nat}(hl:ZGF) (G:attributeBase l "items" X.env (eval l X.env)=eval l X.env:=by rfl) (J:(apos.endLine == cpos.line)=true:=by rfl) :
  PI X ZJ9 (.Call (.Attribute l "items" apos) [] [] cpos) (zV tl):=by
 intro pins s σ H R I h
 refine wpAny_Call_method0_late G J (thn (hl pins s σ H _ I h) λ v j z=>?_)
 obtain⟨x,H1,U,r1,q1⟩:=z
 obtain⟨a,kvs,rfl,q⟩:=q1
 cases r1
 obtain⟨o,H2,L,e2,hR⟩:∃ o H2,Inv X pins σ H2 j/\H2 a=some (.frz o (.dT kvs))/\R (Iti a o kvs) H2:=by
  rcases q with ⟨e,q⟩|⟨o,e,q⟩
  ·obtain⟨o,_,L⟩:=U.qP e
   exact⟨o,_,L,aU,q o⟩
  ·exact⟨o,H1,U,e,q⟩
 obtain⟨h1,ok⟩:=(show bP X.prog X.w H2 j.heap a Z0g from L.hok a _ e2)
 obtain⟨z,y,xs,r,o1,es,ep,V,W,Y,g4,g5⟩:=ok
 rw[h1] at V;cases V
 have hn:es.size=kvs.length:=by rw[Hj g4];exact ZEa
 have M:j.TypeIs ZY "dict":=⟨o,h1,W.1⟩
 refine⟨"dict","dict.items",F.plainAttrs_dict,F.slot_dict_items,F.type_dict_items,M,λ b O=>by cases O;exact⟨o,h1,W.2.1⟩,Calls.callWith_builtin rfl (PySem.evalArgs_none ?_)⟩
 refine JI F.slot_dict_items M F.entry_dict_items (F.args_dict_items_1 _) (jE a y) ⟨M,?_⟩
 refine uH (s:={ j with heap:=j.heap.push { cls:=Z4P,data:=.fields #[ZY] } }) Z2i (Heap.get?_push_of_some _ h1) Y ?_
 have kp:∀ b u,j.heap.get? b=some u->((j.heap.push { cls:=Z4P,data:=.fields #[ZY] }).push { cls:=ZDe,data:=.fields #[.none,ZSM,ZY,ZBk,Z8j,ZCd,.none,.none] }).get? b=some u:=λ b u e=>Z2z
 refine⟨_,[(j.heap.push { cls:=Z4P,data:=.fields #[ZY] }).objs.size],_,_,H2,rfl,L.kept (t':=j.toks) kp,pN a _ Y hn,⟨_,_,ZH⟩,λ b O=>?_,hR⟩
 have e:b=(j.heap.push { cls:=Z4P,data:=.fields #[ZY] }).objs.size:=by simpa using O
 have Z:j.heap.objs.size<=b:=by rw[e,Heap.size_push];exact HF _
 exact L.mO Z (L.hok.fresh Z)
end
theorem sZ {a:Addr}{o:Obj}{kvs:List (List Key×V)}{g:TG}{tb:TS}{D:Ends}{σ:St}{H:Hp}(Pv:Nat->St->Hp->Prop) (h0:ZGD) (hl:∀ i σ H,i<=kvs.length->Pv i σ H->H a=some Z0g)
  (hs:∀ i p b kk v σ H,kvs[i]? = some (kk,v)->H p=none->H b=some (.tup (kk.map kV))->Pv i σ H->g Z00 σ (upd H p ZPC) λ σ2 H2=>tb { D with nx:=Pv (i+1),ct:=Pv (i+1),bk:=ZGQ} σ2 H2) (hd:∀ σ H,Pv kvs.length σ H->D.nx σ H) :
  ∃ W:Nat->Nat->St->Hp->Prop,(∃ m,ZED)/\∀ i m σ H,W i m σ H ->
   ((Z6r).stop i H/\D.nx σ H)\/((Z6r).go i H/\∃ N:St->Hp->Prop,(∀ σ' H',N σ' H'->∃ m',m'<m/\W (i+1) m' σ' H')/\∀ x H',(Z6r).yld i H x H'->g x σ H' λ σ2 H2=>tb { D with nx:=N,ct:=N,bk:=ZGQ} σ2 H2):=by
 refine⟨λ i m σ H=>m=kvs.length-i/\i<=kvs.length/\Pv i σ H,⟨kvs.length,Zq,ZH9,h0⟩,?_⟩
 rintro i m σ H ⟨rfl,hi,p⟩
 have q:=ZDP
 by_cases hlt:i<kvs.length
 ·refine .inr ⟨⟨q,hlt⟩,Pv (i+1),λ σ' H' p'=>⟨kvs.length-(i+1),Z2,rfl,hlt,p'⟩,λ x H' y=>?_⟩
  obtain⟨c,b,kk,v,nc,rfl,y1,y2,rfl⟩:=y
  exact hs i c b kk v σ H y1 nc y2 p
 ·have e:i=kvs.length:=Z2
  subst e
  exact .inl ⟨ZT1,ZUo⟩
noncomputable def A4 (s:Stmt):Expr:=match s with
 | .Assign _ e _=>e
 | _=>ZQe
noncomputable def mE (e:Expr):Arguments:=match e with
 | .Lambda a _ _ _=>a
 | _=>{ posonlyargs:=[],args:=[],vararg:=none,kwonlyargs:=[],kw_defaults:=[],kwarg:=none,defaults:=[] }
noncomputable def mF (e:Expr):Expr:=match e with
 | .Lambda _ b _ _=>b
 | _=>ZQe
noncomputable def dr (e:Expr):Scope:=match e with
 | .Lambda _ _ sc _=>sc
 | _=>{ kind:=.function,names:=[],isGenerator:=false,isCoroutine:=false }
noncomputable def pP (e:Expr):Pos:=match e with
 | .Lambda _ _ _ p=>p
 | _=>Z4A
structure mV (H:Hp) (qual:Str) (e:Expr) (F:List Str) (f:Addr) (ws:List V):Prop where
 ex:∃ (cl:List (Str×Addr)) (pm ctv:Value) (c':Addr) (oc:Obj) (vs:Array Value) (t:Tok),
  H f=some (.frz { cls:=Z3g,data:=.func (Jk "<lambda>" qual (mE e) ZVq ZIx cl pm Z84 ctv) } ZPi) /\
  H c'=some Z2_/\oc.data=.fields vs/\vs[1]? = some ZFO /\
  (∀ x c,cl.lookup x=some c->x∈F)/\(∀ x y c,cl.lookup x=some c->cl.lookup y=some c->x=y) /\
  ∀ (i:Nat) x v,F[i]? = some x->ws[i]? = some v->∃ c o u,cl.lookup x=some c/\H c=some Z3N/\o.data=.cell ZBm/\RelV v u
 len:ws.length=F.length
theorem mV.same (k:ic H H') (c:mV H qual e F f ws):mV H' qual e F f ws:=by
 obtain⟨⟨cl,W,j,q,V,vs,t,z,G,J,L,M,O,U⟩,l⟩:=c
 exact⟨⟨cl,W,j,q,V,vs,t,ZUd,k _ _ _ G,J,L,M,O,λ i x v h1 h2=>let ⟨c,o,u,Y,Z,z3,z4⟩:=U i x v h1 h2;⟨c,o,u,Y,k _ _ _ Z,z3,z4⟩⟩,l⟩
structure ir (P:Program) (w:World) (K:PySem.W.Frag) (mg:Str->Option Value) (base:Heap) (CX:CXT) (k:Nat) (qual:Str) (e:Expr) (ps F:List Str) (sp:List V->Sp):Prop where
 len:∀ ws vs H Q E,sp ws vs H Q E->vs.length=ps.length
 run:∀ (f:Addr) (ws:List V) (A:Around) (outer:List Env) (s:Shared) (H:Hp) (us:List Value) (vs:List V) (Q:VK) (E:XK),dk k A->kY P w K mg base A outer s H->mV H qual e F f ws->Vals vs us->sp ws vs H Q E ->
  codeAny Zh A ZMD Z6J s
theorem ir.mono {P:Program}{w:World}{K:PySem.W.Frag}{mg:Str->Option Value}{base:Heap}{CX:CXT}{j k:Nat}{qual:Str}{e:Expr}{ps F:Zo}{sp:List V->Sp}(C:ir P w K mg base CX j qual e ps F sp) (h:j<=k) :
  ir P w K mg base CX k qual e ps F sp:=Z2R
theorem xt {CX:CXT}{P:Program}{w:World}{K:PySem.W.Frag}{mg:Str->Option Value}{base:Heap}{k:Nat}{qual:Str}{e:Expr}{N ps F:Zo}{sp:List V->Sp}(S:kI N ps F ZIx)
  (W:∀ j vs H Q E,sp j vs H Q E->vs.length=ps.length)
  (hb:∀ (cl:List (Str×Addr)) (pm G:Value) (z:Addr) (us:List Value),us.length=ps.length->bindArgs (Jk "<lambda>" qual (mE e) ZVq ZIx cl pm ZPE G) Z5Y=pure Z9a)
  (L:∀ (f:Addr) (M:Value) (cl:List (Str×Addr)) (A:Around) (outer:List Env) (s:Shared) (H:Hp) (j vs:List V) (Q:VK) (E:XK),
   dk k (A.deeper (PySem.W.envX qual ZIx s.heap.objs.size f M (cellsFrom (s.heap.objs.size+1) (dr e).names cl)))->j.length=F.length->sp j vs H Q E ->
   ∃ t,PE (cxC CX P w K mg base N F qual ZIx f M cl A outer s H E).nox ZVq t/\t ZIC H Q) :
  ir P w K mg base CX (k+1) qual e ps F sp:=by
 refine⟨W,λ f j A outer s H us vs Q E Z O c r U=>?_⟩
 have hl:=W _ _ _ _ _ U
 obtain⟨⟨cl,pm,G,z,oc,Y,t,e1,e2,e3,e4,e5,e6,e7⟩,wl⟩:=c
 have a2:s.heap.NoLimit:=O.mod.nolimit.keeps λ b o e=>(O.bs b o e).1
 have a1:us.length=ps.length:=by rw[<- r.length];exact hl
 obtain⟨g1,_⟩:=O.hok f _ e1
 obtain⟨g2,_⟩:=O.hok z _ e2
 refine PySem.W.kla_callFunE Z.depth g1 rfl S.co S.gen rfl ⟨z,oc,Y,t,rfl,g2,e3,e4⟩ ?_
 rw[hb cl pm G z us a1]
 refine Z5t
 refine pL S.kind (λ y hy=>S.par y.1 (Je hy).1) λ a3 he h' tk n hk o1 o2=>?_
 subst he
 refine⟨a2.keeps hk,PySem.W.kla_codeExpr ?_⟩
 obtain⟨t,ht,hq⟩:=L f ZPE cl A outer s H j vs Q E (Z.deeper _) wl U
 have I:Inv (cxC CX P w K mg base N F qual ZIx f ZPE cl A outer s H E) [] ZIC H { s with heap:=h',toks:=tk }:=qt S Z.hd O hl r wl e5 e6 e7 n hk o1 o2
 refine Ga (ht.nox [] _ ZIC H _ I hq) (λ u s' hs=>?_) λ e s' hs=>hs
 obtain⟨v,H',J,rv,q⟩:=hs
 exact Z7I
section
variable {X:Cx}
inductive rB (C:Addr) (m:Str) (qual:Str) (e:Expr) (F:List Str) (sp:List V->Sp) (E:XK) (t:TA) (σ:St) (Q:VK) (x:V) (H1:Hp):Prop
 | mk:∀ a dx fs f ws,x=.ref a->H1 a=some (.ins C dx fs)->fs.lookup m=some (.ref f)->mV H1 qual e F f ws->(t σ H1 λ vs H2=>ic H1 H2/\sp ws vs H2 Q E)->rB C m qual e F sp E t σ Q x H1
def zL (C:Addr) (m:Str) (qual:Str) (e:Expr) (F:Zo) (sp:List V->Sp) (E:XK) (tf:TE) (t:TA):TE:=λ σ H Q=>tf σ H λ x H1=>rB C m qual e F sp E t σ Q x H1
theorem sN
  (C:Z5a) (hr:ZB_) (hx:Z3D) (ha:PA X (e::es) t) (O:Inv X pins σ H1 s1) (c:mV H1 qual lam F f ws) (h1:t σ H1 λ vs H2=>ic H1 H2/\sp ws vs H2 Q E)
  (he:starEach (e::es) X.env=(false,Z0k)::starEach es X.env) (M:(Z0K).any (·.1)=false) :
  wpAny Z5 X.A (callWith pos Z0X [] (backTo pos (starEach (e::es) X.env)) []) Z0N X.xe s1:=by
 obtain⟨cl,pm,Y,c',oc,vs,tq,U,_⟩:=id c.ex
 have G:∀ {o:Obj} {h:Heap},h.get? f=some o->PySem.W.Frag.In [(f,o)] h:=λ{o h} z a o' q=>by
  rw[Hf] at q
  cases L:a == f with
  | true=>rw[L] at q;cases q;rw[Hv.mp L];exact z
  | false=>rw[L] at q;cases q
 obtain⟨g1,_⟩:=O.hok f _ U
 refine Jl (h₀:=s1.heap) (G g1) (by simp[PySem.W.keepIn]) (thn (ha pos pins s1 σ H1 _ O h1) λ us W z=>?_) he M
 obtain⟨vs,H2,J,r,V,q⟩:=z
 obtain⟨g2,_⟩:=J.hok f _ (V _ _ _ U)
 refine⟨G g2,?_⟩
 refine IV (Jh (C.run f ws X.A X.stack W H2 us vs Q E hr J.zH (c.same V) r q) λ r s' j=>?_)
 cases r with
 | error e=>exact hx pins σ H2 W e s' J j
 | ok Z=>
  cases Z with
  | ret u=>exact J.after j
  | next=>exact ZAy
  | brk=>exact ZAy
  | cont=>exact ZAy
end
section
variable {X:Cx}{pins:List (Addr×Obj)}{σ:St}{H:Hp}{s:Shared}{A:Around}{E:Value->Shared->Prop}
theorem oP (I:Z8) (e:H a=some Z0T) (c:Z7o) (n:ZTO) (l:fs.lookup m=some v)
  (h:∀ u s',Inv X pins σ H s'->RelV v u->Q (u,[]) s'):Z8X:=by
 obtain⟨mA,O,r,_,_,_⟩:=ZE4
 obtain⟨j,J,_⟩:=O.look
 exact PySem.W.method_usual I.kIn J (Iq ZLz).1 (Iq ZLz).2 n rfl (kG I e c n l h)
theorem wb {CX:CXT}{k:Nat}{C:Addr}{m qual:Str}{lam o:Expr}{ps F:Zo}{sp:List V->Sp}{E:XK}{apos pos:Pos}{e:Expr}{es:Z4L}{tf:TE}{t:TA}{pl:ZNz}(CO:Z5a) (hr:ZB_)
  (hf:PE X o tf) (c:Z7o) (n:ZTO) (hx:Z3D) (ha:PA X (e::es) t) (hst:starEach (e::es) X.env=(false,Z0k)::starEach es X.env:=by rfl) (hpl:(Z0K).any (·.1)=false:=by rfl)
  (ht:eval (.Call Z27 (e::es) [] pos) X.env=(do
   let ov <- eval o X.env
   standAt apos.atName
   let (f,first) <- holding [ov] Z9B
   callWith pos f first (backTo pos (starEach (e::es) X.env)) ZA1):=by rfl) :
  PE X (.Call Z27 (e::es) [] pos) (zL C m qual lam F sp E tf t):=by
 intro pins s σ H Q I h
 refine JO (pl:=pl) (thn (hf pins s σ H _ I h) λ u s1 z=>?_) ht
 obtain⟨x,H1,I1,rx,a,dx,fs,f,ws,ex,ea,l,cl,q⟩:=z
 subst ex
 obtain rfl:u=Value.ref a:=rx
 refine oP I1 ea c n l λ u2 s2 I2 ru=>?_
 obtain rfl:u2=Value.ref f:=ru
 exact sN CO hr hx ha I2 cl q hst hpl
end
noncomputable abbrev Cx.Em (X:Cx) (F:Zo):Cx:={ X with fn:=λ x=>X.fn x && !F.contains x }
section
variable {X:Cx}{σ:St}{H:Hp}{s:Shared}
theorem Inv.freeze (I:Inv X [] σ H s) (V:∀ x,X.fn x=true) :
  ∃ H2,Inv ZXe [] σ H2 s/\(∀ b o,H b=some o->H2 b=some o)/\(∀ x∈F,∀ c,X.env.cells.lookup x=some c->∃ o,s.heap.get? c=some o/\H2 c=some Z3N)/\∀ b,H2 b≠none->H b≠none\/∃ x∈F,X.env.cells.lookup x=some b:=by
 have J:∀ x c,X.env.cells.lookup x=some c->H c=none:=λ x c e=>(I.freeC x c e).elim id λ z=>absurd ((V x).symm.trans z.1) Z3
 have O:∀ x c,X.env.cells.lookup x=some c->X.s₀.heap.objs.size<=c:=λ x c e=>I.ok.cab x c (V x) e
 classical
 let H2:Hp:=λ b=>if (∃ x∈F,X.env.cells.lookup x=some b) then (ZNR).map ZF6 else H b
 have j:∀ b,(¬ ∃ x∈F,X.env.cells.lookup x=some b)->H2 b=H b:=λ b n=>Fj n
 have L:∀ b,(∃ x∈F,X.env.cells.lookup x=some b)->H2 b=(ZNR).map ZF6:=λ b n=>Fl n
 have G:∀ b o,H b=some o->H2 b=some o:=λ b o e=>by
  rw[j]
  ·exact e
  ·rintro⟨x,_,z⟩;rw[J x b z] at e;cases e
 have Z:∀ b,b<X.s₀.heap.objs.size->H2 b=H b:=λ b lt=>j b λ⟨x,_,z⟩=>absurd (FA lt (O x b z)) ZB6
 have Y:∀ x∈F,∀ c,X.env.cells.lookup x=some c->∃ o,s.heap.get? c=some o/\H2 c=some Z3N:=λ x M c e=>by
  obtain⟨v,o,W,_⟩:=Z7l
  exact⟨o,W,by rw[L c ⟨x,M,e⟩,W];rfl⟩
 refine⟨H2,⟨⟨I.ok.mod,I.ok.kind,I.ok.glob,I.ok.blt,I.ok.above,I.ok.inj,I.ok.has,λ x c hf e=>O x c e,I.ok.hd,I.ok.frames,I.ok.stk,I.ok.exf,I.ok.bs,I.ok.bsz,I.ok.noex,I.ok.exfs,I.ok.iJ,I.ok.frf⟩,I.os,I.bare,
  ⟨I.base.keep,I.base.slot,λ b o q n M=>by rw[Z b Z3Z];exact I.base.free b o q n M,I.base.there,λ b xs q=>G _ _ ZIk,λ b o u q=>G _ _ (I.base.frzs b o u q),λ b ps q=>let ⟨m,z⟩:=ZIl;⟨m,G _ _ z⟩⟩,
  I.loc,I.cell,?_,λ x c e=>?_,λ p hp=>?_,λ b o q=>?_,I.len⟩,G,Y,λ b n=>?_⟩
 ·rw[j]
  ·exact I.free
  ·rintro⟨x,_,z⟩;exact I.cne x _ z rfl
 ·by_cases M:x∈F
  ·obtain⟨o,_,e2⟩:=Y x M c e
   refine .inr ⟨?_,o,_,e2⟩
   show (X.fn x && !F.contains x)=false
   rw[List.contains_iff_mem.mpr M];simp
  ·refine ZSL
   rw[j]
   ·exact J x c e
   ·rintro⟨y,hy,z⟩
    exact M (by rw[I.ok.inj x y c e z];exact hy)
 ·obtain⟨z1,z2,z3,z4,z5⟩:=ZEK
  refine⟨z1,?_,z3,z4,z5⟩
  rw[j]
  ·exact z2
  ·rintro⟨x,_,z⟩
   obtain⟨v,o,W,hd⟩:=I.cell x _ z
   rw[z1] at W;cases W
   exact z5 _ hd
 ·by_cases U:∃ x∈F,X.env.cells.lookup x=some b
  ·rw[L b U] at q
   obtain⟨ob,z,rfl⟩:=GL.mp q
   exact⟨z,ob,z⟩
  ·rw[j b U] at q
   exact(I.hok b o q).kX (λ _ _ _ r=>r) (λ c r=>G _ _ r) λ c xs r=>G _ _ r
 ·by_cases U:∃ x∈F,X.env.cells.lookup x=some b
  ·exact .inr U
  ·rw[j b U] at n;exact .inl n
end
def EV (T:Addr) (qual:Str) (lam:Expr) (F:Zo) (ix:ZO8) (i:Nat) (u:TE):TE:=λ σ H Q=>nF H T ZXX qual/\∃ ws,ws.length=F.length/\(∀ (j i:Nat),ix[j]? = some i->∃ v,σ[i]? = some (Z4c)/\ws[j]? = some v) /\
 ∀ f H',H f=none->qY T H H'->nF H' T ZXX qual->mV H' qual lam F f ws->u (σ.set i Z38) H' Q
theorem zl {X:Cx}{T c:Addr}{x qual:Str}(lam:Expr) {args:Arguments}{body:Expr}{scope:Scope}{pos pA p0:Pos}{rest:Z5f}{u:TE}{F:Zo}{ix:ZO8}{i:Nat}(hlam:lam=.Lambda args body scope pos) (Tb:Tab X.mg X.base c T) (hcd:X.env.code=.ref c) (hN:X.N.Nodup) (hi:X.N[i]? = some x)
  (hloc:X.env.scope.names.lookup x=some .local) (hfn:∀ x,X.fn x=true) (hix:∀ (j:Nat) x,F[j]? = some x->∃ i',ix[j]? = some i'/\X.N[i']? = some x) (hni:∀ i'∈ix,i'≠i) (hF:∀ x∈F,X.env.scope.names.lookup x=some .cell)
  (hfr:∀ y∈(dr lam).names,y.2=.free->y.1∈F) (hfr2:∀ x∈F,(dr lam).names.lookup x=some .free) (hrest:PM ZXe rest u)
  (hdf:defaultsOf (mE lam) X.env=([],[]):=by rfl) (hq:X.env.qual ++ "<lambda>" = qual:=by rfl) (hs:swapsWith lam (some ZTx) pA.line X.env=pure false:=by rfl) :
  PM X (.Assign [ZTx] lam pA::rest) (EV T qual lam F ix i u):=by
 subst hlam
 intro s σ H Q I h
 obtain⟨tab,ws,wl,hw,k⟩:=h
 have hfr:∀ y∈scope.names,y.2=.free->y.1∈F:=hfr
 have hfr2:∀ x∈F,scope.names.lookup x=some .free:=hfr2
 have has:∀ y∈scope.names,y.2=.free->∃ c,X.env.cells.lookup y.1=some c:=λ y hy hf=>I.ok.has y.1 (.inl (hF _ (hfr y hy hf)))
 obtain⟨cl,ecl,hcl,hfc⟩:=fU has
 obtain⟨cl2,ecl2,hkey⟩:=mT has
 have:cl=cl2:=by rw[ecl] at ecl2;injection ecl2
 subst this
 have fin:∀ (f c':Addr) (oc:Obj) (cvs:Array Value) (tq:Tok) (pm ctv:Value) (H1:Hp) (h1:Heap) (tk:Nat),H f=none->Inv X [] σ H1 { s with heap:=h1,toks:=tk }->qY T H H1->nF H1 T pos qual ->
   H1 f=some (.frz { cls:=Z3g,data:=.func (Jk "<lambda>" qual args body scope cl pm Z84 ctv) } ZPi)->H1 c'=some Z2_->oc.data=.fields cvs->cvs[1]? = some (.str qual tq) ->
   wpAny Z5 X.A (storeName X.env x Z0X) (λ _ s2=>wpAny Z5 X.A (execs rest X.env)
    (λ fl s'=>∃ u v H',fl=.ret u/\s'.os=X.s₀.os/\AllBare s'.gens/\Un X.fs X.ex X.H₀ H' X.s₀.heap s'.heap/\HOk X.prog X.w H' s'.heap/\RelV v u/\Q v H') X.xe s2) X.xe { s with heap:=h1,toks:=tk }:=by
  intro f c' oc cvs tq pm ctv H1 h1 tk fresh I1 sT tT ef ec' e3 e4
  refine kH (v:=ZCY) (u:=ZCY) I1 hN hi (.inl hloc) rfl (λ s2 I2=>?_) (.inr hloc)
  obtain⟨H2,I3,old,isc,_⟩:=I2.freeze (F:=F) hfn
  refine hrest s2 _ H2 Q I3 (k f H2 fresh (λ b o hb e=>old _ _ (sT b o hb e)) ?_ ⟨⟨cl,pm,ctv,c',oc,cvs,tq,old _ _ ef,old _ _ ec',e3,e4,?_,?_,?_⟩,wl⟩)
  ·rcases tT with z|⟨c2,oc2,v2,t2,z,z2,r⟩
   ·exact .inl ZUX
   ·exact .inr ⟨c2,oc2,v2,t2,ZUX,old _ _ z2,r⟩
  ·intro x c e
   obtain⟨y,m,rfl,hy⟩:=hkey x c e
   exact hfr y m hy
  ·intro x y c e1 e2
   exact I3.ok.inj x y c (hcl x c e1) (hcl y c e2)
  ·intro j x v ej ewj
   obtain⟨i',ei,eN⟩:=hix j x ej
   obtain⟨v',es,ew⟩:=hw j i' ei
   rw[ewj] at ew;cases ew
   have xF:x∈F:=Fg ej
   obtain⟨m,hn,hl⟩:=I3.loc
   obtain⟨u,ru,lo⟩:=hl i' x v eN (by rw[FZ (Ne.symm (hni i' (Fg ei)))];exact es) (.inr (.inl (hF x xF)))
   rcases lo with ⟨z,_⟩|⟨_,c,ec,o,ho,hd⟩
   ·have z':X.env.scope.names.lookup x=some .local:=z
    rw[hF x xF] at z';cases z'
   ·obtain⟨c2,ec2⟩:=hfc _ (Gg (hfr2 x xF)) rfl
    have:=hcl x c2 ec2
    rw[ec] at this;cases this
    obtain⟨o2,ho2,hH2⟩:=isc x xF c ec
    rw[ho] at ho2;cases ho2
    exact⟨c,o,u,ec2,hH2,hd,ru⟩
 have G:=Z51
 have C:=Tb.code.keeps I.bk
 have B:=Tb.blt.keeps I.bk
 refine Jz (wpAny_Assign_Name (PySem.W.kla_eval hdf ?_) hs)
 rw[hq]
 rcases tab with tab|⟨c',oc,cvs,tq,tab,ec',e3,e4⟩
 ·have hP:s.heap.get? T=some (PySem.W.tabObj #[]):=ZOB
  refine PySem.W.kla_makeFunction ecl I.ok.glob G hcd C hP trivial rfl Tb.ne B λ c' ctv h' tk hx hge hlt hrec htb=>?_
  obtain⟨c2,oc,cvs,tq,e2,g2,e3,e4⟩:=hrec
  cases e2
  let fo:Obj:={ cls:=Z3g,data:=.func (Jk "<lambda>" qual args body scope cl ZBA Z84 ctv) }
  let H1:Hp:=upd (upd (upd H T (.tbl (#[] ++ #[Z7U,Z8Y,Z84]))) c' Z2_) h'.objs.size Z2d
  have Tlt:T<s.heap.objs.size:=I.hok.lt tab
  have cT:c'≠T:=Gp ZR3
  have fc:h'.objs.size≠c':=Gp hlt
  have fT:h'.objs.size≠T:=Gp (JK ZR3 hlt)
  have n1:H c'=none:=ZLT
  have n2:H h'.objs.size=none:=I.hok.fresh (FC hge (Gq hlt))
  have H1f:H1 h'.objs.size=some Z2d:=aU
  have H1c:H1 c'=some Z2_:=by show upd _ _ _ _=_;rw[aV (Ne.symm fc),aU]
  have H1T:H1 T=some (.tbl (#[] ++ #[Z7U,Z8Y,Z84])):=by show upd _ _ _ _=_;rw[aV (Ne.symm fT),aV (Ne.symm cT),aU]
  have H1o:∀ b,b≠T->b≠c'->b≠h'.objs.size->H1 b=H b:=λ b x1 x2 x3=>by show upd _ _ _ _=_;rw[aV x3,aV x2,aV x1]
  have sT:ZUU:=λ b o hb e=>by
   rw[H1o b hb (λ z=>by rw[z,n1] at e;cases e) (λ z=>by rw[z,n2] at e;cases e)];exact e
  have gf:(Z82).get? h'.objs.size=some fo:=ZH
  have gr:=grown (fs:=X.fs) (P:=X.prog) (w:=X.w) (h':=Z82) tab I.hok sT (λ b hb n lt=>by rw[H1o b hb (Fu ZSv) (Fu (JK ZSv hlt))];exact n)
   (λ b o hb e=>Heap.get?_push_of_some _ (hx b o hb e)) H1T (Heap.get?_push_of_some _ htb) (λ b o n e=>by
    by_cases x3:b=h'.objs.size
    ·subst x3;rw[H1f] at e;cases e;exact⟨gf,_,gf⟩
    ·by_cases x2:b=c'
     ·subst x2;rw[H1c] at e;cases e;exact⟨ZCP,_,ZCP⟩
     ·have x1:b≠T:=λ z=>by rw[z,tab] at n;cases n
      rw[H1o b x1 x2 x3,n] at e;cases e)
  exact fin h'.objs.size c' oc cvs tq _ ctv H1 Z82 tk n2 (I.un gr.1 gr.2) sT (.inr ⟨c',oc,cvs,tq,by rw[H1T];rfl,H1c,e3,e4⟩) H1f H1c e3 e4
 ·have hP:s.heap.get? T=some (PySem.W.tabObj #[Z7U,Z8Y,Z84]):=ZOB
  refine PySem.W.kla_makeFunctionHit (cv:=Z84) ecl I.ok.glob G hcd C hP (by simp[TriplesOk,rawInt]) (by simp[codeAmong,rawInt]) B λ ctv h' tk hx hge=>?_
  let fo:Obj:={ cls:=Z3g,data:=.func (Jk "<lambda>" qual args body scope cl ZBA Z84 ctv) }
  let H1:Hp:=upd H h'.objs.size Z2d
  have n2:H h'.objs.size=none:=ZLT
  have H1f:H1 h'.objs.size=some Z2d:=aU
  have all:∀ b o,H b=some o->H1 b=some o:=λ b o e=>by show upd _ _ _ _=_;rw[aV (ba e n2)];exact e
  have gf:(Z82).get? h'.objs.size=some fo:=ZH
  have I1:Inv X [] σ H1 { s with heap:=Z82,toks:=tk }:=I.laid (λ b o e=>Heap.get?_push_of_some _ (hx b o e)) hge ⟨gf,_,gf⟩
  exact fin h'.objs.size c' oc cvs tq _ ctv H1 Z82 tk n2 I1 (λ b o _ e=>all b o e) (.inr ⟨c',oc,cvs,tq,all _ _ tab,ZR_,e3,e4⟩) H1f ZR_ e3 e4
theorem xq (h:PSs X body t):PM X body (λ σ H Q=>t { nx:=λ _ _=>False,rt:=Q } σ H):=by
 intro s σ H Q I F
 refine Ga (h [] s σ H _ I F) (λ z s' j=>?_) λ e s' j=>j
 cases z with
 | ret u=>
  obtain⟨v,L,H',J,G,q⟩:=j
  exact⟨u,v,H',rfl,J.os,J.bare,J.base,J.hok,G,q⟩
 | next=>obtain⟨_,_,_,q⟩:=j;exact Z3x
 | brk=>obtain⟨_,_,_,q⟩:=j;exact Z3x
 | cont=>obtain⟨_,_,_,q⟩:=j;exact Z3x
end L2
namespace Tim
open PySem PyProof.Rows
def Cmp (prog:Program) (w:World) (A:Around) (s:Shared) (rk:Keyed->Int) (κ:SortKind) (S:ZAT):Prop:=
 ∀ x∈S,∀ y∈S,∀ (E:Value->Shared->Prop) (Q:Bool->Shared->Prop),Q (decide (rk x<rk y)) s->wpAny ZE A (keyLt' κ x.1 y.1) Q E s
structure SB (a₀:Array Keyed) (κ:SortKind) (P:Array (Nat×Nat×Nat)) (st:SortSt):Prop where
 perm:(ZP).Perm a₀
 kind:kindOf st=κ
 failed:failedOf st=none
 pend:pendingOf st=P
noncomputable def R (rk:Keyed->Int) (xs:ZX) (i:Nat):Int:=match xs[i]? with
 | some p=>rk p
 | none=>0
section
variable {rk:Keyed->Int}{κ:SortKind}{a₀:Array Keyed}{P:Array (Nat×Nat×Nat)}
theorem cz (h:i<xs.size):R rk xs i=rk xs[i]:=by unfold R;rw[getElem?_pos xs i h]
theorem fM (h:xs[i]? = ys[j]?):R rk xs i=R rk ys j:=by unfold R;rw[h]
theorem SB.size {st:SortSt}(h:SB a₀ κ P st):(ZP).size=a₀.size:=h.perm.size_eq
theorem SB.setArr {st:SortSt}(h:SB a₀ κ P st) {xs:ZX}(j:xs.Perm ZP):SB a₀ κ P (setArr st xs):=⟨j.trans h.perm,h.kind,h.failed,h.pend⟩
theorem SB.mem {st:SortSt}(h:SB a₀ κ P st) {i:Nat}(hi:i<(ZP).size):(ZP)[i]∈a₀.toList:=(Hz.mp h.perm).mem_iff.mp ZA
theorem i8 (D:(a₀.toList.map rk).Nodup) (G:xs.Perm a₀) (hi:i<xs.size) (F:j<xs.size) (e:R rk xs i=R rk xs j):i=j:=by
 have n:(ZBC).Nodup:=((Hz.mp G).map rk).nodup_iff.mpr D
 rw[cz hi,cz F] at e
 have q:(ZBC)[i]? = some (rk xs[i]):=by rw[Ff];simp[hi]
 have z:(ZBC)[j]? = some (rk xs[j]):=by rw[Ff];simp[F]
 exact(G5 (ZLW).1 n).mp (by rw[q,z,e])
def Seg (rk:Keyed->Int) (xs:ZX) (lo hi:Nat):Prop:=∀ i j,lo<=i->i<j->j<hi->R rk xs i<R rk xs j
theorem oR (hs:src<xs.size) (j:d<=src) (k) :
  R rk (bubble xs src d) k=if k=src-d then R rk xs src else if src-d<k/\k<=src then R rk xs (k-1) else R rk xs k:=by
 have e:=getElem?_bubble hs d j k
 by_cases h1:k=src-d
 ·rw[Fl h1] at e ⊢;exact fM e
 ·rw[Fj h1] at e ⊢
  by_cases h2:src-d<k/\k<=src
  ·rw[ZRw] at e ⊢;exact fM e
  ·rw[ZRy] at e ⊢;exact fM e
theorem oS (q:j<=xs.size) (k):R rk (mirror xs i j ((j-i)/2)) k=if i<=k/\k<j then R rk xs (i+j-1-k) else R rk xs k:=by
 have e:=getElem?_mirror_all (i:=i) q k
 by_cases h:i<=k/\k<j
 ·rw[ZOL] at e ⊢;exact fM e
 ·rw[ZMk] at e ⊢;exact fM e
end
section
variable {prog:Program}{w:World}{A:Around}{E:Value->Shared->Prop}{s:Shared}{rk:Keyed->Int}{κ:SortKind}{a₀:Array Keyed}{P:Array (Nat×Nat×Nat)}
theorem kO {st:SortSt}{x y:Keyed}{Q:Option Bool->SortSt->Prop}(C:Cmp prog w A s rk κ a₀.toList) (j:kindOf st=κ) (q:x∈a₀.toList) (z:y∈a₀.toList) (h:Q (some (decide (rk x<rk y))) st) :
  wpS ZE A E s (lt' x y) Q st:=by
 rw[lt'_eq]
 refine Z2K
 rw[j]
 exact Fp (Jy (HL (C x q y z _ _ ⟨rfl,Fz h⟩)))
theorem bS {st:SortSt}{xs:ZX}{i:Nat}{Q:Keyed->SortSt->Prop}(hi:i<xs.size) (h:Q xs[i] st):wpS ZE A E s (elem' xs i) Q st:=by
 rw[elem'_eq,getElem?_pos xs i hi]
 exact Fz h
theorem gS {st:SortSt}{i j:Nat}{Q:Option Bool->SortSt->Prop}(C:Cmp prog w A s rk κ a₀.toList) (F:SB a₀ κ P st) (hi:i<a₀.size) (G:j<a₀.size)
  (h:Q (some (decide (R rk ZP i<R rk ZP j))) st):wpS ZE A E s (ltAt' i j) Q st:=by
 have q:i<(ZP).size:=by rw[F.size];exact hi
 have z:j<(ZP).size:=by rw[F.size];exact G
 rw[ltAt'_eq]
 refine Z2K
 refine Fp (bS q ZGN)
 refine kO C F.kind (F.mem q) (F.mem z) ?_
 rw[cz q,cz z] at h
 exact h
theorem wpS_binarySort {st:SortSt}{lo n ok:Nat}{Q:Bool->SortSt->Prop}(C:Cmp prog w A s rk κ a₀.toList) (D:(a₀.toList.map rk).Nodup) (hn:lo+n<=a₀.size) (a5:ok<=n) (hB:SB a₀ κ P st) (hs:Seg rk ZP lo (lo+ok))
  (h:∀ z,SB a₀ κ P z->Seg rk Z4T lo (lo+n)->(∀ k,(k<lo\/lo+n<=k)->(ZL9)[k]? = (ZP)[k]?)->Q true z):wpS ZE A E s (binarySort' lo n ok) Q st:=by
 rw[binarySort'_eq]
 refine Fp (Hg (Gv (I:=λ k c z=>c=(none,())/\SB a₀ κ P z/\Seg rk Z4T lo (lo+min k n)/\∀ k,(k<lo\/lo+n<=k)->(ZL9)[k]? = (ZP)[k]?)
  (Q:=λ c z=>c=(none,())/\SB a₀ κ P z/\Seg rk Z4T lo (lo+n)/\∀ k,(k<lo\/lo+n<=k)->(ZL9)[k]? = (ZP)[k]?) ?step ?fin ?init) ?post)
 case post=>
  rintro c z ⟨rfl,G,J,ho⟩
  exact Fz (h z G J ho)
 case init=>
  refine⟨rfl,hB,λ i j h0 Y hj=>?_,λ _ _=>rfl⟩
  by_cases h1:ok=0
  ·lia
  ·exact hs i j h0 Y Z2
 case fin=>
  rintro c z ⟨hc,G,J,ho⟩
  refine⟨hc,G,?_,ho⟩
  rwa [show min (max (max ok 1) n) n=n by lia] at J
 case step=>
  rintro k c z a2 a3 ⟨rfl,G,J,ho⟩
  rw[show min k n=k by lia] at J
  have O:lo+k<(ZL9).size:=by rw[G.size];lia
  refine Fp (Hg (Gv (I:=λ x c q=>q=z/\∃ l r,c=(none,l,r)/\l<=r/\r<=k/\r-l<=k-x /\
    (∀ i,i<l->R rk Z4T (lo+i)<R rk Z4T (lo+k))/\(∀ i,r<=i->i<k->R rk Z4T (lo+k)<R rk Z4T (lo+i)))
   (Q:=λ c q=>q=z/\∃ l r,c=(none,l,r)/\l<=k /\
    (∀ i,i<l->R rk Z4T (lo+i)<R rk Z4T (lo+k))/\(∀ i,l<=i->i<k->R rk Z4T (lo+k)<R rk Z4T (lo+i))) ?istep ?ifin ?iinit) ?ipost)
  case iinit=>exact⟨rfl,0,k,rfl,Z2,Z2,Z2,λ i hi=>Z2,λ i h1 h2=>Z2⟩
  case ifin=>
   rintro c q ⟨rfl,l,r,rfl,a1,U,hm,M,L⟩
   have:l=r:=Z2
   subst this
   exact ZEg
  case istep=>
   rintro x c q _ a6 ⟨rfl,l,r,rfl,a1,U,hm,M,L⟩
   dsimp only
   by_cases V:l >= r
   ·rw[Fl V]
    have:l=r:=Z2
    subst this
    exact Fz ZEg
   ·rw[Fj V]
    refine Fp (gS C G Z2 Z2 ?_)
    by_cases F:R rk Z0A (lo+k)<R rk Z0A (lo+(l+r)/2)
    ·simp only[F,ID,HB]
     refine Fz ⟨rfl,l,(l+r)/2,rfl,Z2,Z2,Z2,M,λ i h1 h2=>?_⟩
     by_cases e:i=(l+r)/2
     ·rw[e];exact F
     ·exact Kd F ZDW
    ·simp only[F,Jg,Fx,Gi]
     have ne:R rk Z0A (lo+(l+r)/2)≠R rk Z0A (lo+k):=λ e=>by
      have:=i8 D G.perm Z2 O e
      lia
     have lt:R rk Z0A (lo+(l+r)/2)<R rk Z0A (lo+k):=Z2
     refine Fz ⟨rfl,(l+r)/2+1,r,rfl,Z2,Z2,Z2,λ i h1=>?_,L⟩
     by_cases e:i=(l+r)/2
     ·rw[e];exact lt
     ·exact Kd ZDW lt
  case ipost=>
   rintro c q ⟨rfl,l,r,rfl,a4,M,L⟩
   show wpS _ _ _ _ (do moveDown' (lo+k) (lo+l);pure (ForInStep.yield (none,()))) _ _
   rw[moveDown'_eq]
   refine Fp (HK (Fz ⟨rfl,G.setArr (bubble_perm _ _ _),?_,λ j hj=>?_⟩))
   ·rw[show min (k+1) n=k+1 by lia]
    intro i j h0 Y hj
    show R rk (bubble Z0A (lo+k) (lo+k-(lo+l))) i<R rk (bubble Z0A (lo+k) (lo+k-(lo+l))) j
    have Z:∀ i,lo<=i->i<lo+l->R rk Z0A i<R rk Z0A (lo+k):=λ i a b=>by
     have:=M (i-lo) Z2
     rwa [show lo+(i-lo)=i by lia] at this
    have W:∀ i,lo+l<=i->i<lo+k->R rk Z0A (lo+k)<R rk Z0A i:=λ i a b=>by
     have:=L (i-lo) Z2 Z2
     rwa [show lo+(i-lo)=i by lia] at this
    rw[oR O Z2,oR O Z2,show lo+k-(lo+k-(lo+l))=lo+l by lia]
    repeat' split
    all_goals first
     | (exfalso;lia)
     | exact Z _ Z2 Z2
     | exact W _ Z2 Z2
     | exact ZDW
   ·have e:=getElem?_bubble O (lo+k-(lo+l)) Z2 j
    show (bubble Z0A (lo+k) (lo+k-(lo+l)))[j]? = _
    rw[e,ZBI,ZBI]
    exact ho j hj
end
section
variable {prog:Program}{w:World}{A:Around}{E:Value->Shared->Prop}{s:Shared}{rk:Keyed->Int}{κ:SortKind}{a₀:Array Keyed}{P:Array (Nat×Nat×Nat)}
theorem Seg.one {xs:ZX}{lo:Nat}:Seg rk xs lo (lo+1):=λ i j a b c=>Z2
theorem Seg.grow {xs:ZX}{lo n:Nat}(h:Seg rk xs lo (lo+n)) (h1:1<=n) (q:R rk xs (lo+n-1)<R rk xs (lo+n)):Seg rk xs lo (lo+(n+1)):=λ i j a b c=>by
 by_cases e:j=lo+n
 ·subst e
  by_cases z:i=lo+n-1
  ·rw[z];exact q
  ·exact Kd (h i (lo+n-1) a Z2 Z2) q
 ·exact h i j a b Z2
theorem wpS_countRun {st:SortSt}{lo z:Nat}{Q:Option Nat->SortSt->Prop}(C:Cmp prog w A s rk κ a₀.toList) (D:(a₀.toList.map rk).Nodup) (h1:1<=z) (hn:lo+z<=a₀.size) (M:SB a₀ κ P st)
  (h:∀ n q,SB a₀ κ P q->1<=n->n<=z->Seg rk Z0A lo (lo+n)->(∀ k,(k<lo\/lo+z<=k)->(arrOf q)[k]? = (ZP)[k]?)->Q (some n) q):wpS ZE A E s (countRun' lo z) Q st:=by
 have ne:∀ {q:SortSt},SB a₀ κ P q->∀ i j,i<j->j<a₀.size->¬ R rk Z0A j<R rk Z0A i->R rk Z0A i<R rk Z0A j:=λ G i j a b c=>by
  have:R rk ZGl i≠R rk ZGl j:=λ e=>by
   have:=i8 D G.perm (by rw[G.size];lia) (by rw[G.size];lia) e
   lia
  lia
 have a8:∀ {q:SortSt},SB a₀ κ P q->∀ i j,i<j->j<a₀.size->¬ R rk Z0A i<R rk Z0A j->R rk Z0A j<R rk Z0A i:=λ G i j a b c=>by
  have:R rk ZGl i≠R rk ZGl j:=λ e=>by
   have:=i8 D G.perm (by rw[G.size];lia) (by rw[G.size];lia) e
   lia
  lia
 rw[countRun'_eq]
 refine Fp (Hg (Gv (I:=λ x c q=>q=st/\c=(none,x)/\1<=x/\Seg rk ZP lo (lo+x))
  (Q:=λ c q=>q=st/\∃ n,c=(none,n)/\1<=n/\n<=z/\Seg rk ZP lo (lo+n)/\(n=z\/R rk ZP (lo+n)<R rk ZP (lo+n-1))) ?step ?fin ?init) ?post)
 case init=>exact⟨rfl,rfl,Z9,Seg.one⟩
 case fin=>
  rintro c q ⟨rfl,rfl,a,b⟩
  rw[show max 1 z=z by lia] at b ⊢
  exact⟨rfl,z,rfl,h1,Z9,b,Z1x⟩
 case step=>
  rintro x c q U a3 ⟨rfl,rfl,_,L⟩
  dsimp only
  refine Z5J
  by_cases J:R rk Z0A (lo+x)<R rk Z0A (lo+x-1)
  ·simp only[J,ID,HB]
   exact Fz ⟨rfl,x,rfl,U,Z2,L,.inr J⟩
  ·simp only[J,Jg,Fx,Gi]
   exact Fz ⟨rfl,rfl,Z2,L.grow U (ne M _ _ Z2 Z2 J)⟩
 case post=>
  rintro c q ⟨rfl,n,rfl,Y,Z,L,a7⟩
  dsimp only
  by_cases e:n=z
  ·rw[Fl (by simp[e])]
   exact ZAx
  rw[Fj (by simp[e])]
  have a4:=a7.resolve_left e
  by_cases g1:n>1
  ·rw[Fl g1]
   refine Z5J
   have:R rk Z0A lo<R rk Z0A (lo+n-1):=L _ _ Z9 Z2 Z2
   simp only[this,ID,HB]
   exact ZAx
  rw[Fj g1]
  have n1:n=1:=Z2
  subst n1
  refine Z0y
  have h2:2<=z:=Z2
  refine Fp (Hg (Gv (I:=λ x c F=>F=q/\c=(none,x,0)/\∀ i j,lo<=i->i<j->j<lo+x->R rk Z0A j<R rk Z0A i)
   (Q:=λ c F=>F=q/\∃ n,c=(none,n,0)/\2<=n/\n<=z/\∀ i j,lo<=i->i<j->j<lo+n->R rk Z0A j<R rk Z0A i) ?step2 ?fin2 ?init2) ?post2)
  case init2=>
   refine ZAk
   have e1:i=lo:=Z2
   have e2:j=lo+1:=Z2
   rw[e1,e2]
   simpa using a4
  case fin2=>
   rintro c F ⟨rfl,rfl,b⟩
   rw[show max (1+1) z=z by lia] at b ⊢
   exact⟨rfl,z,rfl,h2,Z9,b⟩
  case step2=>
   rintro x c F U a3 ⟨rfl,rfl,hf⟩
   dsimp only
   refine Z5J
   by_cases J:R rk Z7a (lo+x)<R rk Z7a (lo+x-1)
   ·simp only[J,ID,HB]
    rw[ZBI]
    refine Fz ZAk
    by_cases e:j=lo+x
    ·subst e
     by_cases e2:i=lo+x-1
     ·rw[e2];exact J
     ·exact Kd J (hf i (lo+x-1) a Z2 Z2)
    ·exact hf i j a b Z2
   ·simp only[J,Jg,Fx,Gi]
    refine Z5J
    have:=ne M _ _ (show lo+x-1<lo+x by lia) Z2 J
    simp only[this,ID,HB]
    exact Fz ⟨rfl,x,rfl,Z2,Z2,hf⟩
  case post2=>
   rintro c F ⟨rfl,n,rfl,Y,Z,hf⟩
   dsimp only
   rw[ZBI,reverseSlice'_eq]
   have hz:lo+n<=(Z7a).size:=by rw[M.size];lia
   have O:SB a₀ κ P (setArr F (mirror Z7a lo (lo+n) ((lo+n-lo)/2))):=M.setArr (mirror_perm _ _ _ _)
   have a2:Seg rk (mirror Z7a lo (lo+n) ((lo+n-lo)/2)) lo (lo+n):=λ i j a b c=>by
    rw[oS hz,oS hz,ZDZ,ZDZ]
    exact hf _ _ Z2 Z2 Z2
   have ho:∀ k,(k<lo\/lo+z<=k)->(mirror Z7a lo (lo+n) ((lo+n-lo)/2))[k]? = (Z7a)[k]?:=λ k hk=>by
    rw[getElem?_mirror_all hz,ZBI]
   refine Fp (HK ?_)
   have W:Seg rk (arrOf (setArr F (mirror Z7a lo (lo+n) ((lo+n-lo)/2)))) lo (lo+n):=a2
   have a1:∀ k,(k<lo\/lo+z<=k)->(arrOf (setArr F (mirror Z7a lo (lo+n) ((lo+n-lo)/2))))[k]? = (Z7a)[k]?:=ho
   clear a2 ho
   generalize setArr F (mirror (arrOf F) lo (lo+n) ((lo+n-lo)/2))=V at O W a1 ⊢
   refine Fp (Hg (Gv (I:=λ x c q=>q=V/\c=(none,x)/\Seg rk ZW0 lo (lo+x))
    (Q:=λ c q=>q=V/\∃ m,c=(none,m)/\1<=m/\m<=z/\Seg rk ZW0 lo (lo+m)) ?step3 ?fin3 ?init3) ?post3)
   case init3=>exact⟨rfl,rfl,W⟩
   case fin3=>
    rintro c q ⟨rfl,rfl,b⟩
    rw[show max n z=z by lia] at b ⊢
    exact⟨rfl,z,rfl,h1,Z9,b⟩
   case step3=>
    rintro x c q U a3 ⟨rfl,rfl,L⟩
    dsimp only
    refine Fp (gS C O Z2 Z2 ?_)
    by_cases J:R rk Z0A (lo+x)<R rk Z0A (lo+x-1)
    ·simp only[J,ID,HB]
     exact Fz ⟨rfl,x,rfl,Z2,Z2,L⟩
    ·simp only[J,Jg,Fx,Gi]
     exact Fz ⟨rfl,rfl,L.grow Z2 (ne O _ _ Z2 Z2 J)⟩
   case post3=>
    rintro c q ⟨rfl,m,rfl,a5,a6,L⟩
    exact Fz (h m q O a5 a6 L a1)
noncomputable def et:Bool->Keyed->Array Keyed->Nat->Nat->Nat->StateT SortSt Sem (Z5V):=sortPriv% PySem.Builtin.gallop
def x6 (b:Nat->Bool) (n k:Nat):Prop:=k<=n/\(∀ i,i<k->b i=true)/\∀ i,k<=i->i<n->b i=false
theorem kx {st:SortSt}{left:Bool}{key:Keyed}{arr:ZX}{base n hint k:Nat}{b:Nat->Bool}{Q:Option Nat->SortSt->Prop}
  (hb:∀ i,i<n->∀ (Q:Option Bool->SortSt->Prop),Q (some (b i)) st->wpS ZE A E s (do
   let x <- elem' arr (base+i)
   if left then lt' x key else return (<- lt' key x).map (!·)) Q st)
  (hh:hint<n) (hf:x6 b n k) (h:Q ZOp st):wpS ZE A E s (et left key arr base n hint) Q st:=by
 obtain⟨kn,kt,kf⟩:=hf
 have gt:∀ i,i<n->b i=true->i<k:=λ i a c=>JD λ z=>by rw[kf i z a] at c;cases c
 have ge:∀ i,b i=false->k<=i:=λ i c=>Nat.le_of_not_lt λ z=>by rw[kt i z] at c;cases c
 change wpS ZE A E s (bind _ _) Q st
 refine Fp ?_
 refine hb hint hh _ ?_
 dsimp only
 cases hr:b hint with
 | true=>
  rw[Z1U]
  refine Fp (Hg (Gv (I:=λ x c st'=>st'=st/\∃ la of,c=(none,la,of)/\x+1<=of/\hint+la<k)
   (Q:=λ c st'=>st'=st/\∃ la of,c=(none,la,of)/\hint+la<k/\(n-hint<=of\/k<=hint+of)) ?step ?fin ?init) ?post)
  case init=>exact⟨rfl,0,1,rfl,Z2,gt _ hh hr⟩
  case fin=>
   rintro c st' ⟨rfl,la,of,rfl,a,c⟩
   exact⟨rfl,la,of,rfl,c,ZI1⟩
  case step=>
   rintro x c st' _ hxn ⟨rfl,la,of,rfl,a,c⟩
   dsimp only
   by_cases g:of >= n-hint
   ·rw[Fl g]
    exact Fz ⟨rfl,la,of,rfl,c,.inl g⟩
   ·rw[Fj g]
    refine Fp (hb (hint+of) Z2 _ ?_)
    dsimp only
    cases hm:b (hint+of) with
    | true=>
     simp only[Ho,Fx,Gi]
     exact Fz ⟨rfl,of,2*of+1,rfl,Z2,ZE6⟩
    | false=>
     simp only[IQ,HB]
     exact Fz ⟨rfl,la,of,rfl,c,.inr ZL0⟩
  case post=>
   rintro c st' ⟨rfl,la,of,rfl,c,d⟩
   dsimp only
   refine Fp (Hg (Gv (I:=λ x c st''=>st''=st'/\∃ lo hi,c=(none,lo,hi)/\lo<=k/\k<=hi/\hi<=n/\hi-lo<=n-x) (Q:=λ c st''=>st''=st'/\∃ lo,c=(none,lo,k)) ?step2 ?fin2 ?init2) ?post2)
   case init2=>exact Z10
   case fin2=>
    rintro c st'' ⟨rfl,lo,hi,rfl,e1,e2,e3,e4⟩
    have:hi=k:=Z2
    subst this
    exact Z71
   case step2=>
    rintro x c st'' _ hxn ⟨rfl,lo,hi,rfl,e1,e2,e3,e4⟩
    dsimp only
    by_cases g:lo >= hi
    ·rw[Fl g]
     have:hi=k:=Z2
     subst this
     exact Fz Z71
    ·rw[Fj g]
     refine Fp (hb (lo+(hi-lo)/2) Z2 _ ?_)
     dsimp only
     cases hm:b (lo+(hi-lo)/2) with
     | true=>
      rw[Z1U]
      have:=ZE6
      exact ZQQ
     | false=>
      rw[ZBH]
      have:=ZL0
      exact ZQQ
   case post2=>
    rintro c st'' ⟨rfl,lo,rfl⟩
    exact Fz h
 | false=>
  rw[ZBH]
  refine Fp (Hg (Gv (I:=λ x c st'=>st'=st/\∃ la of,c=(none,la,of)/\x+1<=of/\k<=hint-la/\la<=hint)
   (Q:=λ c st'=>st'=st/\∃ la of,c=(none,la,of)/\k<=hint-la/\la<=hint/\(hint+1<=of\/(of<=hint/\hint-of<k))) ?step ?fin ?init) ?post)
  case init=>exact⟨rfl,0,1,rfl,Z2,by have:=ge _ hr;lia,Z2⟩
  case fin=>
   rintro c st' ⟨rfl,la,of,rfl,a,c,d⟩
   exact⟨rfl,la,of,rfl,c,d,ZI1⟩
  case step=>
   rintro x c st' _ hxn ⟨rfl,la,of,rfl,a,c,d⟩
   dsimp only
   by_cases g:of >= hint+1
   ·rw[Fl g]
    exact Fz ⟨rfl,la,of,rfl,c,d,.inl g⟩
   ·rw[Fj g]
    refine Fp (hb (hint-of) Z2 _ ?_)
    dsimp only
    cases hm:b (hint-of) with
    | true=>
     rw[Z1U]
     exact Fz ⟨rfl,la,of,rfl,c,d,.inr ⟨Z2,ZE6⟩⟩
    | false=>
     rw[ZBH]
     exact Fz ⟨rfl,of,2*of+1,rfl,Z2,ZL0,Z2⟩
  case post=>
   rintro c st' ⟨rfl,la,of,rfl,c,d,e⟩
   dsimp only
   refine Fp (Hg (Gv (I:=λ x c st''=>st''=st'/\∃ lo hi,c=(none,lo,hi)/\lo<=k/\k<=hi/\hi<=n/\hi-lo<=n-x) (Q:=λ c st''=>st''=st'/\∃ lo,c=(none,lo,k)) ?step2 ?fin2 ?init2) ?post2)
   case init2=>exact Z10
   case fin2=>
    rintro c st'' ⟨rfl,lo,hi,rfl,e1,e2,e3,e4⟩
    have:hi=k:=Z2
    subst this
    exact Z71
   case step2=>
    rintro x c st'' _ hxn ⟨rfl,lo,hi,rfl,e1,e2,e3,e4⟩
    dsimp only
    by_cases g:lo >= hi
    ·rw[Fl g]
     have:hi=k:=Z2
     subst this
     exact Fz Z71
    ·rw[Fj g]
     refine Fp (hb (lo+(hi-lo)/2) Z2 _ ?_)
     dsimp only
     cases hm:b (lo+(hi-lo)/2) with
     | true=>
      rw[Z1U]
      have:=ZE6
      exact ZQQ
     | false=>
      rw[ZBH]
      have:=ZL0
      exact ZQQ
   case post2=>
    rintro c st'' ⟨rfl,lo,rfl⟩
    exact Fz h
end
section
variable {rk:Keyed->Int}
abbrev Asc (rk:Keyed->Int) (l:ZAT):Prop:=l.Pairwise λ x y=>rk x<rk y
structure ML (rk:Keyed->Int) (X Y O:List Keyed) (i j:Nat):Prop where
 perm:O.Perm (X.take i++Y.take j)
 srt:Asc rk O
 la:∀ x∈O,∀ y∈X.drop i,rk x<rk y
 lb:∀ x∈O,∀ y∈Y.drop j,rk x<rk y
theorem j7 {X:ZAT}(i k:Nat):X.drop i=(ZNr).take k++X.drop (i+k):=by
 rw[<- List.drop_drop];exact(G8 k _).symm
theorem ML.a {X Y O:ZAT}{i j k:Nat}(m:Z5e) (sX:ZOT) (h:∀ y∈(X.drop i).take k,∀ z∈Y.drop j,rk y<rk z):ML rk X Y (O++(ZNr).take k) (i+k) j:=by
 have sd:Asc rk (ZNr):=sX.sublist ZFI
 rw[j7 i k] at sd
 obtain⟨s1,s2,s3⟩:=FU.mp sd
 refine⟨?_,FU.mpr ⟨m.srt,s1,λ x hx y hy=>m.la x hx y (List.mem_of_mem_take hy)⟩,λ x hx y hy=>?_,λ x hx y hy=>?_⟩
 ·refine ZN6
  rw[List.take_add,Gd,Gd]
  exact IU _ HC
 ·rcases Fm.mp hx with hx|hx
  ·refine m.la x hx y ?_
   rw[j7 i k];exact FP _ hy
  ·exact s3 x hx y hy
 ·rcases Fm.mp hx with hx|hx
  ·exact m.lb x hx y hy
  ·exact h x hx y hy
theorem ML.swap (m:Z5e):ML rk Y X O j i:=⟨m.perm.trans HC,m.srt,m.lb,m.la⟩
theorem ML.b (m:Z5e) (q:ZXC) (h:∀ y∈(Y.drop j).take k,∀ z∈X.drop i,rk y<rk z):ML rk X Y (O++(Y.drop j).take k) i (j+k):=(m.swap.a q h).swap
theorem ML.EI (m:Z5e) (z:ZOT) (q:Y.length<=j):(O++X.drop i).Perm (X++Y)/\Asc rk (O++X.drop i):=by
 refine⟨?_,FU.mpr ⟨m.srt,z.sublist ZFI,m.la⟩⟩
 refine ZN6
 rw[Hn q,Gd]
 refine(IU _ HC).trans ?_
 rw[<- Gd,G8]
theorem ML.BC (m:Z5e) (F:ZOT) (G:ZXC) (h:∀ y∈Y.drop j,∀ x∈X.drop i,rk y<rk x):(O++Y.drop j++X.drop i).Perm (X++Y)/\Asc rk (O++Y.drop j++X.drop i):=by
 refine⟨?_,FU.mpr ⟨FU.mpr ⟨m.srt,G.sublist ZFI,m.lb⟩,F.sublist ZFI,λ x q y z=>?_⟩⟩
 ·refine((Z7X).append_right _).trans ?_
  rw[Gd (X.take i),G8]
  refine(List.perm_append_comm.append_right _).trans ?_
  rw[Gd,G8]
  exact HC
 ·rcases Fm.mp q with q|q
  ·exact m.la x q y z
  ·exact h x q y z
theorem mY (h:ZHl):ZKM:=by
 unfold Asc
 rw[HE]
 intro i j hi z q
 have:=h i j Z5N q (by simpa using z)
 rw[cz (by simpa using hi),cz (by simpa using z)] at this
 simpa using this
theorem gX (h:ZKM):ZHl:=λ i j a b c=>by
 unfold Asc at h
 rw[HE] at h
 have:=h i j (by simp;lia) (by simpa using c) b
 rw[ZG0,cz c]
 simpa using this
theorem dB {xs:ZX}{i:Nat}{y:Keyed}(h:y∈xs.toList.drop i):∃ k,i<=k/\∃ q:k<xs.size,y=xs[k]:=by
 obtain⟨n,j,e⟩:=ZRr
 rw[JG] at j
 refine⟨i+n,Z2,by simp at j;lia,?_⟩
 rw[<- e,List.getElem_drop];simp
theorem js {xs:ZX}{i k:Nat}{y:Keyed}(h:y∈(xs.toList.drop i).take k):∃ n,n<k/\∃ q:i+n<xs.size,y=xs[i+n]:=by
 obtain⟨n,j,e⟩:=ZRr
 rw[F0,JG] at j
 refine⟨n,Z2,by simp at j;lia,?_⟩
 rw[<- e,List.getElem_take,List.getElem_drop];simp
theorem j5:∀ (n:Nat),(∀ i j,i<=j->j<n->b j=true->b i=true)->∃ k,x6 b n k
 | 0,_=>⟨0,Z9,λ i h=>Z2,λ i _ h=>Z2⟩
 | n+1,m=>by
  cases h:b n with
  | true=>exact⟨n+1,Z9,λ i hi=>m i n Z2 Z2 h,λ i a c=>Z2⟩
  | false=>
   obtain⟨k,h1,h2,q⟩:=j5 n λ i j a c=>m i j a Z2
   refine⟨k,Z2,h2,λ i a c=>?_⟩
   by_cases e:i=n
   ·rw[e];exact h
   ·exact q i a Z2
end
section
variable {prog:Program}{w:World}{A:Around}{E:Value->Shared->Prop}{s:Shared}{rk:Keyed->Int}{κ:SortKind}{a₀:Array Keyed}
theorem gH {st:SortSt}{key:Keyed}{arr:ZX}{base n hint:Nat}{Q:Option Nat->SortSt->Prop}(C:Cmp prog w A s rk κ a₀.toList) (M:kindOf st=κ) (U:key∈a₀.toList) (O:∀ i (h:base+i<arr.size),i<n->arr[base+i]∈a₀.toList)
  (hz:base+n<=arr.size) (hs:Seg rk arr base (base+n)) (J:hint<n)
  (h:∀ k,k<=n->(∀ i,i<k->R rk arr (base+i)<=rk key)->(∀ i,k<=i->i<n->rk key<R rk arr (base+i))->Q ZOp st):wpS ZE A E s (et false key arr base n hint) Q st:=by
 obtain⟨k,F⟩:=j5 (b:=λ i=>!decide (rk key<R rk arr (base+i))) n λ i j L W e=>by
  simp only[Hi,Gs] at e ⊢
  by_cases q:i=j
  ·rw[q];exact e
  ·have:=hs (base+i) (base+j) Z2 Z2 Z2
   lia
 refine kx (b:=λ i=>!decide (rk key<R rk arr (base+i))) (k:=k) ZJo J F Z8l
 ·have z:base+i<arr.size:=Z2
  refine ZGN
  simp only[Fx,Gi]
  refine Fp (kO C M U ZUC (Fz ?_))
  rw[cz z] at G
  exact G
 ·have:=ZTl
  simp only[Hi,Gs] at this
  lia
 ·have:=ZS5
  simpa using this
theorem gj {st:SortSt}{key:Keyed}{arr:ZX}{base n hint:Nat}{Q:Option Nat->SortSt->Prop}(C:Cmp prog w A s rk κ a₀.toList) (M:kindOf st=κ) (U:key∈a₀.toList) (O:∀ i (h:base+i<arr.size),i<n->arr[base+i]∈a₀.toList)
  (hz:base+n<=arr.size) (hs:Seg rk arr base (base+n)) (J:hint<n)
  (h:∀ k,k<=n->(∀ i,i<k->R rk arr (base+i)<rk key)->(∀ i,k<=i->i<n->rk key<=R rk arr (base+i))->Q ZOp st):wpS ZE A E s (et true key arr base n hint) Q st:=by
 obtain⟨k,F⟩:=j5 (b:=λ i=>decide (R rk arr (base+i)<rk key)) n λ i j L W e=>by
  simp only[F3] at e ⊢
  by_cases q:i=j
  ·rw[q];exact e
  ·have:=hs (base+i) (base+j) Z2 Z2 Z2
   lia
 refine kx (b:=λ i=>decide (R rk arr (base+i)<rk key)) (k:=k) ZJo J F Z8l
 ·have z:base+i<arr.size:=Z2
  refine ZGN
  simp only[HB]
  refine kO C M ZUC U ?_
  rw[cz z] at G
  exact G
 ·have:=ZTl
  simpa using this
 ·have:=ZS5
  simp only[Gs] at this
  lia
theorem lD {a:ZX}{i k:Nat}:(a.extract i (i+k)).toList=(ZLA).take k:=by
 rw[GX]
 simp
theorem i3 {a:ZX}{i:Nat}:(a.extract i).toList=a.toList.drop i:=by
 rw[GX]
 simp
 exact Hn ZA
theorem g6 {a:ZX}{i:Nat}(h:i<a.size):(ZLA).take 1=[a[i]]:=by
 rw[Io (by simpa using h)]
 simp
theorem Asc.ge (s:ZCT) (h:i<=k) (j:k<a.size):R rk a i<=R rk a k:=by
 by_cases e:i=k
 ·rw[e];exact ZGL
 ·exact Ke (gX s i k Z5N Z2 j)
theorem bT {σ j:Type}{M:Model}{c:Prop} [ZS8] {x y:StateT σ Sem j}{Q:j->σ->Prop}{st:σ}(h1:c->wpS M A E s x Q st) (h2:¬ c->wpS M A E s y Q st):wpS M A E s (if c then x else y) Q st:=by
 by_cases h:c
 ·rw[ZOL];exact h1 h
 ·rw[ZMk];exact h2 h
noncomputable def kC:Array Keyed->Array Keyed->StateT SortSt Sem (ZX):=sortPriv% PySem.Builtin.mergeLo
noncomputable def kD:Array Keyed->Array Keyed->StateT SortSt Sem (ZX):=sortPriv% PySem.Builtin.mergeHi
def ft (st st':SortSt):Prop:=arrOf st'=arrOf st/\kindOf st'=kindOf st/\failedOf st'=failedOf st/\pendingOf st'=pendingOf st
theorem ft.refl {st:SortSt}:ft st st:=Z0O
theorem ft.trans (h:ft a b) (k:ft b c):ft a c:=⟨k.1.trans h.1,k.2.1.trans h.2.1,k.2.2.1.trans h.2.2.1,k.2.2.2.trans h.2.2.2⟩
noncomputable def setG:Nat->StateT SortSt Sem Unit:=sortPriv% PySem.Builtin.setMinGallop
noncomputable abbrev Go:=Option (ZX)×Array Keyed×Nat×Nat×Nat×Nat×Nat
section
variable (a b:Array Keyed)
noncomputable def loC (mg ac bc i:Nat) (o:ZX) (j:Nat):Z2C:=
 elem' a i >>= λ x=>if i+1+1 == a.size then pure (.done (some (o.push x++b.extract j++a.extract (i+1)),Z3A,i+1,j,mg,ac,bc))
  else if decide (ac<7) && decide (bc<7) then pure (.done (none,Z3A,i+1,j,mg,ac,bc)) else pure (.yield (none,Z3A,i+1,j,mg,ac,bc))
noncomputable def loB (mg ac bc j:Nat) (o:ZX) (i:Nat):Z2C:=
 elem' b j >>= λ x=>if j+1 == b.size then pure (.done (some (o.push x++a.extract i++b.extract (j+1)),Z3A,i,j+1,mg,ac,bc))
  else elem' a i >>= λ y=>et true y b (j+1) (b.size-(j+1)) 0 >>= fun
  | some k=>if k>0 then if j+1+k == b.size then pure (.done (some (o.push x++b.extract (j+1) (j+1+k)++a.extract i++b.extract (j+1+k)),o.push x++b.extract (j+1) (j+1+k),i,j+1+k,mg,ac,k))
    else loC a b mg ac k i (o.push x++b.extract (j+1) (j+1+k)) (j+1+k) else loC a b mg ac k i Z3A (j+1)
  | _=>pure (.done (some (o.push x++a.extract i++b.extract (j+1)),Z3A,i,j+1,mg,ac,bc))
noncomputable def loA (ac bc i j:Nat) (o:ZX) (mg:Nat):Z2C:=
 setG mg >>= λ _=>elem' b j >>= λ x=>et false x a i (a.size-i) 0 >>= fun
 | some k=>if k>0 then if i+k+1 == a.size then pure (.done (some (o++a.extract i (i+k)++b.extract j++a.extract (i+k)),o++a.extract i (i+k),i+k,j,mg,k,bc))
   else if i+k == a.size then pure (.done (some (o++a.extract i (i+k)++a.extract (i+k)++b.extract j),o++a.extract i (i+k),i+k,j,mg,k,bc)) else loB a b mg k bc j (o++a.extract i (i+k)) (i+k) else loB a b mg k bc j o i
 | _=>pure (.done (some (o++a.extract i++b.extract j),o,i,j,mg,ac,bc))
end
noncomputable abbrev G1:=Option (ZX)×Array Keyed×Nat×Nat×Nat×Nat
noncomputable abbrev G0:=Option (ZX)×Array Keyed×Nat×Nat×Nat
section
variable (a b:Array Keyed)
noncomputable def loG (c:Go):Z2C:=if c.2.2.2.2.1>1 then loA a b c.2.2.2.2.2.1 c.2.2.2.2.2.2 c.2.2.1 c.2.2.2.1 c.2.1 (c.2.2.2.2.1-1) else loA a b c.2.2.2.2.2.1 c.2.2.2.2.2.2 c.2.2.1 c.2.2.2.1 c.2.1 c.2.2.2.2.1
noncomputable def lo1 (mg:Nat) (c:G1):StateT SortSt Sem (ForInStep G1):=
 elem' b c.2.2.2.1 >>= λ x=>elem' a c.2.2.1 >>= λ y=>lt' x y >>= fun
 | some w=>if w=true then elem' b c.2.2.2.1 >>= λ x=>if c.2.2.2.1+1 == b.size then pure (.done (some (c.2.1.push x++a.extract c.2.2.1++b.extract (c.2.2.2.1+1)),Z61,c.2.2.1,c.2.2.2.1+1,0,c.2.2.2.2.2+1))
   else if c.2.2.2.2.2+1 >= mg then pure (.done (none,Z61,c.2.2.1,c.2.2.2.1+1,0,c.2.2.2.2.2+1)) else pure (.yield (none,Z61,c.2.2.1,c.2.2.2.1+1,0,c.2.2.2.2.2+1))
  else elem' a c.2.2.1 >>= λ x=>if c.2.2.1+1+1 == a.size then pure (.done (some (c.2.1.push x++b.extract c.2.2.2.1++a.extract (c.2.2.1+1)),Z61,c.2.2.1+1,c.2.2.2.1,c.2.2.2.2.1+1,0))
   else if c.2.2.2.2.1+1 >= mg then pure (.done (none,Z61,c.2.2.1+1,c.2.2.2.1,c.2.2.2.2.1+1,0)) else pure (.yield (none,Z61,c.2.2.1+1,c.2.2.2.1,c.2.2.2.2.1+1,0))
 | _=>pure (.done (some (c.2.1++a.extract c.2.2.1++b.extract c.2.2.2.1),c.2.1,c.2.2.1,c.2.2.2.1,c.2.2.2.2.1,c.2.2.2.2.2))
noncomputable def loE (s:Go):Z4_:=match s.1 with
 | some r=>pure (.done (ZAm,s.2.1,s.2.2.1,s.2.2.2.1,s.2.2.2.2.1))
 | none=>setG (s.2.2.2.2.1+1) >>= λ _=>pure (.yield (none,s.2.1,s.2.2.1,s.2.2.2.1,s.2.2.2.2.1+1))
noncomputable def loR (mg:Nat) (s:G1):Z4_:=match s.1 with
 | some r=>pure (.done (ZAm,s.2.1,s.2.2.1,s.2.2.2.1,mg))
 | none=>liftM ZDk >>= λ _=>forIn [:a.size+b.size] (none,s.2.1,s.2.2.1,s.2.2.2.1,mg+1,s.2.2.2.2.1,s.2.2.2.2.2) (λ _=>loG a b) >>= loE
noncomputable def loF (c:G0):Z4_:=forIn [:a.size+b.size] (none,c.2.1,c.2.2.1,c.2.2.2.1,0,0) (λ _=>lo1 a b c.2.2.2.2) >>= loR a b c.2.2.2.2
theorem qp:kC a b=(liftM (rule "list.sort.merge-lo") >>= λ _=>elem' b 0 >>= λ x=>if 1 == b.size then pure (#[x]++a.extract 0++b.extract 1) else if 0+1 == a.size then pure (#[x]++b.extract 1++a.extract 0) else
 get >>= λ s=>forIn [:a.size+b.size] (none,#[x],0,1,(sortPriv% PySem.Builtin.SortState.minGallop:SortSt->Nat) s) (λ _=>loF a b) >>= λ s=>match s.1 with|some r=>pure r|none=>liftM (unsupported "internal:list.sort.merge-bound")):=by
 show bind _ _=_
 refine Z1q
 refine Z8z
 refine Z2a
 refine Z2a
 refine Z90
 refine congr Z65 ?_
 ·refine Z2H
  funext i c
  unfold loF
  refine congr Z65 ?_
  ·refine Z2H
   funext i c
   unfold lo1
   rfl
  ·funext ⟨o,s⟩
   cases o with
   | some r=>rfl
   | none=>
    refine Z1q
    refine Z8y
    obtain⟨o,s⟩:=z
    cases o<;>rfl
 ·funext ⟨o,s⟩
  cases o<;>rfl
end
theorem eQ {m n:Nat}(h:¬ (m == n)=true):m≠n:=by simpa using h
def GI (rk:Keyed->Int) (a b:ZX) (st:SortSt) (z y:Nat) (c:Go) (st':SortSt):Prop:=ft st st'/\∃ out i j mg ac bc,c=(none,out,i,j,mg,ac,bc)/\ML rk a.toList b.toList out.toList i j/\i+1<a.size/\j<b.size/\z+y<=i+j
def GQ (rk:Keyed->Int) (a b:ZX) (st:SortSt) (z:Nat) (c:Go) (st':SortSt):Prop:=ft st st'/\((∃ r rest,c=(ZAm,rest)/\r.toList.Perm (a.toList++b.toList)/\Asc rk r.toList)\/∃ out i j mg ac bc,c=(none,out,i,j,mg,ac,bc)/\ML rk a.toList b.toList out.toList i j/\i+1<a.size/\j<b.size/\z<=i+j)
set_option maxHeartbeats 4000000 in
theorem oI {st:SortSt}{a b:ZX}{Q:Array Keyed->SortSt->Prop}(C:Cmp prog w A s rk κ a₀.toList) (hk:kindOf st=κ) (ma:∀ x∈a.toList,x∈a₀.toList) (mb:∀ x∈b.toList,x∈a₀.toList)
  (D:∀ i j,i<a.size->j<b.size->R rk a i≠R rk b j) (sa:ZCT) (sb:ZLd) (h1:1<=a.size) (h2:1<=b.size) (h0:∀ i,i<a.size->R rk b 0<R rk a i) (hl:∀ j,j<b.size->R rk b j<R rk a (a.size-1))
  (h:∀ (out:Array Keyed) G,ft st G->out.toList.Perm (a.toList++b.toList)->Asc rk out.toList->Q out G):wpS ZE A E s (kC a b) Q st:=by
 have mA:∀ i (h:i<a.size),a[i]∈a₀.toList:=λ i h=>ma _ ZA
 have mB:∀ i (h:i<b.size),b[i]∈a₀.toList:=λ i h=>mb _ ZA
 have a4:∀ {out:Array Keyed} {ia ib:Nat} (h:ia<a.size),ML rk a.toList b.toList out.toList ia ib->(∀ j,ib<=j->j<b.size->R rk a ia<R rk b j)->ML rk a.toList b.toList (out.push a[ia]).toList (ia+1) ib:=λ{out ia ib} h m q=>by
  have:=m.a (k:=1) sa λ y Y z hz=>by
   rw[g6 h,Fd] at Y
   obtain⟨k,k1,k2,rfl⟩:=ZUz
   have:=ZUV
   rw[cz h,ZV0] at this
   rw[Y];exact this
  rw[g6 h] at this
  rw[HJ];exact this
 have a2:∀ {out:Array Keyed} {ia ib:Nat} (h:ib<b.size),ML rk a.toList b.toList out.toList ia ib->(∀ j,ia<=j->j<a.size->R rk b ib<R rk a j)->ML rk a.toList b.toList (out.push b[ib]).toList ia (ib+1):=λ{out ia ib} h m q=>by
  have:=m.b (k:=1) sb λ y Y z hz=>by
   rw[g6 h,Fd] at Y
   obtain⟨k,k1,k2,rfl⟩:=ZUz
   have:=ZUV
   rw[cz h,ZV0] at this
   rw[Y];exact this
  rw[g6 h] at this
  rw[HJ];exact this
 have a5:∀ {out:Array Keyed} {ia ib k:Nat},ML rk a.toList b.toList out.toList ia ib->(∀ i,i<k->ia+i<a.size->∀ j,ib<=j->j<b.size->R rk a (ia+i)<R rk b j)->ML rk a.toList b.toList (out++a.extract ia (ia+k)).toList (ia+k) ib:=λ{out ia ib k} m q=>by
  rw[Gu,lD]
  refine m.a sa λ y Y z hz=>?_
  obtain⟨n,n1,n2,rfl⟩:=js Y
  obtain⟨j,j1,Z,rfl⟩:=ZUz
  have:=ZK8
  rw[cz n2,cz Z] at this
  exact this
 have a6:∀ {out:Array Keyed} {ia ib k:Nat},ML rk a.toList b.toList out.toList ia ib->(∀ i,i<k->ib+i<b.size->∀ j,ia<=j->j<a.size->R rk b (ib+i)<R rk a j)->ML rk a.toList b.toList (out++b.extract ib (ib+k)).toList ia (ib+k):=λ{out ia ib k} m q=>by
  rw[Gu,lD]
  refine m.b sb λ y Y z hz=>?_
  obtain⟨n,n1,n2,rfl⟩:=js Y
  obtain⟨j,j1,Z,rfl⟩:=ZUz
  have:=ZK8
  rw[cz n2,cz Z] at this
  exact this
 have V:∀ {out:Array Keyed} {ia ib:Nat},ML rk a.toList b.toList out.toList ia ib->b.size<=ib->(out++a.extract ia++b.extract ib).toList.Perm (a.toList++b.toList)/\Asc rk (out++a.extract ia++b.extract ib).toList:=λ{out ia ib} m q=>by
  rw[Gu,Gu,i3,i3,List.drop_of_length_le (l:=b.toList) (by simpa using q),Gf]
  exact m.EI sa (by simpa using q)
 have W:∀ {out:Array Keyed} {ia ib:Nat},ML rk a.toList b.toList out.toList ia ib->ia+1=a.size->(out++b.extract ib++a.extract ia).toList.Perm (a.toList++b.toList)/\Asc rk (out++b.extract ib++a.extract ia).toList:=λ{out ia ib} m q=>by
  rw[Gu,Gu,i3,i3]
  refine m.BC sa sb λ y Y x hx=>?_
  obtain⟨j,j1,Z,rfl⟩:=dB Y
  obtain⟨i,i1,i2,rfl⟩:=dB hx
  have e:i=a.size-1:=Z2
  have:=hl j Z
  rw[cz Z,ZG0] at this
  subst e
  exact this
 rw[qp]
 refine Z0y
 refine Fp (bS (show 0<b.size by lia) ?_)
 have m0:ML rk a.toList b.toList (#[b[0]]:ZX).toList 0 1:=by
  have:=a2 (out:=#[]) (ia:=0) (ib:=0) (show 0<b.size by lia) ⟨.nil,.nil,(λ x hx=>by cases hx),(λ x hx=>by cases hx)⟩ λ j _ hj=>h0 j hj
  exact this
 by_cases c1:1=b.size
 ·rw[Fl (by simpa using c1)]
  obtain⟨p,q⟩:=V m0 (Il c1.symm)
  exact Z5I
 rw[Fj (by simpa using c1)]
 by_cases c2:0+1=a.size
 ·rw[Fl (by simpa using c2)]
  obtain⟨p,q⟩:=W m0 c2
  exact Z5I
 rw[Fj (by simpa using c2)]
 refine Z2K
 refine Fp (Hg (Gv (I:=λ x c G=>ft st G/\∃ out ia ib mg,c=(none,out,ia,ib,mg)/\ML rk a.toList b.toList out.toList ia ib/\ia+1<a.size/\ib<b.size/\x<=ia+ib)
  (Q:=λ c G=>ft st G/\∃ r rest,c=(ZAm,rest)/\r.toList.Perm (a.toList++b.toList)/\Asc rk r.toList) ?step ?fin ?init) ?post)
 case init=>exact⟨.refl,_,0,1,_,rfl,m0,Z2,Z2,Z2⟩
 case fin=>
  rintro c G ⟨U,out,ia,ib,mg,rfl,m,e1,e2,e3⟩
  lia
 case post=>
  rintro c G ⟨U,r,rest,rfl,p,q⟩
  exact Fz (h r G U p q)
 case step=>
  rintro x c G _ hx ⟨U,out,ia,ib,mg,rfl,m,e1,e2,e3⟩
  refine Fp (Hg (Gv (I:=λ y c L=>L=G/\∃ out F J ac M,c=(none,out,F,J,ac,M)/\ML rk a.toList b.toList out.toList F J/\F+1<a.size/\J<b.size/\ia+ib+y<=F+J)
   (Q:=λ c L=>L=G/\((∃ r rest,c=(ZAm,rest)/\r.toList.Perm (a.toList++b.toList)/\Asc rk r.toList)\/∃ out F J ac M,c=(none,out,F,J,ac,M)/\ML rk a.toList b.toList out.toList F J/\F+1<a.size/\J<b.size/\ia+ib<F+J)) ?istep ?ifin ?iinit) ?ipost)
  case iinit=>exact⟨rfl,_,_,_,_,_,rfl,m,e1,e2,Z2⟩
  case ifin=>
   rintro c L ⟨rfl,out,F,J,ac,M,rfl,m,f1,f2,f3⟩
   lia
  case istep=>
   rintro y c L _ Y ⟨rfl,out,F,J,ac,M,rfl,m,f1,f2,f3⟩
   refine Fp (bS f2 (Fp (bS (show F<a.size by lia) ?_)))
   refine Fp (kO C ZK_ (mB _ f2) (mA _ Z2) ?_)
   have ra:R rk a F=rk a[F]:=ZG0
   have rb:R rk b J=rk b[J]:=cz f2
   by_cases bw:rk b[J]<rk a[F]
   ·simp only[bw,ID,HB]
    refine Fp (bS f2 ?_)
    have m':=a2 f2 m λ j j1 Z=>by have:=sa.ge j1 Z;lia
    by_cases g:J+1=b.size
    ·rw[Fl (by simpa using g)]
     exact Fz ⟨rfl,.inl ⟨_,_,rfl,V m' (Il g.symm)⟩⟩
    ·rw[Fj (by simpa using g)]
     split
     ·exact Fz ⟨rfl,.inr ⟨_,_,_,_,_,rfl,m',f1,Z2,Z2⟩⟩
     ·exact Fz ⟨rfl,_,_,_,_,_,rfl,m',f1,Z2,Z2⟩
   ·simp only[bw,Jg,Fx,Gi]
    refine Fp (bS (show F<a.size by lia) ?_)
    have nd:=D F J Z2 f2
    have m':=a4 (show F<a.size by lia) m λ j j1 Z=>by have:=sb.ge j1 Z;lia
    by_cases g:F+1+1=a.size
    ·rw[Fl (by simpa using g)]
     exact Fz ⟨rfl,.inl ⟨_,_,rfl,W m' g⟩⟩
    ·rw[Fj (by simpa using g)]
     split
     ·exact Fz ⟨rfl,.inr ⟨_,_,_,_,_,rfl,m',Z2,f2,Z2⟩⟩
     ·exact Fz ⟨rfl,_,_,_,_,_,rfl,m',Z2,f2,Z2⟩
  case ipost=>
   rintro c L ⟨rfl,⟨r,rest,rfl,p,q⟩|⟨out,F,J,ac,M,rfl,m,f1,f2,f3⟩⟩
   ·exact Fz ⟨U,r,_,rfl,p,q⟩
   refine Z0y
   refine Fp (Hg (Gv (I:=GI rk a b st (F+J))
    (Q:=GQ rk a b st (F+J)) ?gstep ?gfin ?ginit) ?gpost)
   case ginit=>exact⟨U,_,_,_,_,_,_,rfl,m,f1,f2,Z2⟩
   case gfin=>
    rintro c a3 ⟨O,out,i,j,mg,ac,M,rfl,m,g1,g2,g3⟩
    lia
   case gpost=>
    rintro c a3 ⟨O,⟨r,rest,rfl,p,q⟩|⟨out,i,j,mg,ac,M,rfl,m,g1,g2,g3⟩⟩
    ·exact Fz ⟨O,r,_,rfl,p,q⟩
    ·refine Fp (HK (Fz ⟨ZCN,_,_,_,_,rfl,m,g1,g2,Z2⟩))
   case gstep=>
    rintro y c a3 _ Y ⟨O,out,i,j,mg,ac,M,rfl,m,g1,g2,g3⟩
    suffices H:∀ PP:ForInStep Go->SortSt->Prop,(∀ c G,GQ rk a b st (F+J) c G->PP ZW8 G)->(∀ c G,GI rk a b st (F+J) (y+1) c G->PP ZUG G)->wpS ZE A E s (if mg>1 then loA a b ac M i j out (mg-1) else loA a b ac M i j out mg) PP a3 from ZBG
    intro PP hd aa
    have G3:∀ {mg ac M i o j} {G:SortSt},ft st G->ML rk a.toList b.toList o.toList i j->i+1<a.size->j<b.size->F+J+y<=i+j->(∀ n,j<=n->n<b.size->R rk a i<R rk b n)->wpS ZE A E s (loC a b mg ac M i o j) PP G:=λ U m hi hj hz af=>by
     refine Fp (bS (Js hi) ?_)
     have M4:=a4 (Js hi) m af
     refine bT (λ e=>Fz (hd _ _ ⟨U,.inl ⟨_,_,rfl,W M4 (by simpa using e)⟩⟩)) λ e=>?_
     have e':=JZ hi (eQ e)
     exact bT (λ _=>Fz (hd _ _ ⟨U,.inr ⟨_,_,_,_,_,_,rfl,M4,e',hj,Z2⟩⟩)) λ _=>Fz (aa _ _ ⟨U,_,_,_,_,_,_,rfl,M4,e',hj,Z2⟩)
    have G2:∀ {mg ac M i o} {G:SortSt},ft st G->ML rk a.toList b.toList o.toList i j->i+1<a.size->F+J+y<=i+j->(∀ n,i<=n->n<a.size->R rk b j<R rk a n)->wpS ZE A E s (loB a b mg ac M j o i) PP G:=λ{mg ac M i o G} U m hi hz af=>by
     have A1:=Js hi
     have M2:=a2 g2 m af
     refine Fp (bS g2 (bT (λ c3=>Fz (hd _ _ ⟨U,.inl ⟨_,_,rfl,V M2 (Il (Eq.symm (by simpa using c3)))⟩⟩)) λ c3=>?_))
     have a9:=JZ g2 (eQ c3)
     refine Fp (bS A1 (Fp (gj C ZK_ (mA _ A1) (λ n hn _=>mB _ hn) Z2 Z9L Z2 λ k k1 k2 k3=>?_)))
     rw[<- cz (rk:=rk) A1] at k2 k3
     have a8:=a6 (k:=k) M2 λ n n1 n2 q q1 q2=>Int.lt_of_lt_of_le ZRM (sa.ge q1 q2)
     have a1:∀ n,j+1+k<=n->n<b.size->R rk a i<R rk b n:=λ n n1 n2=>by
      have h3:=k3 (n-(j+1)) Z2 Z2
      rw[show j+1+(n-(j+1))=n by lia] at h3
      exact Jb.mpr ⟨h3,D i n A1 n2⟩
     refine bT (λ d0=>bT (λ d1=>Fz (hd _ _ ⟨U,.inl ⟨_,_,rfl,V a8 (Il (Eq.symm (by simpa using d1)))⟩⟩)) λ d1=>?_) λ d0=>?_
     ·exact G3 U a8 hi (by have:=eQ d1;lia) Z2 a1
     ·exact G3 U M2 hi a9 Z2 λ n n1=>a1 n Z2
    have G1:∀ mg,wpS ZE A E s (loA a b ac M i j out mg) PP a3:=λ mg=>by
     refine Fp (HK (Fp (bS g2 (Fp (gH C (O.2.1.trans hk) (mB _ g2) (λ n hn _=>mA _ hn) Z2 Z9M Z2 λ k k1 k2 k3=>?_)))))
     rw[<- cz (rk:=rk) g2] at k2 k3
     have a1:∀ n,i+k<=n->n<a.size->R rk b j<R rk a n:=λ n n1 n2=>by
      have h3:=k3 (n-i) Z2 Z2
      rwa [show i+(n-i)=n by lia] at h3
     have a7:=a5 (k:=k) m λ n n1 n2 q q1 q2=>Int.lt_of_lt_of_le (Jb.mpr ⟨ZRM,D (i+n) j n2 g2⟩) (sb.ge q1 q2)
     have kl:i+k<a.size:=by
      refine ZRo
      have h3:=k2 (a.size-1-i) Z2
      rw[show i+(a.size-1-i)=a.size-1 by lia] at h3
      exact Int.not_le.mpr (hl j g2) h3
     refine bT (λ k0=>bT (λ c1=>Fz (hd _ _ ⟨ZCN,.inl ⟨_,_,rfl,W a7 (by simpa using c1)⟩⟩)) λ c1=>bT (λ c2=>absurd (by simpa using c2) (Fu kl)) λ c2=>?_) λ k0=>?_
     ·exact G2 ZCN a7 (by have:=eQ c1;lia) Z2 a1
     ·exact G2 ZCN m g1 Z2 λ n n1=>a1 n Z2
    exact ZD9
end
section
variable {rk:Keyed->Int}
noncomputable abbrev ng (rk:Keyed->Int):Keyed->Int:=λ x=>- rk x
theorem jS:Asc ZLo l↔Asc rk l.reverse:=by
 unfold Asc ng
 rw[List.pairwise_reverse]
 constructor
 ·exact λ h=>ZMT
 ·exact λ h=>ZMT
theorem km {a:ZX}{na:Nat}(h:na<=a.size):a.toList.reverse.drop (a.size-na)=(a.toList.take na).reverse:=by
 rw[List.drop_reverse]
 congr 2
 simp;lia
theorem dc {a:ZX}{na:Nat}(h:na<=a.size) {y:Keyed}(j:y∈a.toList.reverse.drop (a.size-na)):∃ k,k<na/\∃ z:k<a.size,y=a[k]:=by
 rw[km h,List.mem_reverse] at j
 obtain⟨n,q,e⟩:=GV.mp j
 rw[F0] at q
 refine⟨n,Z2,Z2,?_⟩
 rw[<- e,List.getElem_take];simp
theorem g9 {a:ZX}{na at_:Nat}(h:na<=a.size) (h2:at_<=na):(a.toList.reverse.drop (a.size-na)).take (na-at_)=(ZKH).toList.reverse:=by
 rw[km h,List.take_reverse,GX]
 congr 1
 rw[F0,Fs,Kl h,show na-(na-at_)=at_ by lia,Ij,List.drop_take]
theorem il {a:ZX}{na at_:Nat}(h:na<=a.size) (h2:at_<=na) {y:Keyed}(j:y∈(a.toList.reverse.drop (a.size-na)).take (na-at_)):∃ n,at_<=n/\n<na/\∃ z:n<a.size,y=a[n]:=by
 rw[g9 h h2,List.mem_reverse,GX,Ij] at j
 obtain⟨n,q,e⟩:=GV.mp j
 simp at q
 refine⟨at_+n,Z2,Z2,Z2,?_⟩
 rw[<- e];simp
theorem jT {a:ZX}{na:Nat}(h:na+1<=a.size):(a.toList.reverse.drop (a.size-(na+1))).take 1=[a[na]]:=by
 have:=g9 (a:=a) (na:=na+1) (at_:=na) h Z2
 rw[show na+1-na=1 by lia] at this
 rw[this,GX]
 simp
 rw[Io (by simp;lia)]
 simp
end
section
variable {prog:Program}{w:World}{A:Around}{E:Value->Shared->Prop}{s:Shared}{rk:Keyed->Int}{κ:SortKind}{a₀:Array Keyed}
abbrev Hm (rk:Keyed->Int) (a b o:ZX) (i j:Nat):Prop:=ML ZLo a.toList.reverse b.toList.reverse o.toList (a.size-i) (b.size-j)
noncomputable abbrev Gh:=Option (ZX)×Nat×Nat×Array Keyed×Nat×Nat×Nat
section
variable (a b:Array Keyed)
noncomputable def hiC (mg ac bc i:Nat) (o:ZX) (j:Nat):Z2D:=
 elem' a (i-1) >>= λ x=>if i-1 == 0 then pure (.done (some (a.extract 0 (i-1)++b.extract 0 j++(Z3A).reverse),i-1,j,Z3A,mg,ac,bc))
  else if decide (ac<7) && decide (bc<7) then pure (.done (none,i-1,j,Z3A,mg,ac,bc)) else pure (.yield (none,i-1,j,Z3A,mg,ac,bc))
noncomputable def hiB (mg ac bc j:Nat) (i:Nat) (o:ZX):Z2D:=
 elem' b (j-1) >>= λ x=>if j-1 == 1 then pure (.done (some (b.extract 0 (j-1)++a.extract 0 i++(Z3A).reverse),i,j-1,Z3A,mg,ac,bc))
  else elem' a (i-1) >>= λ y=>et true y b 0 (j-1) (j-1-1) >>= fun
  | some k=>if j-1-k>0 then if k == 1 then pure (.done (some (b.extract 0 k++a.extract 0 i++(o.push x++(b.extract k (j-1)).reverse).reverse),i,k,o.push x++(b.extract k (j-1)).reverse,mg,ac,j-1-k))
    else if k == 0 then pure (.done (some (a.extract 0 i++b.extract 0 k++(o.push x++(b.extract k (j-1)).reverse).reverse),i,k,o.push x++(b.extract k (j-1)).reverse,mg,ac,j-1-k))
    else hiC a b mg ac (j-1-k) i (o.push x++(b.extract k (j-1)).reverse) k else hiC a b mg ac (j-1-k) i Z3A (j-1)
  | _=>pure (.done (some (a.extract 0 i++b.extract 0 (j-1)++(Z3A).reverse),i,j-1,Z3A,mg,ac,bc))
noncomputable def hiA (ac bc i j:Nat) (o:ZX) (mg:Nat):Z2D:=
 setG mg >>= λ _=>elem' b (j-1) >>= λ x=>et false x a 0 i (i-1) >>= fun
 | some k=>if i-k>0 then if k == 0 then pure (.done (some (a.extract 0 k++b.extract 0 j++(o++(ZEs).reverse).reverse),k,j,o++(ZEs).reverse,mg,i-k,bc))
   else hiB a b mg (i-k) bc j k (o++(ZEs).reverse) else hiB a b mg (i-k) bc j i o
 | _=>pure (.done (some (a.extract 0 i++b.extract 0 j++o.reverse),i,j,o,mg,ac,bc))
end
noncomputable abbrev H1:=Option (ZX)×Nat×Nat×Array Keyed×Nat×Nat
noncomputable abbrev H0:=Option (ZX)×Nat×Nat×Array Keyed×Nat
section
variable (a b:Array Keyed)
noncomputable def hiG (c:Gh):Z2D:=if c.2.2.2.2.1>1 then hiA a b c.2.2.2.2.2.1 c.2.2.2.2.2.2 c.2.1 c.2.2.1 c.2.2.2.1 (c.2.2.2.2.1-1) else hiA a b c.2.2.2.2.2.1 c.2.2.2.2.2.2 c.2.1 c.2.2.1 c.2.2.2.1 c.2.2.2.2.1
noncomputable def hi1 (mg:Nat) (c:H1):StateT SortSt Sem (ForInStep H1):=
 elem' b (c.2.2.1-1) >>= λ x=>elem' a (c.2.1-1) >>= λ y=>lt' x y >>= fun
 | some w=>if w=true then elem' a (c.2.1-1) >>= λ x=>if c.2.1-1 == 0 then pure (.done (some (a.extract 0 (c.2.1-1)++b.extract 0 c.2.2.1++(Z22).reverse),c.2.1-1,c.2.2.1,Z22,c.2.2.2.2.1+1,0))
   else if c.2.2.2.2.1+1 >= mg then pure (.done (none,c.2.1-1,c.2.2.1,Z22,c.2.2.2.2.1+1,0)) else pure (.yield (none,c.2.1-1,c.2.2.1,Z22,c.2.2.2.2.1+1,0))
  else elem' b (c.2.2.1-1) >>= λ x=>if c.2.2.1-1 == 1 then pure (.done (some (b.extract 0 (c.2.2.1-1)++a.extract 0 c.2.1++(Z22).reverse),c.2.1,c.2.2.1-1,Z22,0,c.2.2.2.2.2+1))
   else if c.2.2.2.2.2+1 >= mg then pure (.done (none,c.2.1,c.2.2.1-1,Z22,0,c.2.2.2.2.2+1)) else pure (.yield (none,c.2.1,c.2.2.1-1,Z22,0,c.2.2.2.2.2+1))
 | _=>pure (.done (some (a.extract 0 c.2.1++b.extract 0 c.2.2.1++c.2.2.2.1.reverse),c.2.1,c.2.2.1,c.2.2.2.1,c.2.2.2.2.1,c.2.2.2.2.2))
noncomputable def hiE (s:Gh):Z4Z:=match s.1 with
 | some r=>pure (.done (ZAm,s.2.1,s.2.2.1,s.2.2.2.1,s.2.2.2.2.1))
 | none=>setG (s.2.2.2.2.1+1) >>= λ _=>pure (.yield (none,s.2.1,s.2.2.1,s.2.2.2.1,s.2.2.2.2.1+1))
noncomputable def hiR (mg:Nat) (s:H1):Z4Z:=match s.1 with
 | some r=>pure (.done (ZAm,s.2.1,s.2.2.1,s.2.2.2.1,mg))
 | none=>liftM ZDk >>= λ _=>forIn [:a.size+b.size] (none,s.2.1,s.2.2.1,s.2.2.2.1,mg+1,s.2.2.2.2.1,s.2.2.2.2.2) (λ _=>hiG a b) >>= hiE
noncomputable def hiF (c:H0):Z4Z:=forIn [:a.size+b.size] (none,c.2.1,c.2.2.1,c.2.2.2.1,0,0) (λ _=>hi1 a b c.2.2.2.2) >>= hiR a b c.2.2.2.2
theorem qw:kD a b=(liftM (rule "list.sort.merge-hi") >>= λ _=>elem' a (a.size-1) >>= λ x=>if a.size-1 == 0 then pure (a.extract 0 (a.size-1)++b.extract 0 b.size++(#[x]:ZX).reverse) else if b.size == 1 then pure (b.extract 0 b.size++a.extract 0 (a.size-1)++(#[x]:ZX).reverse) else
 get >>= λ s=>forIn [:a.size+b.size] (none,a.size-1,b.size,#[x],(sortPriv% PySem.Builtin.SortState.minGallop:SortSt->Nat) s) (λ _=>hiF a b) >>= λ s=>match s.1 with|some r=>pure r|none=>liftM (unsupported "internal:list.sort.merge-bound")):=by
 show bind _ _=_
 refine Z1q
 refine Z8z
 refine Z2a
 refine Z2a
 refine Z90
 refine congr Z65 ?_
 ·refine Z2H
  funext i c
  unfold hiF
  refine congr Z65 ?_
  ·refine Z2H
   funext i c
   unfold hi1
   rfl
  ·funext ⟨o,s⟩
   cases o with
   | some r=>rfl
   | none=>
    refine Z1q
    refine Z8y
    obtain⟨o,s⟩:=z
    cases o<;>rfl
 ·funext ⟨o,s⟩
  cases o<;>rfl
end
def HI (rk:Keyed->Int) (a b:ZX) (st:SortSt) (z y:Nat) (c:Gh) (st':SortSt):Prop:=ft st st'/\∃ i j out mg ac bc,c=(none,i,j,out,mg,ac,bc)/\Hm rk a b out i j/\1<=i/\i<=a.size/\2<=j/\j<=b.size/\y+i+j<=z
def HQ (rk:Keyed->Int) (a b:ZX) (st:SortSt) (z:Nat) (c:Gh) (st':SortSt):Prop:=ft st st'/\((∃ r rest,c=(ZAm,rest)/\r.toList.Perm (a.toList++b.toList)/\Asc rk r.toList)\/∃ i j out mg ac bc,c=(none,i,j,out,mg,ac,bc)/\Hm rk a b out i j/\1<=i/\i<=a.size/\2<=j/\j<=b.size/\i+j<=z)
set_option maxHeartbeats 4000000 in
theorem oV {st:SortSt}{a b:ZX}{Q:Array Keyed->SortSt->Prop}(C:Cmp prog w A s rk κ a₀.toList) (hk:kindOf st=κ) (ma:∀ x∈a.toList,x∈a₀.toList) (mb:∀ x∈b.toList,x∈a₀.toList)
  (D:∀ i j,i<a.size->j<b.size->R rk a i≠R rk b j) (sa:ZCT) (sb:ZLd) (h1:1<=a.size) (h2:1<=b.size) (h0:∀ i,i<a.size->R rk b 0<R rk a i) (hl:∀ j,j<b.size->R rk b j<R rk a (a.size-1))
  (h:∀ (out:Array Keyed) J,ft st J->out.toList.Perm (a.toList++b.toList)->Asc rk out.toList->Q out J):wpS ZE A E s (kD a b) Q st:=by
 have mA:∀ i (h:i<a.size),a[i]∈a₀.toList:=λ i h=>ma _ ZA
 have mB:∀ i (h:i<b.size),b[i]∈a₀.toList:=λ i h=>mb _ ZA
 have a9:Asc ZLo a.toList.reverse:=jS.mpr (by rw[JT];exact sa)
 have a6:Asc ZLo b.toList.reverse:=jS.mpr (by rw[JT];exact sb)
 have a8:∀ {out:Array Keyed} {na nb:Nat} (h:na+1<=a.size),nb<=b.size->Hm rk a b out (na+1) nb->(∀ j,j<nb->R rk b j<R rk a na)->Hm rk a b (out.push a[na]) na nb:=λ{out na nb} h L m q=>by
  have:=m.a (k:=1) a9 λ y hy z hz=>by
   rw[jT h,Fd] at hy
   obtain⟨k,k1,k2,rfl⟩:=ZRR
   have:=q k k1
   rw[cz (show na<a.size by lia),ZV0] at this
   rw[hy];show-_ < - _;lia
  rw[jT h,show a.size-(na+1)+1=a.size-na by lia] at this
  unfold Hm;rw[HJ];exact this
 have ai:∀ {out:Array Keyed} {na nb:Nat} (h:nb+1<=b.size),na<=a.size->Hm rk a b out na (nb+1)->(∀ j,j<na->R rk a j<R rk b nb)->Hm rk a b (out.push b[nb]) na nb:=λ{out na nb} h L m q=>by
  have:=m.b (k:=1) a6 λ y hy z hz=>by
   rw[jT h,Fd] at hy
   obtain⟨k,k1,k2,rfl⟩:=ZRR
   have:=q k k1
   rw[cz (show nb<b.size by lia),ZV0] at this
   rw[hy];show-_ < - _;lia
  rw[jT h,show b.size-(nb+1)+1=b.size-nb by lia] at this
  unfold Hm;rw[HJ];exact this
 have ab:∀ {out:Array Keyed} {na nb at_:Nat},na<=a.size->nb<=b.size->at_<=na->Hm rk a b out na nb->(∀ i,at_<=i->i<na->∀ j,j<nb->R rk b j<R rk a i)->Hm rk a b (out++(ZKH).reverse) at_ nb:=λ{out na nb at_} h L a3 m q=>by
  have:=m.a (k:=na-at_) a9 λ y hy z hz=>by
   obtain⟨n,n1,n2,n3,rfl⟩:=il h a3 hy
   obtain⟨j,j1,j2,rfl⟩:=ZRR
   have:=ZMM
   rw[cz n3,cz j2] at this
   show-_ < - _;lia
  rw[g9 h a3,show a.size-na+(na-at_)=a.size-at_ by lia] at this
  unfold Hm;rw[Gu,Jc];exact this
 have ad:∀ {out:Array Keyed} {na nb at_:Nat},na<=a.size->nb<=b.size->at_<=nb->Hm rk a b out na nb->(∀ i,at_<=i->i<nb->∀ j,j<na->R rk a j<R rk b i)->Hm rk a b (out++(b.extract at_ nb).reverse) na at_:=λ{out na nb at_} h L a3 m q=>by
  have:=m.b (k:=nb-at_) a6 λ y hy z hz=>by
   obtain⟨n,n1,n2,n3,rfl⟩:=il L a3 hy
   obtain⟨j,j1,j2,rfl⟩:=dc h hz
   have:=ZMM
   rw[cz n3,cz j2] at this
   show-_ < - _;lia
  rw[g9 L a3,show b.size-nb+(nb-at_)=b.size-at_ by lia] at this
  unfold Hm;rw[Gu,Jc];exact this
 have a2:∀ {c:Array Keyed} {n:Nat},n<=c.size->(c.extract 0 n).toList=(c.toList.reverse.drop (c.size-n)).reverse:=λ{c n} h=>by
  rw[km h,JT,GX];simp
 have Z:∀ {out:Array Keyed} {na nb:Nat},na=0->nb<=b.size->Hm rk a b out na nb->(a.extract 0 na++b.extract 0 nb++out.reverse).toList.Perm (a.toList++b.toList)/\Asc rk (a.extract 0 na++b.extract 0 nb++out.reverse).toList:=λ{out na nb} e L m=>by
  subst e
  obtain⟨p,q⟩:=m.swap.EI a6 ZA
  have e:(a.extract 0 0++b.extract 0 nb++out.reverse).toList=(out.toList++b.toList.reverse.drop (b.size-nb)).reverse:=by
   rw[Gu,Gu,Jc,a2 L,JV];simp
  rw[e]
  refine Z7Q
  exact ZAj
 have a1:∀ {out:Array Keyed} {na nb:Nat},nb=1->na<=a.size->Hm rk a b out na nb->(b.extract 0 nb++a.extract 0 na++out.reverse).toList.Perm (a.toList++b.toList)/\Asc rk (b.extract 0 nb++a.extract 0 na++out.reverse).toList:=λ{out na nb} e L m=>by
  subst e
  obtain⟨p,q⟩:=m.swap.BC a6 a9 λ y hy x hx=>by
   obtain⟨i,i1,i2,rfl⟩:=dc L hy
   obtain⟨j,j1,j2,rfl⟩:=dc h2 hx
   have e0:j=0:=Z2
   subst e0
   have:=h0 i i2
   rw[cz i2,cz j2] at this
   show-_ < - _;lia
  have e:(b.extract 0 1++a.extract 0 na++out.reverse).toList=(out.toList++a.toList.reverse.drop (a.size-na)++b.toList.reverse.drop (b.size-1)).reverse:=by
   rw[Gu,Gu,Jc,a2 L,a2 h2,JV,JV,Gd]
  rw[e]
  refine Z7Q
  exact ZAj
 have a4:∀ {out:Array Keyed} {na nb:Nat} (h:na-1<a.size),1<=na->nb<=b.size->Hm rk a b out na nb->(∀ j,j<nb->R rk b j<R rk a (na-1))->Hm rk a b (out.push a[na-1]) (na-1) nb:=λ{out na nb} h p L m q=>by
  obtain⟨z,rfl⟩:∃ z,na=z+1:=⟨na-1,Z2⟩
  exact a8 (na:=z) Z2 L m q
 have a5:∀ {out:Array Keyed} {na nb:Nat} (h:nb-1<b.size),1<=nb->na<=a.size->Hm rk a b out na nb->(∀ j,j<na->R rk a j<R rk b (nb-1))->Hm rk a b (out.push b[nb-1]) na (nb-1):=λ{out na nb} h p L m q=>by
  obtain⟨z,rfl⟩:∃ z,nb=z+1:=⟨nb-1,Z2⟩
  exact ai (nb:=z) Z2 L m q
 rw[qw]
 refine Z0y
 refine Fp (bS (show a.size-1<a.size by lia) ?_)
 have m0:Hm rk a b #[a[a.size-1]] (a.size-1) b.size:=by
  have:=a8 (out:=#[]) (na:=a.size-1) (nb:=b.size) Z2 Z9 (by
   unfold Hm;rw[show a.size-(a.size-1+1)=0 by lia,G4]
   exact⟨.nil,.nil,(λ x hx=>by cases hx),(λ x hx=>by cases hx)⟩) λ j hj=>hl j hj
  exact this
 refine ZEA
 ·obtain⟨p,q⟩:=Z (na:=a.size-1) (by simpa using c1) (Nat.le_refl _) m0
  exact Z5I
 have ak:1<a.size:=by
  have:¬ a.size-1=0:=by simpa using c1
  lia
 refine bT (λ c2=>?_) λ c2=>?_
 ·obtain⟨p,q⟩:=a1 (nb:=b.size) (by simpa using c2) (by lia) m0
  exact Z5I
 have al:1<b.size:=by
  have:¬ b.size=1:=by simpa using c2
  lia
 refine Z2K
 refine Fp (Hg (Gv (I:=λ x c J=>ft st J/\∃ na nb out mg,c=(none,na,nb,out,mg)/\Hm rk a b out na nb/\1<=na/\na<=a.size/\2<=nb/\nb<=b.size/\x+na+nb<=a.size+b.size)
  (Q:=λ c J=>ft st J/\∃ r rest,c=(ZAm,rest)/\r.toList.Perm (a.toList++b.toList)/\Asc rk r.toList) ?step ?fin ?init) ?post)
 case init=>exact⟨.refl,a.size-1,b.size,_,_,rfl,m0,Z2,Z2,Z2,Z2,Z2⟩
 case fin=>
  rintro c J ⟨Y,na,nb,out,mg,rfl,m,e1,e2,e3,e4,e5⟩
  lia
 case post=>
  rintro c J ⟨Y,r,rest,rfl,p,q⟩
  exact Fz (h r J Y p q)
 case step=>
  rintro x c J _ hx ⟨Y,na,nb,out,mg,rfl,m,e1,e2,e3,e4,e5⟩
  refine Fp (Hg (Gv (I:=λ y c M=>M=J/\∃ F G out ac V,c=(none,F,G,out,ac,V)/\Hm rk a b out F G/\1<=F/\F<=a.size/\2<=G/\G<=b.size/\y+F+G<=na+nb)
   (Q:=λ c M=>M=J/\((∃ r rest,c=(ZAm,rest)/\r.toList.Perm (a.toList++b.toList)/\Asc rk r.toList)\/∃ F G out ac V,c=(none,F,G,out,ac,V)/\Hm rk a b out F G/\1<=F/\F<=a.size/\2<=G/\G<=b.size/\F+G<na+nb)) ?istep ?ifin ?iinit) ?ipost)
  case iinit=>exact⟨rfl,na,nb,out,_,_,rfl,m,e1,e2,e3,e4,Z2⟩
  case ifin=>
   rintro c M ⟨rfl,F,G,out,ac,V,rfl,m,f1,f2,f3,f4,f5⟩
   lia
  case istep=>
   rintro y c M _ hy ⟨rfl,F,G,out,ac,V,rfl,m,f1,f2,f3,f4,f5⟩
   have O:F-1<a.size:=Z2
   have U:G-1<b.size:=Z2
   refine Fp (bS (xs:=b) (i:=G-1) U (Fp (bS (xs:=a) (i:=F-1) O ?_)))
   refine Fp (kO C ZKZ ZXY ZXZ ?_)
   have ra:R rk a (F-1)=rk a[F-1]:=cz O
   have rb:R rk b (G-1)=rk b[G-1]:=cz U
   by_cases bw:rk b[G-1]<rk a[F-1]
   ·simp only[bw,ID,HB]
    refine Fp (bS (xs:=a) (i:=F-1) O ?_)
    have m':=a4 O f1 f4 m λ j j1=>by have:=sb.ge (show j<=G-1 by lia) U;lia
    refine bT (λ g=>Fz ⟨rfl,.inl ⟨_,_,rfl,Z (na:=F-1) (by simpa using g) f4 m'⟩⟩) λ g=>?_
    have g':¬ F-1=0:=by simpa using g
    refine bT (λ _=>Fz ⟨rfl,.inr ⟨F-1,G,_,_,_,rfl,m',Z2,Z2,f3,f4,Z2⟩⟩) λ _=>Fz ⟨rfl,F-1,G,_,_,_,rfl,m',Z2,Z2,f3,f4,Z2⟩
   ·simp only[bw,Jg,Fx,Gi]
    refine Fp (bS (xs:=b) (i:=G-1) U ?_)
    have nd:=D (F-1) (G-1) O U
    have m':=a5 U Z2 f2 m λ j j1=>by have:=sa.ge (show j<=F-1 by lia) O;lia
    refine bT (λ g=>Fz ⟨rfl,.inl ⟨_,_,rfl,a1 (nb:=G-1) (by simpa using g) f2 m'⟩⟩) λ g=>?_
    have g':¬ G-1=1:=by simpa using g
    refine bT (λ _=>Fz ⟨rfl,.inr ⟨F,G-1,_,_,_,rfl,m',f1,f2,Z2,Z2,Z2⟩⟩) λ _=>Fz ⟨rfl,F,G-1,_,_,_,rfl,m',f1,f2,Z2,Z2,Z2⟩
  case ipost=>
   rintro c M ⟨rfl,⟨r,rest,rfl,p,q⟩|⟨F,G,out,ac,V,rfl,m,f1,f2,f3,f4,f5⟩⟩
   ·exact Fz ⟨Y,r,_,rfl,p,q⟩
   refine Z0y
   refine Fp (Hg (Gv (I:=HI rk a b st (F+G))
    (Q:=HQ rk a b st (F+G)) ?gstep ?gfin ?ginit) ?gpost)
   case ginit=>exact⟨Y,F,G,out,_,_,_,rfl,m,f1,f2,f3,f4,Z2⟩
   case gfin=>
    rintro c a7 ⟨W,i,j,out,mg,ac,V,rfl,m,g1,g2,g3,g4,g5⟩
    lia
   case gpost=>
    rintro c a7 ⟨W,⟨r,rest,rfl,p,q⟩|⟨i,j,out,mg,ac,V,rfl,m,g1,g2,g3,g4,g5⟩⟩
    ·exact Fz ⟨W,r,_,rfl,p,q⟩
    ·refine Fp (HK (Fz ⟨ZCC,i,j,out,_,rfl,m,g1,g2,g3,g4,Z2⟩))
   case gstep=>
    rintro y c a7 _ hy ⟨W,i,j,out,mg,ac,V,rfl,m,g1,g2,g3,g4,g5⟩
    have U:j-1<b.size:=Z2
    suffices H:∀ PP:ForInStep Gh->SortSt->Prop,(∀ c J,HQ rk a b st (F+G) c J->PP ZW8 J)->(∀ c J,HI rk a b st (F+G) (y+1) c J->PP ZUG J)->wpS ZE A E s (if mg>1 then hiA a b ac V i j out (mg-1) else hiA a b ac V i j out mg) PP a7 from ZBG
    intro PP hd aj
    have G3:∀ {mg ac V i o j} {J:SortSt},ft st J->Hm rk a b o i j->1<=i->i<=a.size->2<=j->j<=b.size->y+i+j<=F+G->(∀ n,n<j->R rk b n<R rk a (i-1))->wpS ZE A E s (hiC a b mg ac V i o j) PP J:=λ Y m i1 i2 j1 j2 hz af=>by
     have O:=Z9J
     have M4:=a4 O i1 j2 m af
     refine Fp (bS O (bT (λ e=>Fz (hd _ _ ⟨Y,.inl ⟨_,_,rfl,Z (by simpa using e) j2 M4⟩⟩)) λ e=>?_))
     have e':=Nat.pos_of_ne_zero (eQ e)
     exact bT (λ _=>Fz (hd _ _ ⟨Y,.inr ⟨_,_,_,_,_,_,rfl,M4,e',Gq O,j1,j2,Z2⟩⟩)) λ _=>Fz (aj _ _ ⟨Y,_,_,_,_,_,_,rfl,M4,e',Gq O,j1,j2,Z2⟩)
    have G2:∀ {mg ac V i o} {J:SortSt},ft st J->Hm rk a b o i j->1<=i->i<=a.size->y+i+j<=F+G->(∀ n,n<i->R rk a n<R rk b (j-1))->wpS ZE A E s (hiB a b mg ac V j i o) PP J:=λ{mg ac V i o J} Y m i1 i2 hz af=>by
     have O:=Z9J
     have M2:=a5 U (Nat.le_of_succ_le g3) i2 m af
     refine Fp (bS U (bT (λ c3=>Fz (hd _ _ ⟨Y,.inl ⟨_,_,rfl,a1 (by simpa using c3) i2 M2⟩⟩)) λ c3=>?_))
     have ae:2<=j-1:=by have:=eQ c3;lia
     refine Fp (bS O (Fp (gj C ZKZ ZXZ (λ n L _=>mB _ L) Z2 Z9L Z2 λ k k1 k2 k3=>?_)))
     rw[<- cz (rk:=rk) O] at k2 k3
     simp only[GR] at k2 k3
     have kp:1<=k:=JD λ z=>Int.not_le.mpr (h0 _ O) (k3 0 z (Js ae))
     have kb:=FC k1 ZW2
     have ah:=ad (at_:=k) i2 ZW2 k1 M2 λ n n1 n2 q q1=>J6 (sa.ge ZDu O) (Jb.mpr ⟨ZTC,D _ n O (JK n2 U)⟩)
     refine bT (λ d0=>bT (λ d1=>Fz (hd _ _ ⟨Y,.inl ⟨_,_,rfl,a1 (by simpa using d1) i2 ah⟩⟩)) λ d1=>bT (λ d2=>absurd (by simpa using d2) (Gp kp)) λ d2=>?_) λ d0=>?_
     ·exact G3 Y ah i1 i2 (JZ kp λ z=>eQ d1 z.symm) kb Z2 k2
     ·have e:k=j-1:=by
       have am:¬ (j-1-k>0):=d0
       lia
      subst e
      exact G3 Y M2 i1 i2 ae ZW2 Z2 k2
    have G1:∀ mg,wpS ZE A E s (hiA a b ac V i j out mg) PP a7:=λ mg=>by
     refine Fp (HK (Fp (bS U (Fp (gH C (W.2.1.trans hk) ZXY (λ n L _=>mA _ L) Z2 Z9M Z2 λ k k1 k2 k3=>?_)))))
     rw[<- cz (rk:=rk) U] at k2 k3
     simp only[GR] at k2 k3
     have aa:∀ n,n<k->R rk a n<R rk b (j-1):=λ n n1=>Jb.mpr ⟨ZRM,D n _ Z2 U⟩
     have ag:=ab (at_:=k) g2 g4 k1 m λ n n1 n2 q q1=>J6 (sb.ge ZDu U) ZTC
     refine bT (λ k0=>bT (λ c1=>Fz (hd _ _ ⟨ZCC,.inl ⟨_,_,rfl,Z (by simpa using c1) g4 ag⟩⟩)) λ c1=>?_) λ k0=>?_
     ·exact G2 ZCC ag (Nat.pos_of_ne_zero (eQ c1)) (FC k1 g2) Z2 aa
     ·have e:k=i:=by
       have an:¬ (i-k>0):=k0
       lia
      subst e
      exact G2 ZCC m g1 g2 Z2 aa
    exact ZD9
end
theorem yF (o):∀ (l:List Keyed) (m:Nat) (xs:Array Keyed),o+m+l.length<=xs.size ->
  ((l.zipIdx m).foldl (λ a (x:Keyed×Nat)=>a.setIfInBounds (o+x.2) x.1) xs).toList=xs.toList.take (o+m)++l++xs.toList.drop (o+m+l.length)
 | [],m,xs,h=>Zq
 | p::l,m,xs,h=>by
  simp only[FV] at h
  rw[List.zipIdx_cons,Kp,yF o l (m+1) _ (by simp;lia)]
  dsimp only
  rw[Array.toList_setIfInBounds]
  have j:(xs.toList.set (o+m) p).take (o+(m+1))=xs.toList.take (o+m)++[p]:=by
   rw[show o+(m+1)=o+m+1 by lia,List.take_succ,List.take_set_of_le Z9]
   congr 1
   rw[FG (by simp;lia)]
   rfl
  have q:(xs.toList.set (o+m) p).drop (o+(m+1)+l.length)=xs.toList.drop (o+m+(p::l).length):=by
   rw[List.drop_set_of_lt Z2,FV]
   congr 1;lia
  rw[j,q]
  simp
section
variable {rk:Keyed->Int}
theorem Seg.asc {xs:ZX}{lo hi:Nat}(h:Seg rk xs lo hi) (F:hi<=xs.size):Asc rk (Z3f).toList:=by
 refine mY λ i j _ J q=>?_
 have z:j<hi-lo:=by simp at q;lia
 have G:(Z3f).size=hi-lo:=by simp;lia
 rw[ZG0,ZG0,JR,JR]
 have:=h (lo+i) (lo+j) Z2 Z2 Z2
 rwa [ZG0,ZG0] at this
theorem yx {xs:ZX}{lo hi i:Nat}(j:hi<=xs.size) (h:lo+i<hi):R rk Z3f i=R rk xs (lo+i):=by
 have q:(Z3f).size=hi-lo:=by simp;lia
 rw[ZG0,ZG0,JR]
theorem jR {xs:ZX}{lo hi:Nat}{x:Keyed}(z:hi<=xs.size) (h:x∈(Z3f).toList):∃ i,lo<=i/\i<hi/\∃ hi:i<xs.size,x=xs[i]:=by
 have q:(Z3f).size=hi-lo:=by simp;lia
 obtain⟨n,j,e⟩:=ZRr
 rw[Fs,q] at j
 refine⟨lo+n,Z2,Z2,Z2,?_⟩
 rw[<- e];simp
theorem yD {L:ZAT}{i j:Nat}(h:i<=j):L.take i++(ZWy).drop i=L.take j:=by
 have:=G8 i ZWy
 rwa [List.take_take,Kl h] at this
theorem zy {xs:ZX}{i j k:Nat}(h1:i<=j) (h2:j<=k) (q:k<=xs.size):xs.toList=xs.toList.take i++((xs.extract i j).toList++(xs.extract j k).toList)++xs.toList.drop k:=by
 simp only[GX,Ij]
 rw[<- Gd,yD h1,yD h2,G8]
end
section
variable {prog:Program}{w:World}{A:Around}{E:Value->Shared->Prop}{s:Shared}{rk:Keyed->Int}{κ:SortKind}{a₀:Array Keyed}
def Two (rk:Keyed->Int) (κ:SortKind) (a₀:ZX) (st:SortSt):Prop:=
 (∃ pw,SB a₀ κ #[(0,a₀.size,pw)] st/\Seg rk ZP 0 a₀.size)\/∃ n1 n2 pw,SB a₀ κ #[(0,n1,pw),(n1,n2,0)] st/\1<=n1/\1<=n2/\n1+n2=a₀.size/\Seg rk ZP 0 n1/\Seg rk ZP n1 (n1+n2)
theorem wD {σ:Type}{M:Model}{st j:σ}{Q:PUnit->σ->Prop}(h:Q ⟨⟩ j):wpS M A E s (set j:StateT σ Sem PUnit) Q st:=by
 exact HK (f:=λ _=>j) h
theorem oK (i:Nat):mergeAt' i=(do
 let s <- get
 let (some (sa,na,power),some (sb,nb,_)):=((Z6k)[i]?,(Z6k)[i+1]?)|unsupported "internal:list.sort.pending"
 set (setPending s (((Z6k).setIfInBounds i (sa,na+nb,power)).eraseIdxIfInBounds (i+1)))
 let some k <- et false (<- elem' ZA2 sb) ZA2 sa na 0|return false
 let (sa,na):=(sa+k,na-k)
 if na == 0 then return true
 let some nb <- et true (<- elem' ZA2 (sa+na-1)) ZA2 sb nb (nb-1)|return false
 if nb == 0 then return true
 let x:=(arrOf s).extract sa sb
 let y:=(arrOf s).extract sb (sb+nb)
 let merged <- if na<=nb then kC x y else kD x y
 modify λ s=>setArr s (merged.toList.zipIdx.foldl (λ a (p,j)=>a.setIfInBounds (sa+j) p) ZA2)
 return (failedOf (<- get)).isNone):=rfl
theorem Aa (a b x:α):(#[a,b].setIfInBounds 0 x).eraseIdxIfInBounds (0+1) = #[x]:=by
 simp[Array.eraseIdxIfInBounds]
set_option maxHeartbeats 4000000 in
theorem mR {st:SortSt}{n1 n2 pw pw2:Nat}{Q:Bool->SortSt->Prop}(C:Cmp prog w A s rk κ a₀.toList) (D:(a₀.toList.map rk).Nodup) (hB:SB a₀ κ #[(0,n1,pw),(n1,n2,pw2)] st) (h1:1<=n1) (h2:1<=n2) (hn:n1+n2=a₀.size)
  (s1:Seg rk ZP 0 n1) (s2:Seg rk ZP n1 (n1+n2))
  (h:∀ st',SB a₀ κ #[(0,n1+n2,pw)] st'->Seg rk Z2J 0 a₀.size->Q true st'):wpS ZE A E s (mergeAt' 0) Q st:=by
 have hz:=hB.size
 rw[oK]
 refine Z2K
 rw[hB.pend]
 show wpS ZE A E s (set (setPending st ((#[(0,n1,pw),(n1,n2,pw2)].setIfInBounds 0 (0,n1+n2,pw)).eraseIdxIfInBounds (0+1))) >>= _) Q st
 rw[Aa]
 refine Fp (wD ?_)
 have B1:SB a₀ κ #[(0,n1+n2,pw)] (setPending st #[(0,n1+n2,pw)]):=⟨hB.perm,hB.kind,hB.failed,rfl⟩
 have mem:∀ i (h:i<(arrOf st).size),(ZP)[i]∈a₀.toList:=λ i h=>hB.mem h
 have neq:∀ i j,i<j->j<(ZP).size->R rk ZP i≠R rk ZP j:=λ i j a b e=>by
  have:=i8 D hB.perm (show i<_ by lia) b e
  lia
 have k1':n1<(ZP).size:=Z2
 have rk1:R rk ZP n1=rk (ZP)[n1]:=cz k1'
 refine Fp (bS (xs:=ZP) (i:=n1) k1' ?_)
 refine Fp (gH (arr:=ZP) (base:=0) (n:=n1) (hint:=0) (key:=(ZP)[n1]) C hB.kind (mem _ k1') ZG_ Z2 (λ p q a b c=>s1 p q Z2 b Z2) Z2 λ k l1 l2 l3=>?_)
 have below:∀ i,i<k->R rk ZP i<R rk ZP n1:=λ i hi=>by
  have:=l2 i hi
  rw[GR] at this
  have:=neq i n1 Z2 k1'
  lia
 refine ZEA
 ·have e:n1-k=0:=by simpa using c1
  refine Fz (h _ B1 λ i j a b c=>?_)
  show R rk ZP i<R rk ZP j
  by_cases hj:j<n1
  ·exact s1 i j a b hj
  ·by_cases hi:i<n1
   ·have:=below i Z2
    by_cases ej:j=n1
    ·rw[ej];exact this
    ·have:=s2 n1 j Z9 Z2 Z2
     lia
   ·exact s2 i j Z2 b Z2
 have c1':¬ n1-k=0:=by simpa using c1
 have k2':0+k+(n1-k)-1<(ZP).size:=Z2
 have ek:0+k+(n1-k)-1=n1-1:=Z2
 have rk2:R rk ZP (n1-1)=rk (ZP)[0+k+(n1-k)-1]:=by rw[<- ek];exact cz k2'
 refine Fp (bS (xs:=ZP) (i:=0+k+(n1-k)-1) k2' ?_)
 refine Fp (gj (key:=(ZP)[0+k+(n1-k)-1]) (arr:=ZP) (base:=n1) (n:=n2) (hint:=n2-1) C hB.kind (mem _ k2') ZG_ Z2 s2 Z2 λ nb m1 m2 m3=>?_)
 have low:R rk ZP n1<R rk ZP (n1-1):=by
  have:=l3 (n1-1) Z2 Z2
  rw[GR] at this
  lia
 have nb1:1<=nb:=by
  refine ZRo
  have:=m3 0 z Z2
  rw[Ji] at this
  lia
 have top:∀ j,n1+nb<=j->j<n1+n2->R rk ZP (n1-1)<R rk ZP j:=λ j a b=>by
  have:=m3 (j-n1) Z2 Z2
  rw[show n1+(j-n1)=j by lia] at this
  have:=neq (n1-1) j Z2 Z2
  lia
 refine bT (λ c2=>absurd (show nb=0 by simpa using c2) (by lia)) λ c2=>?_
 have e0:0+k=k:=GR k
 have hX:((ZP).extract (0+k) n1).size=n1-k:=by simp;lia
 have hY:((ZP).extract n1 (n1+nb)).size=nb:=by simp;lia
 have rX:∀ i,i<n1-k->R rk ((ZP).extract (0+k) n1) i=R rk ZP (k+i):=λ i hi=>by rw[ZWC,e0]
 have rY:∀ j,j<nb->R rk ((ZP).extract n1 (n1+nb)) j=R rk ZP (n1+j):=λ j hj=>ZWC
 have memX:∀ x∈((arrOf st).extract (0+k) n1).toList,x∈a₀.toList:=λ x hx=>by
  obtain⟨i,_,_,hi,rfl⟩:=ZIX;exact ZW_
 have memY:∀ x∈((arrOf st).extract n1 (n1+nb)).toList,x∈a₀.toList:=λ x hx=>by
  obtain⟨i,_,_,hi,rfl⟩:=ZIX;exact ZW_
 have DD:∀ i j,i<((ZP).extract (0+k) n1).size->j<((ZP).extract n1 (n1+nb)).size->R rk ((ZP).extract (0+k) n1) i≠R rk ((ZP).extract n1 (n1+nb)) j:=λ i j hi hj=>by
  rw[hX] at hi;rw[hY] at hj
  rw[rX i hi,rY j hj]
  exact neq _ _ Z2 Z2
 have aX:Asc rk ((ZP).extract (0+k) n1).toList:=Seg.asc (λ i j a b c=>s1 i j Z2 b c) Z2
 have aY:Asc rk ((ZP).extract n1 (n1+nb)).toList:=Seg.asc (λ i j a b c=>s2 i j a b Z2) Z2
 have Z0:∀ i,i<((ZP).extract (0+k) n1).size->R rk ((ZP).extract n1 (n1+nb)) 0<R rk ((ZP).extract (0+k) n1) i:=λ i hi=>by
  rw[hX] at hi
  rw[rX i hi,rY 0 Z2]
  have:=l3 (k+i) Z2 Z2
  rw[GR] at this
  rw[Ji];lia
 have ZL:∀ j,j<((ZP).extract n1 (n1+nb)).size->R rk ((ZP).extract n1 (n1+nb)) j<R rk ((ZP).extract (0+k) n1) (((ZP).extract (0+k) n1).size-1):=λ j hj=>by
  rw[hY] at hj
  rw[rY j hj,hX,rX _ Z2,show k+(n1-k-1)=n1-1 by lia]
  have:=m2 j hj
  lia
 have fin:∀ (out:Array Keyed) st',ft (setPending st #[(0,n1+n2,pw)]) st'->out.toList.Perm (((ZP).extract (0+k) n1).toList++((ZP).extract n1 (n1+nb)).toList)->Asc rk out.toList ->
   wpS ZE A E s (do
    modify λ s=>setArr s (out.toList.zipIdx.foldl (λ a (p,j)=>a.setIfInBounds (0+k+j) p) ZA2)
    return (failedOf (<- get)).isNone) Q st':=λ out st' lk pm as=>by
  refine Fp (HK (Fp (Iz (Fz ?_))))
  obtain⟨q1,q2,q3,q4⟩:=lk
  have ln:out.toList.length=n1-k+nb:=by rw[pm.length_eq,Fh,Fs,Fs,hX,hY]
  have ar:(out.toList.zipIdx.foldl (λ a (x:Keyed×Nat)=>a.setIfInBounds (0+k+x.2) x.1) ZP).toList=(ZP).toList.take k++out.toList++(ZP).toList.drop (n1+nb):=by
   have:=yF (0+k) out.toList 0 ZP (by rw[ln];lia)
   rw[this,Ji,e0,ln,show k+(n1-k+nb)=n1+nb by lia]
  have sp:=zy (xs:=ZP) (i:=0+k) (j:=n1) (k:=n1+nb) Z2 Z2 Z2
  rw[e0] at sp
  have ff:failedOf st'=none:=q3.trans hB.failed
  show Q (failedOf st').isNone _
  rw[ff]
  have a0:arrOf st'=arrOf st:=q1
  refine h _ ⟨?_,q2.trans hB.kind,ff,q4⟩ ?_
  ·show (out.toList.zipIdx.foldl (λ a (x:Keyed×Nat)=>a.setIfInBounds (0+k+x.2) x.1) Z2J).Perm a₀
   rw[a0]
   refine Array.Perm.trans ?_ hB.perm
   rw[Hz,ar]
   conv=>rhs;rw[sp]
   rw[e0] at pm
   exact(IU _ pm).append_right _
  ·show Seg rk (out.toList.zipIdx.foldl (λ a (x:Keyed×Nat)=>a.setIfInBounds (0+k+x.2) x.1) Z2J) 0 a₀.size
   rw[a0]
   have zz:(out.toList.zipIdx.foldl (λ a (x:Keyed×Nat)=>a.setIfInBounds (0+k+x.2) x.1) ZP).size=a₀.size:=by
    have:=congrArg List.length ar
    rw[Fs] at this
    rw[this]
    simp[ln]
    lia
   rw[<- zz]
   refine gX ?_
   rw[ar]
   have memT:∀ x∈(arrOf st).toList.take k,∃ i,i<k/\rk x=R rk ZP i:=λ x hx=>by
    obtain⟨i,hi,e⟩:=GV.mp hx
    simp at hi
    refine⟨i,Z2,?_⟩
    rw[ZG0,<- e];simp
   have memD:∀ x∈(arrOf st).toList.drop (n1+nb),∃ i,n1+nb<=i/\i<n1+n2/\rk x=R rk ZP i:=λ x hx=>by
    obtain⟨i,i1,i2,rfl⟩:=dB hx
    exact⟨i,i1,Z2,(cz i2).symm⟩
   have memO:∀ x∈out.toList,(∃ i,k<=i/\i<n1/\rk x=R rk ZP i)\/∃ i,n1<=i/\i<n1+nb/\rk x=R rk ZP i:=λ x hx=>by
    rcases Fm.mp (pm.mem_iff.mp hx) with hx|hx
    ·obtain⟨i,i1,i2,hi,rfl⟩:=ZIX
     exact .inl ⟨i,Z2,i2,ZQp⟩
    ·obtain⟨i,i1,i2,hi,rfl⟩:=ZIX
     exact .inr ⟨i,i1,i2,ZQp⟩
   have lowm:∀ i,i<=n1-1->R rk ZP i<=R rk ZP (n1-1):=λ i hi=>by
    by_cases e:i=n1-1
    ·rw[e];exact ZGL
    ·exact Ke (s1 i (n1-1) Z5N Z2 Z2)
   have him:∀ i,n1<=i->i<n1+n2->R rk ZP n1<=R rk ZP i:=λ i a b=>by
    by_cases e:i=n1
    ·rw[e];exact ZGL
    ·exact Ke (s2 n1 i Z9 Z2 b)
   refine FU.mpr ⟨FU.mpr ⟨?_,as,λ x hx y hy=>?_⟩,?_,λ x hx y hy=>?_⟩
   ·have:Asc rk ((ZP).extract 0 k).toList:=Seg.asc (λ i j a b c=>s1 i j a b Z2) Z2
    simpa using this
   ·obtain⟨i,i1,ei⟩:=ZUZ
    rcases memO y hy with ⟨j,j1,j2,ej⟩|⟨j,j1,j2,ej⟩
    ·rw[ei,ej];exact s1 i j Z5N Z2 j2
    ·rw[ei,ej]
     have:=below i i1
     have:=him j j1 Z2
     lia
   ·have:Asc rk ((ZP).extract (n1+nb) (n1+n2)).toList:=Seg.asc (λ i j a b c=>s2 i j Z2 b c) Z2
    rw[GX,Ij,Hn (by simp;lia)] at this
    exact this
   ·obtain⟨j,j1,j2,ej⟩:=memD y hy
    have t:=top j j1 j2
    rcases Fm.mp hx with hx|hx
    ·obtain⟨i,i1,ei⟩:=ZUZ
     have:=ZU_
     rw[ei,ej];lia
    ·rcases memO x hx with ⟨i,i1,i2,ei⟩|⟨i,i1,i2,ei⟩
     ·have:=ZU_
      rw[ei,ej];lia
     ·rw[ei,ej];exact s2 i j i1 Z2 j2
 refine bT (λ c3=>?_) λ c3=>?_
 ·exact Fp (oI C B1.kind memX memY DD aX aY Z2 Z2 Z0 ZL λ out st' lk pm as=>ZH3)
 ·exact Fp (oV C B1.kind memX memY DD aX aY Z2 Z2 Z0 ZL λ out st' lk pm as=>ZH3)
set_option maxHeartbeats 4000000 in
theorem ie {st:SortSt}{Q:Unit->SortSt->Prop}(C:Cmp prog w A s rk κ a₀.toList) (D:(a₀.toList.map rk).Nodup) (hB:SB a₀ κ #[] st) (h2:2<=a₀.size) (h128:a₀.size<128)
  (h:∀ st',(Z2J).Perm a₀->failedOf st'=none->Seg rk Z2J 0 a₀.size->Q () st'):wpS ZE A E s sortRuns' Q st:=by
 rw[sortRuns'_eq]
 refine Z2K
 dsimp only
 obtain⟨mr,hmr,m1,m2,m3⟩:∃ mr,minRun' a₀.size a₀.size 0=mr/\1<=mr/\mr<=a₀.size/\a₀.size<=2*mr:=by
  obtain⟨f,hf⟩:∃ f,a₀.size=f+2:=⟨a₀.size-2,Z2⟩
  rw[hf,minRun'_succ]
  by_cases q:f+2<64
  ·rw[ZQS];exact ZGx
  ·rw[ZQT,minRun'_succ,ZDZ];exact ZGx
 simp only[hB.size,hmr]
 refine Fp (Hg (Gv
  (I:=λ x c st'=>(x=0/\c=(none,0)/\SB a₀ κ #[] st')\/(∃ n1,x=1/\c=(none,n1)/\mr<=n1/\n1<a₀.size/\SB a₀ κ #[(0,n1,0)] st'/\Seg rk Z2J 0 n1)\/(1<=x/\c=(none,a₀.size)/\Two rk κ a₀ st'))
  (Q:=λ c st'=>c=(none,a₀.size)/\Two rk κ a₀ st') ?step ?fin (.inl ⟨rfl,rfl,hB⟩)) ?post)
 case fin=>
  rintro c st' (⟨hx,_,_⟩|⟨n1,hx,_⟩|⟨_,hc,hD⟩)
  ·lia
  ·lia
  ·exact⟨hc,hD⟩
 case step=>
  rintro x c st' _ hx (⟨rfl,rfl,hB'⟩|⟨n1,rfl,rfl,k1,k2,hB',sg⟩|⟨hx1,rfl,hD⟩)
  ·dsimp only
   rw[ZBI]
   simp only[Nat.sub_zero,GR]
   refine Z48
   dsimp only
   rw[GR] at hs2
   have pe:∀ (n:Nat) (st3:SortSt),SB a₀ κ #[] st3->SB a₀ κ #[(0,n,0)] (setPending st3 ((Z5P).push (0,n,0))):=λ n st3 b3=>⟨b3.perm,b3.kind,b3.failed,by show (Z5P).push _=_;rw[b3.pend];rfl⟩
   by_cases hlt:m<mr
   ·rw[Fl hlt]
    refine Z0y
    refine Fp (wpS_binarySort C D Z2 Z2 hB2 (by rw[GR];exact hs2) λ st3 hB3 hs3 ho3=>?_)
    rw[GR] at hs3
    simp only[Ho,Fx,Gi]
    refine Z2K
    have hb:(Z5P).back? = none:=by rw[hB3.pend];rfl
    rw[hb]
    dsimp only
    refine ZCQ
    have em:min a₀.size mr=mr:=Nat.min_eq_right m2
    have P1:=pe (min a₀.size mr) st3 hB3
    by_cases e:min a₀.size mr=a₀.size
    ·refine .inr (.inr ⟨Z9,congrArg (Prod.mk none) e,.inl ⟨0,?_,?_⟩⟩)
     ·exact⟨P1.perm,P1.kind,P1.failed,P1.pend.trans (by rw[e])⟩
     ·exact λ i j a b c=>hs3 i j a b Z2
    ·exact .inr (.inl ⟨min a₀.size mr,by trivial,rfl,Z2,Z2,P1,hs3⟩)
   ·rw[Fj hlt]
    refine Z2K
    have hb:(ZNV).back? = none:=by rw[hB2.pend];rfl
    rw[hb]
    dsimp only
    refine ZCQ
    by_cases e:m=a₀.size
    ·subst e
     exact .inr (.inr ⟨Z9,rfl,.inl ⟨0,pe _ st2 hB2,hs2⟩⟩)
    ·exact .inr (.inl ⟨m,by trivial,rfl,Z2,Z2,pe m st2 hB2,hs2⟩)
  ·dsimp only
   rw[ZBI]
   refine Z48
   dsimp only
   have keep:∀ st3:SortSt,(∀ k,k<n1->(ZG2)[k]? = (Z2J)[k]?)->Seg rk ZG2 0 n1:=λ st3 e i j a b c=>by
    rw[fM (e i Z2),fM (e j c)];exact sg i j a b c
   have last:∀ (n2:Nat) (st3:SortSt) (pw:Nat),n1+n2=a₀.size->SB a₀ κ #[(0,n1,0)] st3->Seg rk ZG2 0 n1->Seg rk ZG2 n1 (n1+n2) ->
     wpS ZE A E s (do
      modify λ s=>setPending s ((Z6k).modify ((Z6k).size-1) λ x=>(x.fst,x.2.fst,pw))
      modify λ s=>setPending s ((Z6k).push (n1,n2,0))
      pure (ForInStep.yield ((none:Option Unit),n1+n2))) (λ r st4=>match r with
       | .done c=>c=(none,a₀.size)/\Two rk κ a₀ st4
       | .yield c=>(1+1=0/\c=(none,0)/\SB a₀ κ #[] st4)\/(∃ n1,1+1=1/\c=(none,n1)/\mr<=n1/\n1<a₀.size/\SB a₀ κ #[(0,n1,0)] st4/\Seg rk (arrOf st4) 0 n1)\/(1<=1+1/\c=(none,a₀.size)/\Two rk κ a₀ st4)) st3:=λ n2 st3 pw en b3 g1 g2=>by
    refine Fp (HK ZCQ)
    refine .inr (.inr ⟨Z2,by rw[en],.inr ⟨n1,n2,pw,⟨b3.perm,b3.kind,b3.failed,?_⟩,Z2,Z2,en,g1,g2⟩⟩)
    show ((Z5P).modify ((Z5P).size-1) λ x=>(x.fst,x.2.fst,pw)).push (n1,n2,0)=_
    rw[b3.pend]
    rfl
   by_cases hlt:m<mr
   ·rw[Fl hlt]
    refine Z0y
    refine Fp (wpS_binarySort (n:=min (a₀.size-n1) mr) C D Z2 Z2 hB2 hs2 λ st3 hB3 hs3 ho3=>?_)
    simp only[Ho,Fx,Gi]
    refine Z2K
    have hb:(Z5P).back? = some (0,n1,0):=by rw[hB3.pend];rfl
    rw[hb]
    dsimp only
    refine Fp (Hg (Gv (I:=λ _ c st''=>st''=st3/\c=(none,())) (Q:=λ c st''=>st''=st3/\c=(none,())) ?_ ZLl Z0a) ?_)
    ·rintro x c st'' _ _ ⟨rfl,rfl⟩
     refine Z2K
     rw[hB3.pend]
     exact Fz Z0a
    ·rintro c st'' ⟨rfl,rfl⟩
     exact last _ _ _ Z2 hB3 (keep _ λ k hk=>(ho3 k ZGt).trans ZUn) hs3
   ·rw[Fj hlt]
    refine Z2K
    have hb:(ZNV).back? = some (0,n1,0):=by rw[hB2.pend];rfl
    rw[hb]
    dsimp only
    refine Fp (Hg (Gv (I:=λ _ c st''=>st''=st2/\c=(none,())) (Q:=λ c st''=>st''=st2/\c=(none,())) ?_ ZLl Z0a) ?_)
    ·rintro x c st'' _ _ ⟨rfl,rfl⟩
     refine Z2K
     rw[hB2.pend]
     exact Fz Z0a
    ·rintro c st'' ⟨rfl,rfl⟩
     exact last _ _ _ Z2 hB2 (keep _ λ k hk=>ZUn) hs2
  ·dsimp only
   rw[Fl Z9]
   exact Fz ZPk
 case post=>
  rintro c st' ⟨rfl,hD⟩
  dsimp only
  refine Fp (Hg (Gv (I:=λ x c st''=>c=(none,())/\((∃ pw,SB a₀ κ #[(0,a₀.size,pw)] st''/\Seg rk ZQt 0 a₀.size)\/(x=0/\Two rk κ a₀ st'')))
   (Q:=λ c st''=>c=(none,())/\∃ pw,SB a₀ κ #[(0,a₀.size,pw)] st''/\Seg rk ZQt 0 a₀.size) ?_ ?_ ⟨rfl,.inr ZPk⟩) ?_)
  ·rintro x c st'' _ _ ⟨rfl,h⟩
   refine Z2K
   rcases h with ⟨pw,b,g⟩|⟨rfl,⟨pw,b,g⟩|⟨n1,n2,pw,b,k1,k2,k3,g1,g2⟩⟩
   ·rw[Fl (by rw[b.pend];exact ZO5)]
    exact Fz ZBB
   ·rw[Fl (by rw[b.pend];exact ZO5)]
    exact Fz ZBB
   ·rw[b.pend]
    refine bT (λ z=>absurd (show 2<=1 from z) Z3) λ _=>?_
    refine Fp (mR C D b k1 k2 k3 g1 g2 λ st3 b3 g3=>?_)
    rw[k3] at b3
    exact Fz ⟨rfl,.inl ⟨pw,b3,g3⟩⟩
  ·rintro c st'' ⟨rfl,h⟩
   rcases h with ⟨pw,b,g⟩|⟨e,_⟩
   ·exact ZBB
   ·lia
  ·rintro c st'' ⟨rfl,pw,b,g⟩
   exact Fz (h _ b.perm b.failed g)
end
open PySem PyProof.Rows PySem.W
def Tri (h:Heap) (v:Value) (x y z:Int):Prop:=∃ b o n t1 t2 t3,v=.ref b/\h.get? b=some o/\o.cls=.type "tuple" /\ o.data=.seq #[.int x t1,.int y t2,.int z t3] n/\0<=y/\y<1000/\0<=z/\z<1000
noncomputable def dy (x y z:Int):Int:=x*1000000+y*1000+z
noncomputable def cR (h:Heap) (v:Value):Int:=match v with
 | .ref b=>match h.get? b with
  | some o=>match o.data with
   | .seq xs _=>match xs.toList with
    | [.int x _,.int y _,.int z _]=>dy x y z
    | _=>0
   | _=>0
  | none=>0
 | _=>0
theorem Tri.rk (t:ZEt):cR h v=dy x y z:=by
 obtain⟨b,o,n,j,q,F,rfl,e,_,d,_⟩:=t
 unfold cR
 simp only[e,d]
theorem Tri.keeps (k:∀ b o,o.cls=.type "tuple" -> h.get? b=some o->h'.get? b=some o) (t:ZEt):Tri h' v x y z:=by
 obtain⟨b,o,n,j,q,F,rfl,e,c,r⟩:=t
 exact⟨b,o,n,j,q,F,rfl,k b o c e,c,r⟩
section
variable {prog:Program}{w:World}{A:Around}{E:Value->Shared->Prop}{s:Shared}
theorem lt3 (t:Z4I) (t':ZG7) (h:Q (decide (dy x y z<dy x' y' z')) s):wpAny ZE A (keyLt' ZAl v u) Q E s:=by
 obtain⟨b,o,n,M,O,U,rfl,e,c,d,Z,q2,q3,q4⟩:=t
 obtain⟨V,o',Y,j,q,F,rfl,L,W,J,r1,r2,r3,r4⟩:=t'
 unfold dy at h
 refine ZJL
 show KatLex prog w A true false Q [(.int x M,.int x' j),(.int y O,.int y' q),(.int z U,.int z' F)] 0 s
 refine J9 (Ha ?_)
 by_cases h1:x=x'
 ·subst h1
  rw[show (x == x)=true by simp]
  refine Z7h
  by_cases h2:y=y'
  ·subst h2
   rw[show (y == y)=true by simp]
   refine Z7h
   by_cases G:z=z'
   ·subst G
    rw[show (z == z)=true by simp]
    refine ZLP
    rwa [show decide (x*1000000+y*1000+z<x*1000000+y*1000+z)=false by simp] at h
   ·rw[show (z == z')=false by simpa using G]
    refine ZAB
    show Q _ s
    rwa [show decide (x*1000000+y*1000+z<x*1000000+y*1000+z')=decide (z<z') by rw[Hr];lia] at h
  ·rw[show (y == y')=false by simpa using h2]
   refine ZAB
   show Q _ s
   rwa [show decide (x*1000000+y*1000+z<x*1000000+y'*1000+z')=decide (y<y') by rw[Hr];lia] at h
 ·rw[show (x == x')=false by simpa using h1]
  refine kat_no (oneLt_int ?_)
  rwa [show decide (x*1000000+y*1000+z<x'*1000000+y'*1000+z')=decide (x<x') by rw[Hr];lia] at h
theorem rm:∀ {vs:List Value},(∀ v∈vs,∃ x y z,ZEt)->∃ fs,KatTups h vs fs/\fs.length=vs.length/\∀ f∈fs,∃ x t,f=Value.int x t
 | [],_=>⟨[],.nil,rfl,λ _ h=>by cases h⟩
 | v::vs,t=>by
  obtain⟨fs,k,l,a⟩:=rm λ v q=>t v ZP9
  obtain⟨x,y,z,b,o,n,F,G,J,rfl,e,c,d,_⟩:=t v Fn
  refine⟨.int x F::fs,.cons e c d rfl k,by rw[FV,FV,l],λ f j=>?_⟩
  rcases Fi.mp j with rfl|j
  ·exact⟨_,_,rfl⟩
  ·exact a f j
theorem CK {vs:Zr}{Q:SortKind->Shared->Prop}(h2:0<vs.length) (t:∀ v∈vs,∃ x y z,Z4I) (h:Q ZAl s):wpAny ZE A ZGf Q E s:=by
 obtain⟨fs,k,l,a⟩:=rm t
 refine kat_kind (T:=Z96) k Z2 (λ v j=>?_) rfl h
 obtain⟨x,t,rfl⟩:=a v j
 exact Looks.of_pure rfl
theorem c9 (vs):(Z39).toList=vs.zip vs:=by
 unfold pairsOf;simp
theorem iX (f:Value->Int) (vs:Zr):(vs.zip vs).map (λ p:Keyed=>f p.1)=vs.map f:=by
 induction vs with
 | nil=>rfl
 | cons v vs j=>simp only[J4,FL,j]
theorem iQ {vs:Zr}{p:Keyed}(h:p∈vs.zip vs):p.1=p.2/\p.1∈vs:=by
 induction vs with
 | nil=>cases h
 | cons v vs j=>
  rw[J4] at h
  rcases Fi.mp h with rfl|h
  ·exact⟨rfl,Fn⟩
  ·exact⟨(j h).1,Fo _ (j h).2⟩
theorem jz {a:Addr}{vs:Zr}{n:Nat}{P:PySem.Fin->Shared->Prop}(ho:s.heap.get? a=some ZBn) (t:∀ v∈vs,∃ x y z,Z4I) (hd:ZDH) (h128:vs.length<128)
  (h:∀ out:Array Value,out.toList.Perm vs->out.toList.Pairwise (λ u v=>cR s.heap u<cR s.heap v)->P ZSz { s with heap:=ZBx}) :
  wpAny ZE A (Builtin.«list.sort» ⟨ZLC,[]⟩) P E s:=by
 rw[list_sort_plain]
 have ha:a<s.heap.objs.size:=Z7m
 refine ZCR
 refine E8 (IZ ho rfl ?_ (by rw[FD,GG];lia) Z5N)
 obtain⟨e1,ho1⟩:∃ e1,(s.heap.update a (Obj.mapSeq λ _=>#[])).get? a=some (seqObj "list" #[] e1):=⟨_,get?_update_seq ho (λ _=>#[])⟩
 refine ZIo
 refine E8 (Kt ?_ (by show vs.length<=_;rw[GG];lia))
 refine ZMo
 refine ZS3
 have ho6:(((s.heap.update a (Obj.mapSeq λ _=>#[])).push Z0M).push (seqObj "list" #[] 0)).get? a=some (seqObj "list" #[] e1):=by
  rw[Heap.get?_push_ne _ _ _ (by rw[size_push',Heap.size_update];exact ZTh),Heap.get?_push_ne _ _ _ (by rw[Heap.size_update];exact Fu ha)]
  exact ho1
 have kp:∀ b o,o.cls=.type "tuple" -> s.heap.get? b=some o->(((s.heap.update a (Obj.mapSeq λ _=>#[])).push Z0M).push (seqObj "list" #[] 0)).get? b=some o:=λ b o c e=>by
  have hb:b≠a:=λ z=>by rw[z,ho] at e;cases e;exact absurd (show Value.type "list" = Value.type "tuple" from c) Z3
  exact Z23
 show wpAny ZE A _ P E { s with heap:=((s.heap.update a (Obj.mapSeq λ _=>#[])).push Z0M).push (seqObj "list" #[] 0) }
 dsimp only
 have hsz:vs.toArray.size=vs.length:=Zq
 by_cases h2:vs.toArray.size<2
 ·rw[ZRw,ZRw]
  refine Z7E
  rw[StateT.run_pure]
  refine Z7E
  dsimp only
  refine Z63
  refine E8 (IZ ho6 rfl ?_ Z5N (hsz2:=by rw[HS];show (Z39).size<=_;rw[Ik,GG];lia))
  simp only[IK,Fx,Gi]
  have e:((arrOf (SortSt.mk' general' Z0d #[] 7 none)).map (·.2))=vs.toArray:=by
   show (Z0d).map (·.2)=_
   apply Kj.mp
   rw[Im]
   simp
   exact ZVR
  refine Z5t
  show P _ { s with heap:=sortedHeap s.heap a vs ((arrOf (SortSt.mk' general' Z0d #[] 7 none)).map (·.2)) }
  rw[e]
  refine ZHb
  match vs,hsz,h2 with
  | [],_,_=>exact .nil
  | [_],_,_=>exact ZQO
  | _::_::_,_,h2=>exact ZQF
 ·rw[ZRy,ZRy]
  have t6:∀ v∈vs,∃ x y z,Tri (((s.heap.update a (Obj.mapSeq λ _=>#[])).push Z0M).push (seqObj "list" #[] 0)) v x y z:=λ v hv=>let ⟨x,y,z,q⟩:=ZUO;⟨x,y,z,ZJH⟩
  have mem0:∀ p∈(pairsOf vs).toList,p.1=p.2/\p.1∈vs:=λ p hp=>by rw[c9] at hp;exact iQ hp
  refine E8 (CK Z2 t6 ?_)
  refine E8 (Ga (ie (rk:=λ p=>ZNk) (κ:=ZAl) (a₀:=Z39) (st:=SortSt.mk' ZAl Z0d #[] 7 none)
   (Q:=λ _ st'=>(Z2J).Perm (Z39)/\failedOf st'=none/\Seg (λ p=>ZNk) Z2J 0 (Z39).size)
   ZDF ?_ Z8u (by rw[Ik];lia) (by rw[Ik];exact h128) λ st' a1 a2 a3=>ZMH) ?_ λ _ _ e=>e)
  ·obtain⟨x1,x2,x3,tx⟩:=ZHW
   obtain⟨y1,y2,y3,ty⟩:=ZHV
   refine lt3 (tx.keeps kp) (ty.keeps kp) ?_
   have q':Q' (decide (cR s.heap x.1<cR s.heap y.1)) _:=q
   rw[tx.rk,ty.rk] at q'
   exact q'
  ·rw[c9,iX (cR s.heap)];exact hd
  ·rintro⟨⟨⟩,st'⟩ s' ⟨rfl,hp,hf,hs⟩
   dsimp only
   have hpl:=ZX5
   refine Z63
   refine E8 (IZ ho6 rfl ?_ Z5N (hsz2:=by refine FC (Il ((HS ..).trans ZDp)) ?_;rw[GG];lia))
   rw[hf]
   simp only[IK,Fx,Gi]
   refine Z5t
   show P _ { s with heap:=sortedHeap s.heap a vs ((Z2J).map (·.2)) }
   refine ZUs
   ·rw[Im]
    refine ZHG
    rw[c9,ZVR]
   ·rw[Im,Gy]
    have z:(Z2J).size=(Z39).size:=hp.size_eq
    rw[<- z] at hs
    refine(mY hs).imp_of_mem λ{p q} hp' hq' lt=>?_
    rw[<- (ZC3).1,<- (ZC2).1]
    exact lt
theorem vZ {Q:PySem.Fin->Shared->Prop}{vs:Zr}(t:∀ v∈vs,∃ x y z,Z4I) (hd:ZDH) (h128:vs.length<128)
  (h:∀ (out:Array Value) h' c,(∀ b o,s.heap.get? b=some o->h'.get? b=some o)->h'.get? s.heap.objs.size=some { cls:=ZO,dict:=none,data:=Z8A,slots:=#[] }->out.toList.Perm vs->out.toList.Pairwise (λ u v=>cR s.heap u<cR s.heap v) ->
   Q ZAi { s with heap:=h' }) :
  wpAny ZE A (do let l <- newList vs;let _ <- holding [l] Z3c;ret l) Q E s:=by
 refine E8 (Iy ?_ (by rw[GG];lia))
 have hoL:(Zd).get? s.heap.objs.size=some ZBo:=ZH
 have kp:∀ b o,o.cls=.type "tuple" -> s.heap.get? b=some o->(Zd).get? b=some o:=λ b o _ e=>ZG
 have ers:∀ v∈vs,cR Zd v=cR s.heap v:=λ v hv=>by
  obtain⟨x,y,z,q⟩:=ZUO
  rw[(ZJH).rk,q.rk]
 refine E8 (F1 (Gj slot_list_sort ZBw entry_list_sort (jz hoL (λ v hv=>let ⟨x,y,z,q⟩:=ZUO;⟨x,y,z,ZJH⟩) ?_ h128 λ out a1 a2=>Z3T) ZJ2))
 ·show (vs.map (cR Zd)).Nodup
  rw[FY ers];exact hd
 ·obtain⟨e,he⟩:=ZBW
  refine Z89
  ·have lt:=Z3Z
   show (Z8L).get? b=some o
   rw[sortedHeap_old ZSr (by rw[Heap.size_push];exact ZVW)]
   exact Zz
  ·refine a2.imp_of_mem λ{p q} hp hq lt=>?_
   rw[<- ers p ZJ4,<- ers q ZJ3];exact lt
theorem kM {Q:Value->Shared->Prop}{x:Value}
  (hc:wpAny ZE A.in1 ZIE (λ vs s1=>(∀ v∈vs,∃ x y z,Tri s1.heap v x y z)/\(vs.map (cR s1.heap)).Nodup/\vs.length<128 /\
   ∀ (out:Array Value) h' c,(∀ b o,s1.heap.get? b=some o->h'.get? b=some o)->h'.get? s1.heap.objs.size=some { cls:=ZO,dict:=none,data:=Z8A,slots:=#[] }->out.toList.Perm vs->out.toList.Pairwise (λ u v=>cR s1.heap u<cR s1.heap v) ->
    Q Z6a { s1 with heap:=h' }) E s) :
  wpAny ZE A ZDr Q E s:=by
 refine Z2Y
 unfold Builtin.«sorted»
 refine Z3_
 refine Z2o
 obtain⟨t,hd,h128,fin⟩:=h1
 exact vZ t hd h128 λ out h' c a b d e=>ZA9
end
end Tim
namespace L2
open PySem PySem.Spec PyProof.Rows
noncomputable def rk3 (H:Hp) (v:V):Int:=match v with
 | .ref b=>match H b with
  | some (.tup [.int x,.int y,.int z])=>Tim.dy x y z
  | _=>0
 | _=>0
def Nm (H:Hp) (v:V):Prop:=∃ b x y z,v=.ref b/\H b=some Z2c/\0<=y/\y<1000/\0<=z/\z<1000
section
variable {X:Cx}
theorem nD (L:Z12) (e:H b=some Z2c) (q:0<=y/\y<1000/\0<=z/\z<1000):Tim.Tri h Za x y z:=by
 obtain⟨_,J,r,o,G,j,n,F⟩:=L b _ e
 cases r with
 | cons M r=>
 cases r with
 | cons O r=>
 cases r with
 | cons U r=>
 cases r
 obtain⟨V,rfl⟩:=M
 obtain⟨W,rfl⟩:=O
 obtain⟨Y,rfl⟩:=U
 exact⟨b,o,n,V,W,Y,rfl,G,j,F,q.1,q.2.1,q.2.2.1,q.2.2.2⟩
theorem mq (v:ZJW):(∀ v∈j,∃ b,v=.ref b)->∃ bs:List Addr,j=bs.map V.ref/\its=bs.map Value.ref:=by
 induction v with
 | nil=>exact λ _=>⟨[],rfl,rfl⟩
 | cons r _ G=>
  intro n
  obtain⟨bs,q,z⟩:=G λ v F=>n v ZPA
  obtain⟨b,rfl⟩:=n _ Fn
  cases r
  exact⟨b::bs,by rw[q];rfl,by rw[z];rfl⟩
theorem wJ (h:∀ v∈j,Nm H v) (v:ZJW):∃ bs:List Addr,j=bs.map V.ref/\its=bs.map Value.ref:=mq v λ v q=>let ⟨b,_,_,_,e,_⟩:=h v q;⟨b,e⟩
theorem jn (h:out.Perm Z1a):∃ j:List Addr,out=j.map Value.ref/\j.Perm bs:=by
 refine⟨out.map λ v=>match v with | .ref a=>a|_=>0,?_,?_⟩
 ·rw[F9]
  symm
  refine(FY λ v q=>?_).trans ZM3
  obtain⟨b,_,rfl⟩:=Fw.mp (h.mem_iff.mp q)
  rfl
 ·refine(h.map _).trans ?_
  rw[F9]
  exact .of_eq ((FY λ _ _=>rfl).trans ZM3)
theorem gR:∀ (bs:List Addr),Vals ZDt Z1a
 | []=>.nil
 | _::bs=>.cons rfl (gR bs)
inductive pC (K:PySem.W.Frag) (xs:List V) (H:Hp) (Q:VK):Prop
 | mk:∀ p ls,xs=[.ref p]->SqL K H p ls->ls.length<128->(∀ v∈ls,Nm H v)->(ls.map (rk3 H)).Nodup->(∀ l ls',H l=none->ls'.Perm ls->ls'.Pairwise (λ u v=>rk3 H u<rk3 H v)->Q Zv Z8R)->pC K xs H Q
theorem j4 {K:PySem.W.Frag}(hK:X.K=K:=by rfl):cN X Z14 (pC K):=by
 subst hK
 intro pins s σ H xs us Q I r h
 obtain⟨p,ls,rfl,hq,M,nm,nd,q⟩:=h
 obtain⟨u,rfl,rx⟩:=Z4g
 cases rx
 obtain⟨a2,r',pl,hz⟩:=ZCO
 obtain⟨J,rfl,rfl⟩:=wJ nm r'
 have Z:∀ b o,s.heap.get? b=some o->((s.heap.push (seqObj "list" #[] 0)).update s.heap.objs.size (Obj.mapSeq (· ++ (Z5h).toArray))).get? b=some o:=λ b o e=>
  (Z46).trans ZG
 have U:Inv X pins σ H { s with heap:=(s.heap.push (seqObj "list" #[] 0)).update s.heap.objs.size (Obj.mapSeq (· ++ (Z5h).toArray)) }:=I.kept (t':=s.toks) Z
 have j:∀ b∈J,Tim.cR ((s.heap.push (seqObj "list" #[] 0)).update s.heap.objs.size (Obj.mapSeq (· ++ (Z5h).toArray))) (Za)=rk3 H (Za)/\∃ x y z,Tim.Tri ((s.heap.push (seqObj "list" #[] 0)).update s.heap.objs.size (Obj.mapSeq (· ++ (Z5h).toArray))) Za x y z:=λ b G=>by
  obtain⟨b',x,y,z,e,L,qq⟩:=ZRF
  cases e
  have T:=nD U.hok L qq
  exact⟨by rw[T.rk];unfold rk3;simp only[L],x,y,z,T⟩
 refine Tim.kM (collect_list pl.isList ⟨λ v hv=>?_,?_,by simpa using M,λ a1 h' c Y e pm so=>?_⟩ (by rw[GG];simp at M ⊢;lia))
 ·obtain⟨b,G,rfl⟩:=ZOI
  exact(ZUh).2
 ·rw[F9] at nd ⊢
  exact(FY (f:=Tim.cR ((s.heap.push (seqObj "list" #[] 0)).update s.heap.objs.size (Obj.mapSeq (· ++ (Z5h).toArray))) ∘ Value.ref) (g:=rk3 H ∘ V.ref) λ b G=>(ZUh).1) ▸ nd
 ·obtain⟨O,L,F⟩:=jn pm
  have W:(ZHm).length<=sizeLine:=by
   rw[Fe,F.length_eq];simpa using hz
  refine⟨ZIp,_,U.laid (t':=s.toks) Y Z9 (show bP X.prog X.w _ h' _ (.lst ZHm) from ⟨W,a1.toList,c,by rw[L];exact gR O,by rw[e]⟩),rfl,q _ ZHm U.fresh ZW5 ?_⟩
  rw[L,Gy] at so
  rw[Gy]
  refine so.imp_of_mem λ{b c} G hc lt=>?_
  rw[<- (ZH0).1,<- (j c (F.mem_iff.mp hc)).1];exact lt
end
end L2
namespace Tim
open PySem PyProof.Rows PySem.W
theorem Walks.xi (U:A.handled=none) (it d) (L:d≠it) (M:od.data=.dict es ep) :
  Walks prog w A it [it,d] [it] es.size (λ i v=>∃ e,es[i]? = some e/\v=e.key) (λ i h=>h.IsKeyIter it d i es.size ep/\h.get? d=some od) where
 sub:=λ b j=>by simp at j;simp[j]
 frame:=λ _ _ _ st O=>⟨st.1.at λ o e=>O it ZA o e,O d Zq _ st.2⟩
 item:=λ i s Q E hi st q=>by
  refine kL st.1 st.2 M hi λ h' F G=>?_
  exact q _ h' s.toks ⟨_,FO hi,rfl⟩ ⟨F,(G.2 d L).trans st.2⟩ λ b o j e=>(G.2 b (λ z=>j (by simp[z]))).trans e
 done:=λ s Q E st q=>mK U st.1 st.2 M Z9 λ h' J=>q h' s.toks λ b o j e=>J b o (λ z=>j (by simp[z])) e
 self:=λ _ _ _ _ st q=>ZVQ
section
variable {prog:Program}{w:World}{A:Around}{E:Value->Shared->Prop}{s:Shared}
theorem qF (M:A.units<cLine) (t:Z4I) (t':ZG7) (h:Q (.bool (decide (dy x y z<dy x' y' z'))) s):wpAny ZE A (richCompare .Lt v u) Q E s:=by
 obtain⟨b,o,n,t1,t2,t3,rfl,e,c,d,Y,Z,q3,q4⟩:=t
 obtain⟨J,o',W,O,U,V,rfl,j,q,L,r1,r2,r3,r4⟩:=t'
 unfold dy at h
 refine wpAny_richCompare_same_room (op:=.Lt) ZR5 ZPm F.slot_tuple_lt (Gj F.slot_tuple_lt ZR5 F.entry_tuple_lt ?_ (F.args_tuple_lt_2 _ _)) M
 show wpAny _ _ (isInstance ZJ7 Z0U >>= _) _ _ s
 refine E8 (G9 (T:="tuple") ZPm isSubtype_tuple_tuple ?_)
 simp only[Ho,Fx,Gi]
 refine E8 (wpAny_tupleItemsOf e d ?_)
 refine E8 (wpAny_tupleItemsOf j L ?_)
 refine Z4a
 simp only[J4,List.zip_nil_right,IA,List.forIn_nil]
 refine ZCS
 by_cases h1:x=x'
 ·subst h1
  rw[show (x == x)=true by simp]
  simp only[Ho,Fx,Gi]
  refine Z5t
  dsimp only
  refine ZCS
  by_cases h2:y=y'
  ·subst h2
   rw[show (y == y)=true by simp]
   simp only[Ho,Fx,Gi]
   refine Z5t
   dsimp only
   refine ZCS
   by_cases G:z=z'
   ·subst G
    rw[show (z == z)=true by simp]
    simp only[Ho,Fx,Gi]
    refine Z5t
    dsimp only
    refine Z5t
    dsimp only
    refine Fb ⟨_,rfl,(λ z=>nomatch z),?_⟩
    rwa [show decide (x*1000000+y*1000+z<x*1000000+y*1000+z)=false by simp] at h
   ·rw[show (z == z')=false by simpa using G]
    simp only[IQ,HB]
    refine Z47
    dsimp only
    repeat' (refine Z5t;try dsimp only)
    refine⟨_,rfl,(λ z=>nomatch z),?_⟩
    rwa [show decide (x*1000000+y*1000+z<x*1000000+y*1000+z')=decide (z<z') by rw[Hr];lia] at h
  ·rw[show (y == y')=false by simpa using h2]
   simp only[IQ,HB]
   refine Z47
   dsimp only
   repeat' (refine Z5t;try dsimp only)
   refine⟨_,rfl,(λ z=>nomatch z),?_⟩
   rwa [show decide (x*1000000+y*1000+z<x*1000000+y'*1000+z')=decide (y<y') by rw[Hr];lia] at h
 ·rw[show (x == x')=false by simpa using h1]
  simp only[IQ,HB]
  refine Z47
  dsimp only
  repeat' (refine Z5t;try dsimp only)
  refine⟨_,rfl,(λ z=>nomatch z),?_⟩
  rwa [show decide (x*1000000+y*1000+z<x'*1000000+y'*1000+z')=decide (x<x') by rw[Hr];lia] at h
end
def Low (val:Nat->Int) (j m:Nat):Prop:=m<j/\∀ i,i<j->val m<=val i
section
variable {prog:Program}{w:World}{A:Around}{R:Result->Shared->Prop}{it S:Addr}{fp wr:List Addr}{n:Nat}{Pi:Nat->Value->Prop}{St:Nat->Heap->Prop}{x y z:Nat->Int}{bs:Nat->Addr}
theorem sj (W:Z1r) (hv:∀ i v,Pi i v->v=.ref (bs i)) (out:S∉fp) (hu:A.in1.units<cLine) (hb:∀ i,i<n->bs i∉wr/\bs i≠S) :
  ∀ (left j:Nat) (s:Shared) (m:Nat) (c:Nat),left=n-j->0<j->j<=n->St j s.heap->Low Z1f j m->(∀ i,i<n->Tri s.heap ZFP (x i) (y i) (z i)) ->
   s.heap.get? S=some { cls:=ZO,dict:=none,data:=.seq #[ZSG,ZSG] c,slots:=#[] } ->
   (∀ m' h' tk,Low Z1f n m'->(∀ b o,b∉wr->b≠S->s.heap.get? b=some o->h'.get? b=some o)->R (.ok (.ret (.ref (bs m')))) { s with heap:=h',toks:=tk }) ->
   codeAny ZE A Z9Q R s:=by
 have O:S∉wr:=λ z=>Z7W
 have nm:(toString "min" ++ toString ".loop" :ZD2) = "min.loop":=Z3
 intro left
 induction left with
 | zero=>
  intro j s m c hl h0 hj Y tp ht hS J
  obtain rfl:j=n:=Z2
  refine Z7C
  rw[Z32]
  refine Z3F
  refine E8 (Ht (W.done s _ _ Y λ h' tk Z=>?_))
  refine E8 (G6 ZTS rfl ZEO)
  exact J m _ tk tp λ b o nb nS e=>ZEc
 | succ left ih=>
  intro j s m c hl h0 hj Y tp ht hS J
  have lt:j<n:=Z2
  refine Z7C
  rw[Z32]
  refine Z3F
  refine E8 (Ht (W.item j s _ _ lt Y λ v h' tk pv M Z=>?_))
  have V:=ZTS
  have L:∀ i,i<n->Tri h' ZFP (x i) (y i) (z i):=λ i hi=>by
   obtain⟨b,o,q,t1,t2,t3,e0,e,r⟩:=ht i hi
   cases e0
   exact⟨_,o,q,t1,t2,t3,rfl,Z _ o (hb i hi).1 e,r⟩
  obtain rfl:=ZUl
  refine Z7E
  refine ZKL
  refine qF hu (L j lt) (L m (by have:=tp.1;lia)) ?_
  refine ZLb
  refine ZEO
  by_cases g:dy (x j) (y j) (z j)<dy (x m) (y m) (z m)
  ·have a2:Low Z1f (j+1) j:=⟨Z2,λ i hi=>by
    by_cases e:i=j
    ·subst e;exact Gz _
    ·have:=tp.2 i Z2
     dsimp only at this ⊢
     lia⟩
   rw[Fl (FX g)]
   refine E8 (G6 V rfl ZEP)
   rw[nm]
   refine Fb ⟨Z52,ih (j+1) _ j _ Z2 Z2 lt (W.frame _ _ _ M λ b a3 o e=>?_) a2 ZOd (Heap.get?_update_self _ V rfl) λ m' U G q a1=>?_⟩
   ·exact(Heap.get?_update_other _ _ (λ z:S=b=>out (z ▸ a3))).trans e
   ·obtain⟨b,o,q,t1,t2,t3,e0,e,r⟩:=L i hi
    cases e0
    exact⟨_,o,q,t1,t2,t3,rfl,(Heap.get?_update_other _ _ (Ne.symm (hb i hi).2)).trans e,r⟩
   ·exact J m' U G q λ b o nb nS e=>a1 b o nb nS ZEc
  ·have a2:Low Z1f (j+1) m:=⟨by have:=tp.1;lia,λ i hi=>by
    by_cases e:i=j
    ·subst e
     dsimp only
     lia
    ·exact tp.2 i Z2⟩
   rw[Fj (λ z=>g ZW3)]
   refine ZEP
   rw[nm]
   refine Fb ⟨Z52,ih (j+1) _ m c Z2 Z2 lt M a2 L V λ m' U G q a1=>?_⟩
   exact J m' U G q λ b o nb nS e=>a1 b o nb nS (Z b o nb e)
theorem qu (W:Z1r) (hv:∀ i v,Pi i v->v=.ref (bs i)) (out:S∉fp) (hu:A.in1.units<cLine) (V:∀ i,i<n->bs i∉wr/\bs i≠S) (hn:0<n) (Z:ZRi) (ht:∀ i,i<n->Tri s.heap ZFP (x i) (y i) (z i))
  (hS:s.heap.get? S=some { cls:=ZO,dict:=none,data:=.seq #[] c,slots:=#[] })
  (O:∀ M h' tk,Low Z1f n M->(∀ b o,b∉wr->b≠S->s.heap.get? b=some o->h'.get? b=some o)->R (.ok (.ret (.ref (bs M)))) { s with heap:=h',toks:=tk }) :
  codeAny ZE A Z9Q R s:=by
 have J:S∉wr:=λ z=>Z7W
 have nm:(toString "min" ++ toString ".loop" :ZD2) = "min.loop":=Z3
 refine Z7C
 rw[Z32]
 refine Z3F
 refine E8 (Ht (W.item 0 s _ _ hn Z λ v h' tk pv G kp=>?_))
 have j:=kp S _ J hS
 obtain rfl:=ZUm
 show wpAny _ A.in1 (updateSeq S (λ _=>#[ZSH,ZSH]) >>= _) _ _ _
 refine ZBJ
 rw[nm]
 refine Fb ⟨Z52,sj (x:=x) (y:=y) (z:=z) W hv out hu V _ 1 _ 0 _ rfl Z2 hn (W.frame _ _ _ G λ b Y o e=>?_) ⟨Z2,λ i hi=>?_⟩ ZOd (Heap.get?_update_self _ j rfl) λ M U L q a1=>?_⟩
 ·exact(Heap.get?_update_other _ _ (λ z:S=b=>out (z ▸ Y))).trans e
 ·obtain rfl:i=0:=Z2
  exact ZGL
 ·obtain⟨b,o,q,t1,t2,t3,e0,e,r⟩:=ht i hi
  cases e0
  exact⟨_,o,q,t1,t2,t3,rfl,(Heap.get?_update_other _ _ (Ne.symm (V i hi).2)).trans (kp _ o (V i hi).1 e),r⟩
 ·exact O M U L q λ b o nb nS e=>a1 b o nb nS ((Z0R).trans (kp b o nb e))
end
end Tim
namespace L2
open PySem PySem.Spec PyProof.Rows
section
variable {X:Cx}
inductive v5 (xs:List V) (H:Hp) (Q:VK):Prop
 | mk:∀ b,xs=[ZVn]->Q (.int (if b then 1 else 0)) H->v5 xs H Q
theorem tF:cN X Z96 v5:=by
 intro pins s σ H xs F Q I r h
 obtain⟨b,rfl,q⟩:=h
 obtain⟨u,rfl,j⟩:=Z4g
 cases j
 exact call_int_bool ⟨.int (if b then 1 else 0),H,Z2A,Z1_,q⟩
inductive vV (K:PySem.W.Frag) (Q:VK) (x:V) (H1:Hp):Prop
 | mk:∀ k,y6 K x H1 k->Q (.bl (!k)) H1->vV K Q x H1
def Bh (K:PySem.W.Frag) (ta:TE):TE:=λ σ H Q=>ta σ H λ x H1=>vV K Q x H1
theorem wI {K:PySem.W.Frag}{a:Expr}{ta:TE}{pos:Pos}(J:Z3Y) (G:X.K=K:=by rfl):PE X Z7y (Bh K ta):=by
 subst G
 intro pins s σ H Q I h
 refine UnaryOp_ (thn ZGn λ v O z=>?_)
 obtain⟨x,H1,j,M,k,tv,q⟩:=z
 exact not_of (thn (vy pins O σ H1 x v (λ b H'=>Q (.bl (!b)) H') j M ⟨k,tv,q⟩) λ b U ⟨H2,F,L⟩=>⟨.bl (!b),H2,F,rfl,L⟩)
def yQ (kvs:List (List Key×V)) (ns:List (Int×Int×Int)):Prop:=kvs.map (·.1)=ns.map ZSN
inductive yP (xs:List V) (H:Hp) (Q:VK):Prop
 | mk:∀ a kvs ns,xs=[ZY]->Rd H a Zk->yQ kvs ns->ns≠[]->(∀ n∈ns,0<=n.2.1/\n.2.1<1000/\0<=n.2.2/\n.2.2<1000)->(∀ b n,n∈ns->(∀ m∈ns,Tim.dy n.1 n.2.1 n.2.2<=Tim.dy m.1 m.2.1 m.2.2)->H b=some ZW6->Q Za H)->yP xs H Q
theorem sD (hc:X.calm=true) (hu:X.A.units+1<cLine):cN X ZBS yP:=by
 intro pins s σ H xs us Q I r h
 obtain⟨a,kvs,G,rfl,e,hk,ne,sm,q⟩:=h
 obtain⟨u,rfl,rx⟩:=Z4g
 cases rx
 obtain⟨z,hd,xs,a2,o,es,ep,ho,hx,O,he,a5,hn⟩:=Z5U
 have lx:xs.length=kvs.length:=(Paired.length a2).symm
 have le:es.size=kvs.length:=by rw[<- lx];exact Hj he
 have ln:G.length=kvs.length:=by have:=congrArg List.length hk;simpa using this.symm
 have J:∀ i,i<kvs.length->∃ n b v,G[i]? = some n/\xs[i]? = some (Z1J,b,v)/\H b=some ZW6:=λ i hi=>by
  obtain⟨y,hy,Y,Z,f3⟩:=Paired.pq a2 ZDa
  have hn:G[i]? = some (G[i]'(Z2)):=E9 _
  have k1:(kvs.map (·.1))[i]? = some (kvs[i].1):=by rw[Ff,ZDa];rfl
  have a4:kvs.map (·.1)=G.map ZSN:=hk
  rw[a4,Ff,hn] at k1
  have k2:kvs[i].1=[Sum.inl (G[i]'(Z2)).1,Sum.inl (G[i]'(Z2)).2.1,Sum.inl (G[i]'(Z2)).2.2]:=(Option.some.inj k1).symm
  obtain⟨yk,yb,yv⟩:=y
  refine⟨_,yb,yv,hn,?_,?_⟩
  ·rw[hy]
   have:kvs[i].1=yk:=Y
   rw[<- this,k2]
  ·have a1:H yb=some (.tup (kvs[i].1.map kV)):=Z
   rw[k2] at a1
   exact a1
 have fg:∀ (i:Nat) (n:Int×Int×Int) (b:Addr) (v:Value),G[i]? = some n->xs[i]? = some (Z1J,b,v)->(xs[i]?.map (·.2.1)).getD 0=b/\(G[i]?.map (·.1)).getD 0=n.1/\(G[i]?.map (·.2.1)).getD 0=n.2.1/\(G[i]?.map (·.2.2)).getD 0=n.2.2:=λ i n b v h1 h2=>by
  rw[h1,h2];exact Z0O
 have la:a<s.heap.objs.size:=Z7m
 have nm:(toString "min" ++ toString ".loop" :ZD2) = "min.loop":=Z3
 refine call_function_tree F.kind_min F.plain_min F.entry_min (F.args_min1 _) ?_
 refine E8 (m:=Builtin.Builtins.bindParams "min" Z3C 0 Z8s) (GD (show Builtin.Builtins.bindParams "min" Z3C 0 Z8s=pure [none,none] from rfl) ?_)
 refine Z7E
 refine E8 (ku hd ho hx O ?_)
 refine ZJi
 rw[nm]
 let h1:Heap:=s.heap.push { cls:=ZER,data:=.fields #[ZY,ZBk,Z8j,ZCd] }
 have sz:h1.objs.size=s.heap.objs.size+1:=Heap.size_push ..
 have U:∀ b o,s.heap.get? b=some o->(h1.push { cls:=ZO,data:=.seq #[] 0 }).get? b=some o:=λ b o e=>Z2z
 have a3:∀ i,i<kvs.length->(xs[i]?.map (·.2.1)).getD 0<s.heap.objs.size:=λ i hi=>by
  obtain⟨n,b,v,W,L,M⟩:=J i hi
  rw[(fg i n b v W L).1]
  exact I.hok.lt M
 refine Fb ⟨Z52,Tim.qu (S:=h1.objs.size) (bs:=λ i=>(xs[i]?.map (·.2.1)).getD 0) (x:=λ i=>(G[i]?.map (·.1)).getD 0) (y:=λ i=>(G[i]?.map (·.2.1)).getD 0) (z:=λ i=>(G[i]?.map (·.2.2)).getD 0)
  (Tim.Walks.xi (by simpa using I.ok.hd hc) s.heap.objs.size a (Fu la) O) (λ i v hv=>?_) ?_ (by simpa using hu) (λ i hi=>?_) ?_ ⟨⟨_,Heap.get?_push_of_some _ (Heap.get?_push_size _ rfl),rfl,rfl⟩,U _ _ ho⟩ (λ i hi=>?_) (Heap.get?_push_size _ rfl) λ m h' tk lo kp=>?_⟩
 ·obtain⟨en,W,rfl⟩:=hv
  have hi:i<es.size:=by
   rw[HA] at W;exact W.1
  obtain⟨n,b,v,L,M,_⟩:=J i Z2
  rw[(ZMW).1]
  have V:es.toList[i]? = some en:=by simpa using W
  rw[he,Ff,M] at V
  cases V
  rfl
 ·intro z
  simp only[Fi,Ft,F8] at z
  rw[sz] at z
  rcases z with z|z
  ·exact absurd z (Nat.succ_ne_self _)
  ·rw[<- z] at la;exact absurd la (Nat.not_lt.mpr ZEd)
 ·have:=a3 i Z2
  refine⟨λ z=>?_,?_⟩
  ·simp only[Fi,Ft,F8] at z
   exact Fu this z
  ·rw[sz];exact Fu ZRq
 ·rw[le,<- ln];exact List.length_pos_iff.mpr ne
 ·obtain⟨n,b,v,L,M,V⟩:=J i Z2
  obtain⟨Y,Z,f3,f4⟩:=ZMW
  dsimp only
  rw[Y,Z,f3,f4]
  exact(nD I.hok V (sm n (Fg L))).keeps λ b o _ e=>U b o e
 ·obtain⟨n,b,v,L,M,V⟩:=J m (by have:=lo.1;lia)
  obtain⟨Y,Z,f3,f4⟩:=fg m n b v L M
  dsimp only
  rw[Y]
  refine⟨Za,H,I.kept λ c oc e=>kp c oc ?_ ?_ (U c oc e),rfl,q b n (Fg L) (λ k hk=>?_) V⟩
  ·simp only[Fd];exact Fu ZK
  ·rw[sz];exact Fu (Gx ZK)
  ·obtain⟨j,hj,rfl⟩:=FQ hk
   obtain⟨n',b',v',g2,g3,_⟩:=J j Z2
   obtain⟨_,d2,d3,d4⟩:=fg j n' b' v' g2 g3
   have:=lo.2 j Z2
   dsimp only at this
   rw[Z,f3,f4,d2,d3,d4] at this
   rw[ZJg] at g2
   cases g2
   exact this
end
end L2
namespace Zn
open PySem
section
variable {prog:Program}{w:World}{A:Around}{E:Value->Shared->Prop}{s:Shared}
end
end Zn
namespace L2
open PySem PySem.Spec PyProof.Rows
section
variable {X:Cx}{K:PySem.W.Frag}
end
theorem uv {K:PySem.W.Frag}{W Y:Addr}{xs ys:Z11}{k:Nat}{g:TG}{tc:TT}{te:TE}{σ:St}{H1:Hp}{Q:VK}(a1:xs.length<=1000) (J:xs.length=ys.length)
  (h:∀ acc,H1 acc=none->∃ F:Nat->St->List V->Hp->Prop,F 0 (σ++List.replicate k none) [] Z3h/\(∀ i j zs H2,i<=xs.length->F i j zs H2->SqL K H2 W xs/\SqL K H2 Y ys/\zs.length<=i) /\
   (∀ i x y p j zs H2,i<xs.length->xs[i]? = some x->ys[i]? = some y->H2 p=none->F i j zs H2->g Z00 j (upd H2 p ZB7) λ q Z=>tc q Z λ b O=>if b=true then te q O λ v U=>U acc=some ZGr/\Nx xs.length i (F (i+1) q (zs++[v]) (upd U acc (.lst (zs++[v])))) else Nx xs.length i (F (i+1) q zs O)) /\
   ∀ j zs H2,F xs.length j zs H2->Q Z17 H2):fZ (Itz K W Y) k g tc te σ H1 Q:=by
 intro acc ha
 obtain⟨F,p0,pl,ps,pd⟩:=h acc ha
 refine⟨λ i m j zs H2=>m=xs.length-i/\i<=xs.length/\F i j zs H2,⟨xs.length,Zq,ZH9,p0⟩,?_⟩
 rintro i m j zs H2 ⟨rfl,hi,p⟩
 obtain⟨L,M,ln⟩:=pl i j zs H2 hi p
 by_cases G:i<xs.length
 ·refine .inr ⟨⟨xs,ys,xs[i],ys[i],L,M,by simp[G],by simp[J ▸ G]⟩,GH ln (bE (by lia)),λ v H3 z=>?_⟩
  obtain⟨b,x,y,nb,rfl,rfl,z1,z2⟩:=z
  exact ps i x y b j zs H2 G (z1 xs L) (z2 ys M) nb p
 ·have e:i=xs.length:=Z2
  subst e
  exact .inl ⟨⟨xs,ys,L,M,.inl Z9⟩,pd j zs H2 p⟩
end L2
namespace PySem
section
variable {prog:Program}{w:World}{A:Around}{E:Value->Shared->Prop}{s:Shared}
theorem sE (M:A.handled=none) (I d) (F:d≠I) (es:Z4O) (ep) :
  Walks prog w A I [I,d] [I] es.size (λ i v=>∃ h:i<es.size,v=es[i].key) (λ i h=>h.IsKeyIter I d i es.size ep/\∃ od,h.get? d=some od/\od.data=.dict es ep) where
 sub:=λ b j=>by simp at j;simp[j]
 frame:=λ _ _ _ st J=>⟨st.1.at λ o e=>ZTf,let ⟨od,h1,h2⟩:=st.2;⟨od,J d ZA _ h1,h2⟩⟩
 item:=λ i s Q E hi st q=>by
  obtain⟨it,od,h1,h2⟩:=st
  refine kL it h1 h2 hi λ h' G L=>?_
  exact q _ h' s.toks ⟨hi,rfl⟩ ⟨G,od,by rw[L.2 d F];exact h1,h2⟩ λ b o j e=>by rw[L.2 b (λ z=>j (by simp[z]))];exact e
 done:=λ s Q E st q=>by
  obtain⟨it,od,h1,h2⟩:=st
  exact mK M it h1 h2 Z9 λ h' ex=>q h' s.toks λ b o j e=>ex b o (λ z=>j (by simp[z])) e
 self:=λ _ _ _ _ st q=>ZVQ
theorem k9:isSubtype Z15 (Z15)=pure true:=by rw[Ku];kernel_rfl
theorem keys_eq {es:Z4O}{acc:Z95}(h:ItemsOf (λ i v=>∃ h:i<es.size,v=es[i].key) acc es.size):acc.toList=es.toList.map (·.key):=by
 refine Z5j
 rw[Ff,F2,F2]
 by_cases q:i<acc.size
 ·have j:=FO q
  obtain⟨F,G⟩:=ZUr
  rw[j,FO F,G];rfl
 ·rw[GF Z2,GF (by have:=h.1;lia)];rfl
theorem nT {Q:List Value->Shared->Prop}{a:Addr}{o:Obj}{es:Z4O}{ep:Nat}(hh:A.handled=none) (hd:(a == sysModules)=false) (ho:s.heap.get? a=some o) (hx:o.ExactDict) (G:o.data=.dict es ep) (a1:es.size<=sizeLine)
  (h:∀ h' tk,(∀ b o,s.heap.get? b=some o->h'.get? b=some o)->Q (es.toList.map (·.key)) { s with heap:=h',toks:=tk }) :
  wpAny ZE A ZQq Q E s:=by
 have la:a<s.heap.objs.size:=Z7m
 have ne:s.heap.objs.size≠a:=Gp la
 unfold collect
 refine Z8P
 rw[Z6e]
 unfold Builtin.«proto.collect»
 refine ZTm
 refine Z5F
 rw[Z7M]
 unfold Builtin.«list.__iadd__»
 refine E8 (GD (a:=(ZI,ZLC)) rfl ?_)
 dsimp only
 unfold Builtin.List.listExtendWith
 have L:(s.heap.push { cls:=ZO,data:=.seq ([]:Zr).toArray }).get? a=some o:=Heap.get?_push_of_some _ ho
 have T1:Shared.TypeIs { s with heap:=s.heap.push { cls:=ZO,data:=.seq ([]:Zr).toArray } } ZY "dict":=⟨o,L,hx.1⟩
 refine ZOS
 have h1:Builtin.List.listSameRef ZI (ZY)=false:=by simp[Builtin.List.listSameRef,ne]
 have h2:(Value.type "dict" == Value.type "list")=false:=Z3
 have h3:(Value.type "dict" == Value.type "tuple")=false:=Z3
 simp only[h1,h2,h3,Bool.or_false,Fx,Gi]
 refine E8 (ku hd L hx G ?_)
 refine ZAV
 unfold Builtin.List.listLengthHint
 generalize O:({ cls:=.type "dict_keyiterator",data:=.fields #[.ref a,.int 0 0,.int es.size 0,.int ep 0] }:Obj)=V
 have M:((s.heap.push { cls:=ZO,data:=.seq ([]:Zr).toArray }).push V).get? a=some o:=Heap.get?_push_of_some _ L
 have Z:Shared.TypeIs { s with heap:=(s.heap.push { cls:=ZO,data:=.seq ([]:Zr).toArray }).push V } ZY "dict":=⟨o,M,hx.1⟩
 refine E8 (Jd Z F.slot_dict_len.lookup ?_)
 wp_delta
 refine E8 (G9 Z k9 ?_)
 show wpAny _ A.in1 (typeOf Z92 >>= _) _ _ _
 refine E8 (Jf Z Zm)
 rw[ZRx]
 refine ZTn
 have it:((s.heap.push { cls:=ZO,data:=.seq ([]:Zr).toArray }).push V).IsKeyIter (s.heap.push { cls:=ZO,data:=.seq ([]:Zr).toArray }).objs.size a 0 es.size ep:=⟨_,Heap.get?_push_size _ (by rw[<- O];rfl),by rw[<- O],by rw[<- O];rfl⟩
 generalize hH:s.heap.push { cls:=.type "list",data:=.seq ([]:List Value).toArray }=H at it M Z ⊢
 have W:H.objs.size=s.heap.objs.size+1:=by rw[<- hH,Heap.size_push]
 have j:(ZOF).get? s.heap.objs.size=some { cls:=ZO,data:=.seq ([]:Zr).toArray }:=Heap.get?_push_of_some _ (hH ▸ Heap.get?_push_size _ rfl)
 show wpAny _ A.in1 (Builtin.List.listTouch ZI >>= _) _ _ _
 refine Z4a
 show wpAny _ A.in1 (updateSeq s.heap.objs.size (·.push .none) >>= λ _=>updateSeq s.heap.objs.size (·.pop)) _ _ _
 refine ZBJ
 have q:=Heap.get?_update_self (Obj.mapSeq (·.push Value.none)) j rfl
 refine ZRs
 have J:=Heap.get?_update_self (Obj.mapSeq (·.pop)) q rfl
 have U:∀ b o,b≠s.heap.objs.size->(ZOF).get? b=some o->(((ZOF).update s.heap.objs.size (Obj.mapSeq (·.push Value.none))).update s.heap.objs.size (Obj.mapSeq (·.pop))).get? b=some o:=
  λ b o hb e=>ZCp
 have nI:s.heap.objs.size≠H.objs.size:=Z2
 have a3:s.heap.objs.size∉[H.objs.size,a]:=by simp only[Fi,Ft,F8,IW];exact ZR6
 refine Fb ⟨ZEM,codeAny_extend_loopS (sE (A:=A.in1) hh H.objs.size a (Fu (by rw[W];exact Gx la)) es ep).toS a1 _ a3 _ es.size 0 _ _ _ rfl Z5N
  ⟨it.at λ o e=>U _ o ZQz e,o,U _ o Z67 M,G⟩ J ZM5 λ s' a6 c' hm a2 Y=>?_⟩
 obtain⟨h',g',d',a5,a4⟩:=s'
 obtain rfl:g'=s.gens:=hm.gens
 obtain rfl:d'=s.drawn:=hm.drawn
 obtain rfl:a4=s.os:=hm.os
 show wpAny _ A (load s.heap.objs.size >>= _) _ _ _
 refine E8 (wpAny_load a2 Zm)
 rw[keys_eq Y]
 refine h h' a5 λ b o e=>hm.heap b o ?_ (U b o ZAg (Heap.get?_push_of_some _ (hH ▸ Heap.get?_push_of_some _ e)))
 have:=ZK
 simp only[Fi,Ft,F8,IW]
 exact⟨Fu this,Fu (by show b<H.objs.size;rw[W];exact ZRq)⟩
end
end PySem
namespace L2
open PySem PySem.Spec PyProof.Rows
section
variable {X:Cx}
def m8 (H:Hp) (kvs:List (List Key×V)) (bs:Z09):Prop:=bs.length=kvs.length/\∀ (i:Nat) b k v,bs[i]? = some b->kvs[i]? = some (k,v)->H b=some Z16
inductive uB (xs:List V) (H:Hp) (Q:VK):Prop
 | mk:∀ a kvs,xs=[.ref a]->H a=some (.dT kvs)->kvs.length<128->(∀ bs,m8 H kvs bs->(∀ v∈bs.map V.ref,Nm H v)/\((bs.map V.ref).map (rk3 H)).Nodup/\∀ l ls',H l=none->ls'.Perm (bs.map V.ref)->ls'.Pairwise (λ u v=>rk3 H u<rk3 H v)->Q Zv Z8R)->uB xs H Q
theorem ko (U:X.calm=true):cN X Z14 uB:=by
 intro pins s σ H xs us Q I r h
 obtain⟨a,kvs,rfl,ha,O,h⟩:=h
 obtain⟨u,rfl,rx⟩:=Z4g
 cases rx
 obtain⟨z,y,xs,r,o,es,ep,g1,g2,g3,g4,g5⟩:=(show bP X.prog X.w H s.heap a Zk from I.hok a _ ha)
 have hn:es.size=kvs.length:=by rw[Hj g4];exact ZEa
 have hx:xs.length=kvs.length:=ZEa
 have ek:es.toList.map (·.key)=(ZIP).map Value.ref:=by
  refine Z5j
  rw[Ff,Ff,Ff,F2,ZRn]
  cases xs[i]? <;> rfl
 have ks:m8 H kvs (ZIP):=by
  refine⟨by rw[Fe,hx],λ i b k v j hk=>?_⟩
  obtain⟨q,W,q1,q2,q3⟩:∃ q,xs[i]? = some q/\k=q.1/\H q.2.1=some (.tup (k.map kV))/\RelV v q.2.2:=by
   obtain⟨q,W,h⟩:=Paired.pq (i:=i) r hk
   exact⟨q,W,h⟩
  rw[Ff,W] at j
  cases j
  exact q2
 obtain⟨nm,nd,q⟩:=h _ ks
 generalize xs.map (λ q=>q.2.1)=bs at ek ks nm nd q
 have lb:bs.length=kvs.length:=ks.1
 refine Tim.kM (nT (by simpa using I.ok.hd U) y g1 g2 g3 (by rw[hn,GG];lia) λ h1 tk kp=>?_)
 rw[ek]
 have M:Inv X pins σ H { s with heap:=h1,toks:=tk }:=I.kept kp
 have F:∀ b∈bs,Tim.cR h1 (Za)=rk3 H (Za)/\∃ x y z,Tim.Tri h1 Za x y z:=λ b j=>by
  obtain⟨b',x,y,z,e,J,qq⟩:=nm _ (Fq j)
  cases e
  have T:=nD M.hok J qq
  exact⟨by rw[T.rk];unfold rk3;simp only[J],x,y,z,T⟩
 refine⟨λ v hv=>?_,?_,by rw[Fe,lb];exact O,λ a1 h' c Z e pm so=>?_⟩
 ·obtain⟨b,j,rfl⟩:=ZOI
  exact(F b j).2
 ·rw[F9] at nd ⊢
  exact(FY (f:=Tim.cR h1 ∘ Value.ref) (g:=rk3 H ∘ V.ref) λ b j=>(F b j).1) ▸ nd
 ·obtain⟨L,J,G⟩:=jn pm
  have Y:(ZHr).length<=sizeLine:=by
   rw[Fe,G.length_eq,lb,GG];lia
  refine⟨ZIp,_,M.laid (t':=tk) Z Z9 (show bP X.prog X.w _ h' _ (.lst ZHr) from ⟨Y,a1.toList,c,by rw[J];exact gR L,by rw[e]⟩),rfl,q _ ZHr M.fresh (G.map _) ?_⟩
  rw[J,Gy] at so
  rw[Gy]
  refine so.imp_of_mem λ{b c} j U lt=>?_
  rw[<- (F b (G.mem_iff.mp j)).1,<- (F c (G.mem_iff.mp U)).1];exact lt
end
section
variable {X:Cx}
end
section
variable {X:Cx}
end
def Ev (te:TE) (σ:St) (H:Hp) (v:V):Prop:=∀ Q:VK,Q v H->te σ H Q
def Es (ta:TA) (σ:St) (H:Hp) (vs:Z11):Prop:=∀ Q:List V->Hp->Prop,Q vs H->ta σ H Q
section
variable {σ:St}{H:Hp}{x y:V}{vs:List V}{te:TE}{ta:TA}{K:PySem.W.Frag}{C a dx:Addr}{fs:List (Str×V)}{m:Str}
theorem Ev.n (h:σ[i]? = some ZXU):Ev ZCm σ H x:=λ _ q=>⟨_,h,q⟩
theorem Ev.c:Ev (tC x) σ H x:=λ _ q=>q
theorem Ev.f (h:ZOQ) (e:H a=some Z0T) (c:ZS9) (n:b9 K C m) (l:fs.lookup m=some x):Ev (qr K te m) σ H x:=λ _ q=>h _ ⟨a,C,dx,fs,x,rfl,e,c,n,l,q⟩
theorem Es.nil:Es gv σ H []:=λ _ q=>q
theorem Es.cons (h:Ev te σ H x) (k:ZEz):Es (dH te ta) σ H (x::vs):=λ Q q=>h _ (k _ q)
theorem tm (h:ZOQ) (e:H a=some Z0T) (l:fs.lookup m=none) (j:ZEz) (k:sp (.ref a::(vs++[])) H Q E):uF C m sp [] E te ta σ H Q:=h _ ⟨a,dx,fs,rfl,e,l,j _ k⟩
theorem tcl (j:ZEz) (k:sp (vs++[]) H Q E):rz sp [] E ta σ H Q:=j _ k
end
section
variable {prog:Program}{w:World}{A:Around}{E:Value->Shared->Prop}{s:Shared}
end
section
variable {M:Model}{A:Around}{E:Value->Shared->Prop}{s:Shared}{env:Env}
end
section
variable {X:Cx}{K:PySem.W.Frag}
end
section
variable {X:Cx}{K:PySem.W.Frag}
end
end L2
namespace Tim
open PySem PyProof.Rows PySem.W
structure SK (prog:Program) (w:World) (A:Around) (T:Heap->Value->Prop) (rf:Heap->Value->Int) (κ:SortKind):Prop where
 keep:∀ {h h':Heap} {v:Value},(∀ b o,o.cls=.type "tuple" -> h.get? b=some o->h'.get? b=some o)->T h v->T h' v/\rf h' v=rf h v
 kind:∀ {s:Shared} {E:Value->Shared->Prop} {vs:List Value} {Q:SortKind->Shared->Prop},0<vs.length->(∀ v∈vs,ZJY)->Q κ s->wpAny ZE A ZGf Q E s
 lt:∀ {s:Shared} {E:Value->Shared->Prop} {v u:Value} {Q:Bool->Shared->Prop},T s.heap v->T s.heap u->(rf s.heap v=rf s.heap u->v=u)->Q (decide (rf s.heap v<rf s.heap u)) s->wpAny ZE A (keyLt' κ v u) Q E s
theorem wc:∀ {l:List α},(ZEq).Nodup->∀ {a b:α},a∈l->b∈l->f a=f b->a=b
 | [],_,_,_,h,_,_=>by cases h
 | x::l,F,a,b,ha,G,e=>by
  rw[FL,GJ] at F
  rcases Fi.mp ha with j|j<;>rcases Fi.mp G with q|q
  ·rw[j,q]
  ·exact absurd (by rw[<- j,e];exact Fq q) F.1
  ·exact absurd (by rw[<- q,<- e];exact Fq j) F.1
  ·exact wc F.2 j q e
section
variable {prog:Program}{w:World}{A:Around}{E:Value->Shared->Prop}{s:Shared}{T:Heap->Value->Prop}{rf:Heap->Value->Int}{κ:SortKind}
theorem jC (S:SK prog w A T rf κ) {a:Addr}{vs:Zr}{n:Nat}{P:PySem.Fin->Shared->Prop}(ho:s.heap.get? a=some ZBn) (t:∀ v∈vs,ZJY) (hd:ZDG) (h128:vs.length<128)
  (h:∀ out:Array Value,out.toList.Perm vs->out.toList.Pairwise (λ u v=>rf s.heap u<rf s.heap v)->P ZSz { s with heap:=ZBx}) :
  wpAny ZE A (Builtin.«list.sort» ⟨ZLC,[]⟩) P E s:=by
 rw[list_sort_plain]
 have ha:a<s.heap.objs.size:=Z7m
 refine ZCR
 refine E8 (IZ ho rfl ?_ (by rw[FD,GG];omega) Z5N)
 obtain⟨e1,ho1⟩:∃ e1,(s.heap.update a (Obj.mapSeq λ _=>#[])).get? a=some (seqObj "list" #[] e1):=⟨_,get?_update_seq ho (λ _=>#[])⟩
 refine ZIo
 refine E8 (Kt ?_ (by show vs.length<=_;rw[GG];omega))
 refine ZMo
 refine ZS3
 have ho6:(((s.heap.update a (Obj.mapSeq λ _=>#[])).push Z0M).push (seqObj "list" #[] 0)).get? a=some (seqObj "list" #[] e1):=by
  rw[Heap.get?_push_ne _ _ _ (by rw[size_push',Heap.size_update];exact ZTh),Heap.get?_push_ne _ _ _ (by rw[Heap.size_update];exact Fu ha)]
  exact ho1
 have kp:∀ b o,o.cls=.type "tuple" -> s.heap.get? b=some o->(((s.heap.update a (Obj.mapSeq λ _=>#[])).push Z0M).push (seqObj "list" #[] 0)).get? b=some o:=λ b o c e=>by
  have hb:b≠a:=λ z=>by rw[z,ho] at e;cases e;exact absurd (show Value.type "list" = Value.type "tuple" from c) Z3
  exact Z23
 show wpAny ZE A _ P E { s with heap:=((s.heap.update a (Obj.mapSeq λ _=>#[])).push Z0M).push (seqObj "list" #[] 0) }
 dsimp only
 have hsz:vs.toArray.size=vs.length:=Zq
 by_cases h2:vs.toArray.size<2
 ·rw[ZRw,ZRw]
  refine Z7E
  rw[StateT.run_pure]
  refine Z7E
  dsimp only
  refine Z63
  refine E8 (IZ ho6 rfl ?_ Z5N (hsz2:=by rw[HS];show (Z39).size<=_;rw[Ik,GG];omega))
  simp only[IK,Fx,Gi]
  have e:((arrOf (SortSt.mk' general' Z0d #[] 7 none)).map (·.2))=vs.toArray:=by
   show (Z0d).map (·.2)=_
   apply Kj.mp
   rw[Im]
   simp
   exact ZVR
  refine Z5t
  show P _ { s with heap:=sortedHeap s.heap a vs ((arrOf (SortSt.mk' general' Z0d #[] 7 none)).map (·.2)) }
  rw[e]
  refine ZHb
  match vs,hsz,h2 with
  | [],_,_=>exact .nil
  | [_],_,_=>exact ZQO
  | _::_::_,_,h2=>exact ZQF
 ·rw[ZRy,ZRy]
  have t6:∀ v∈vs,T (((s.heap.update a (Obj.mapSeq λ _=>#[])).push Z0M).push (seqObj "list" #[] 0)) v:=λ v hv=>(Z9h).1
  have mem0:∀ p∈(pairsOf vs).toList,p.1=p.2/\p.1∈vs:=λ p hp=>by rw[c9] at hp;exact iQ hp
  refine E8 (S.kind ZV t6 ?_)
  refine E8 (Ga (ie (rk:=λ p=>ZNT) (κ:=κ) (a₀:=Z39) (st:=SortSt.mk' κ Z0d #[] 7 none)
   (Q:=λ _ st'=>(Z2J).Perm (Z39)/\failedOf st'=none/\Seg (λ p=>ZNT) Z2J 0 (Z39).size)
   ZDF ?_ Z8u (by rw[Ik];omega) (by rw[Ik];exact h128) λ st' a1 a2 a3=>ZMH) ?_ λ _ _ e=>e)
  ·have tx:=S.keep kp ZHW
   have ty:=S.keep kp ZHV
   refine S.lt tx.1 ty.1 (λ e=>?_) ?_
   ·rw[tx.2,ty.2] at e
    exact wc hd (mem0 x hx).2 (mem0 y hy).2 e
   ·rw[tx.2,ty.2];exact q
  ·rw[c9,iX (rf s.heap)];exact hd
  ·rintro⟨⟨⟩,st'⟩ s' ⟨rfl,hp,hf,hs⟩
   dsimp only
   have hpl:=ZX5
   refine Z63
   refine E8 (IZ ho6 rfl ?_ Z5N (hsz2:=by refine FC (Il ((HS ..).trans ZDp)) ?_;rw[GG];omega))
   rw[hf]
   simp only[IK,Fx,Gi]
   refine Z5t
   show P _ { s with heap:=sortedHeap s.heap a vs ((Z2J).map (·.2)) }
   refine ZUs
   ·rw[Im]
    refine ZHG
    rw[c9,ZVR]
   ·rw[Im,Gy]
    have z:(Z2J).size=(Z39).size:=hp.size_eq
    rw[<- z] at hs
    refine(mY hs).imp_of_mem λ{p q} hp' hq' lt=>?_
    rw[<- (ZC3).1,<- (ZC2).1]
    exact lt
theorem ur (S:SK prog w A.in1 T rf κ) {Q:PySem.Fin->Shared->Prop}{vs:Zr}(t:∀ v∈vs,ZJY) (hd:ZDG) (h128:vs.length<128)
  (h:∀ (out:Array Value) h' c,(∀ b o,s.heap.get? b=some o->h'.get? b=some o)->h'.get? s.heap.objs.size=some { cls:=ZO,dict:=none,data:=Z8A,slots:=#[] }->out.toList.Perm vs->out.toList.Pairwise (λ u v=>rf s.heap u<rf s.heap v) ->
   Q ZAi { s with heap:=h' }) :
  wpAny ZE A (do let l <- newList vs;let _ <- holding [l] Z3c;ret l) Q E s:=by
 refine E8 (Iy ?_ (by rw[GG];omega))
 have hoL:(Zd).get? s.heap.objs.size=some ZBo:=ZH
 have kp:∀ b o,o.cls=.type "tuple" -> s.heap.get? b=some o->(Zd).get? b=some o:=λ b o _ e=>ZG
 have ers:∀ v∈vs,rf Zd v=rf s.heap v:=λ v hv=>by
  exact(Z9h).2
 refine E8 (F1 (Gj slot_list_sort ZBw entry_list_sort (jC S hoL (λ v hv=>(Z9h).1) ?_ h128 λ out a1 a2=>Z3T) ZJ2))
 ·show (vs.map (rf Zd)).Nodup
  rw[FY ers];exact hd
 ·obtain⟨e,he⟩:=ZBW
  refine Z89
  ·have lt:=Z3Z
   show (Z8L).get? b=some o
   rw[sortedHeap_old ZSr (by rw[Heap.size_push];exact ZVW)]
   exact Zz
  ·refine a2.imp_of_mem λ{p q} hp hq lt=>?_
   rw[<- ers p ZJ4,<- ers q ZJ3];exact lt
theorem pU (S:SK prog w A.in1.in1 T rf κ) {Q:Value->Shared->Prop}{x:Value}
  (hc:wpAny ZE A.in1 ZIE (λ vs s1=>(∀ v∈vs,T s1.heap v)/\(vs.map (rf s1.heap)).Nodup/\vs.length<128 /\
   ∀ (out:Array Value) h' c,(∀ b o,s1.heap.get? b=some o->h'.get? b=some o)->h'.get? s1.heap.objs.size=some { cls:=ZO,dict:=none,data:=Z8A,slots:=#[] }->out.toList.Perm vs->out.toList.Pairwise (λ u v=>rf s1.heap u<rf s1.heap v) ->
    Q Z6a { s1 with heap:=h' }) E s) :
  wpAny ZE A ZDr Q E s:=by
 refine Z2Y
 unfold Builtin.«sorted»
 refine Z3_
 refine Z2o
 obtain⟨t,hd,h128,fin⟩:=h1
 exact ur S t hd h128 λ out h' c a b d e=>ZA9
end
def zr (h:Heap) (v:Value):Prop:=∃ b o n c x y z u p t1 t2,v=.ref b/\h.get? b=some o/\o.cls=.type "tuple" /\ o.data=.seq #[Z6X,.int u t1,.int p t2] n/\Tri h Z6X x y z
noncomputable def rkN (h:Heap) (v:Value):Int:=match v with
 | .ref b=>match h.get? b with
  | some o=>match o.data with
   | .seq xs _=>cR h (xs.getD 0 .none)
   | _=>0
  | none=>0
 | _=>0
theorem qZ:∀ {vs:List Value},(∀ v∈vs,zr h v)->∃ fs,KatTups h vs fs/\fs.length=vs.length/\∀ f∈fs,∃ c x y z,f=Value.ref c/\Tri h Z6X x y z
 | [],_=>⟨[],.nil,rfl,λ _ h=>by cases h⟩
 | v::vs,t=>by
  obtain⟨fs,k,l,a⟩:=qZ λ v q=>t v ZP9
  obtain⟨b,o,n,c,x,y,z,u,p,G,J,rfl,e,cl,d,F⟩:=t v Fn
  refine⟨.ref c::fs,.cons e cl d rfl k,by rw[FV,FV,l],λ f j=>?_⟩
  rcases Fi.mp j with rfl|j
  ·exact⟨_,_,_,_,rfl,F⟩
  ·exact a f j
theorem Tri.key (t:Tri h Z6X x y z):IsTupleKey (intKind prog w) h [x,y,z] c:=by
 obtain⟨b,o,n,j,q,F,e,g,cl,d,_⟩:=t
 cases e
 exact⟨o,_,n,g,cl,d,.cons (by simp[intKind,Value.isInt]) (.cons (by simp[intKind,Value.isInt]) (.cons (by simp[intKind,Value.isInt]) .nil))⟩
theorem skN (hu:A.units<cLine):SK prog w A zr rkN (tuples' false):=by
 refine⟨λ{h h' v} k t=>?_,λ{s E vs Q} h2 t q=>?_,λ{s E v u Q} t t' G q=>?_⟩
 ·obtain⟨b,o,n,c,x,y,z,u,p,O,U,rfl,e,cl,d,F⟩:=t
  have j:=F.keeps k
  refine⟨⟨b,o,n,c,x,y,z,u,p,O,U,rfl,k _ _ cl e,cl,d,j⟩,?_⟩
  unfold rkN
  simp only[e,k _ _ cl e,d]
  exact j.rk.trans F.rk.symm
 ·obtain⟨fs,k,l,a⟩:=qZ t
  refine kat_kind (T:=Z0U) k Z2 (λ v hv=>?_) rfl q
  obtain⟨c,x,y,z,rfl,F⟩:=a v hv
  obtain⟨b,o,n,O,U,t3,e,g,cl,d,_⟩:=F
  cases e
  exact λ A Q E s k q=>Jf ⟨o,k _ _ g,cl⟩ q
 ·obtain⟨b,o,n,c,x,y,z,u1,V,O,U,rfl,e,cl,d,F⟩:=t
  obtain⟨b',o',n',c',x',y',z',a1,W,Y,Z,rfl,L,a2,J,j⟩:=t'
  have r1:rkN s.heap (Za)=dy x y z:=by unfold rkN;simp only[e,d];exact F.rk
  have r2:rkN s.heap (.ref b')=dy x' y' z':=by unfold rkN;simp only[L,J];exact j.rk
  rw[r1,r2] at G q
  refine ZJL
  show KatLex prog w A false false Q [(Z6X,Z84),(.int u1 O,.int a1 Y),(.int V U,.int W Z)] 0 s
  refine J9 (wpAny_eqBool_tuple hu (F.key (prog:=prog) (w:=w)) (j.key (prog:=prog) (w:=w)) ?_)
  by_cases z0:([x,y,z]:ZU)=[x',y',z']
  ·injection z0 with z1 z2
   injection z2 with z2 z3
   injection z3 with z3 _
   subst z1;subst z2;subst z3
   have:=G rfl
   cases this
   rw[e] at L;cases L
   rw[d] at J;cases J
   rw[ZQV]
   refine Z7h
   rw[show (u1 == u1)=true by simp]
   refine Z7h
   rw[show (V == V)=true by simp]
   refine ZLP
   rwa [Gm ZJx] at q
  ·rw[Gm z0]
   refine kat_no (kat_one _ _ ?_)
   show wpAny _ _ (richCompare .Lt _ _) _ _ _
   exact qF hu F j q
end Tim
namespace L2
open PySem PySem.Spec PyProof.Rows
def BrN (H:Hp) (v:V):Prop:=∃ b c x y z u p,v=.ref b/\H b=some ZDJ/\H c=some Z2c/\0<=y/\y<1000/\0<=z/\z<1000
noncomputable def rkB (H:Hp) (v:V):Int:=match v with
 | .ref b=>match H b with
  | some (.tup (c::_))=>rk3 H c
  | _=>0
 | _=>0
section
variable {X:Cx}
theorem zu (L:Z12) (e:H b=some ZDJ):∃ o n W j,h.get? b=some o/\o.cls=.type "tuple" /\ o.data=.seq #[Z6X,.int u W,.int p j] n:=by
 obtain⟨_,J,r,o,G,q,n,F⟩:=L b _ e
 cases r with
 | cons O r=>
 cases r with
 | cons U r=>
 cases r with
 | cons V r=>
 cases r
 cases O
 obtain⟨j,rfl⟩:=U
 obtain⟨Y,rfl⟩:=V
 exact⟨o,n,j,Y,G,q,F⟩
theorem uq (h:∀ v∈j,BrN H v) (v:ZJW):∃ bs:List Addr,j=bs.map V.ref/\its=bs.map Value.ref:=mq v λ v q=>let ⟨b,_,_,_,_,_,_,e,_⟩:=h v q;⟨b,e⟩
inductive vk (K:PySem.W.Frag) (xs:List V) (H:Hp) (Q:VK):Prop
 | mk:∀ p ls,xs=[.ref p]->SqL K H p ls->ls.length<128->(∀ v∈ls,BrN H v)->(ls.map (rkB H)).Nodup->(∀ l ls',H l=none->ls'.Perm ls->ls'.Pairwise (λ u v=>rkB H u<rkB H v)->Q Zv Z8R)->vk K xs H Q
theorem pY {K:PySem.W.Frag}(hu:X.A.units+64<cLine) (hK:X.K=K:=by rfl):cN X Z14 (vk K):=by
 subst hK
 intro pins s σ H xs us Q I r h
 obtain⟨p,ls,rfl,hq,L,nm,nd,q⟩:=h
 obtain⟨u,rfl,rx⟩:=Z4g
 cases rx
 obtain⟨a3,r',pl,hz⟩:=ZCO
 obtain⟨bs,rfl,rfl⟩:=uq nm r'
 have a1:∀ b o,s.heap.get? b=some o->((s.heap.push (seqObj "list" #[] 0)).update s.heap.objs.size (Obj.mapSeq (· ++ (Z1a).toArray))).get? b=some o:=λ b o e=>
  (Z46).trans ZG
 have O:Inv X pins σ H { s with heap:=(s.heap.push (seqObj "list" #[] 0)).update s.heap.objs.size (Obj.mapSeq (· ++ (Z1a).toArray)) }:=I.kept (t':=s.toks) a1
 have j:∀ b∈bs,Tim.rkN ((s.heap.push (seqObj "list" #[] 0)).update s.heap.objs.size (Obj.mapSeq (· ++ (Z1a).toArray))) (Za)=rkB H (Za)/\Tim.zr ((s.heap.push (seqObj "list" #[] 0)).update s.heap.objs.size (Obj.mapSeq (· ++ (Z1a).toArray))) (Za):=λ b G=>by
  obtain⟨b',c,x,y,z,u,p,e,J,e3,qq⟩:=ZRF
  cases e
  have T:=nD O.hok e3 qq
  obtain⟨o,n,t1,t2,ho,W,hd⟩:=zu O.hok J
  refine⟨?_,b,o,n,c,x,y,z,u,p,t1,t2,rfl,ho,W,hd,T⟩
  have r1:Tim.rkN ((s.heap.push (seqObj "list" #[] 0)).update s.heap.objs.size (Obj.mapSeq (· ++ (Z1a).toArray))) (Za)=Tim.cR ((s.heap.push (seqObj "list" #[] 0)).update s.heap.objs.size (Obj.mapSeq (· ++ (Z1a).toArray))) (Z6X):=by
   unfold Tim.rkN
   simp only[ho,hd]
   rfl
  rw[r1,T.rk];unfold rkB;simp only[J];unfold rk3;simp only[e3]
 refine Tim.pU (Tim.skN (by show X.A.units+1+1<cLine;omega)) (collect_list pl.isList ⟨λ v hv=>?_,?_,by simpa using L,λ a2 h' c Z e pm so=>?_⟩ (by rw[GG];simp at L ⊢;omega))
 ·obtain⟨b,G,rfl⟩:=ZOI
  exact(ZUh).2
 ·rw[F9] at nd ⊢
  exact(FY (f:=Tim.rkN ((s.heap.push (seqObj "list" #[] 0)).update s.heap.objs.size (Obj.mapSeq (· ++ (Z1a).toArray))) ∘ Value.ref) (g:=rkB H ∘ V.ref) λ b G=>(ZUh).1) ▸ nd
 ·obtain⟨U,J,F⟩:=jn pm
  have Y:(Z6q).length<=sizeLine:=by
   rw[Fe,F.length_eq];simpa using hz
  refine⟨ZIp,_,O.laid (t':=s.toks) Z Z9 (show bP X.prog X.w _ h' _ (.lst Z6q) from ⟨Y,a2.toList,c,by rw[J];exact gR U,by rw[e]⟩),rfl,q _ Z6q O.fresh ZW5 ?_⟩
  rw[J,Gy] at so
  rw[Gy]
  refine so.imp_of_mem λ{b c} G W lt=>?_
  rw[<- (ZH0).1,<- (j c (F.mem_iff.mp W)).1];exact lt
end
end L2
namespace B
open PySem L2
noncomputable def top (i:Nat):Stmt:=PySem.Challenge.pw_backline_k32_what_is_shown.main.body.getD i ZGZ
noncomputable abbrev AL:Stmt:=top 13
noncomputable abbrev DC:Stmt:=inClass (top 15) 0
noncomputable abbrev CW:Stmt:=top 16
noncomputable abbrev AB:Stmt:=inClass ZXS 0
noncomputable abbrev BS:Stmt:=inClass ZXS 1
noncomputable abbrev BJ:Stmt:=inClass (top 34) 0
noncomputable abbrev AG:Stmt:=inClass ZOo 0
noncomputable abbrev C3:Stmt:=inClass ZOo 1
noncomputable abbrev Ag:Stmt:=inClass ZOo 2
noncomputable abbrev D2:Stmt:=inClass Z8D 0
noncomputable abbrev Ec:Stmt:=inClass Z8D 1
noncomputable abbrev Dc:Stmt:=inClass Z8D 5
noncomputable abbrev BH:Stmt:=inClass Z8D 6
noncomputable abbrev DW:Stmt:=inClass Z8D 7
noncomputable abbrev DT:Stmt:=inClass Z8D 8
noncomputable abbrev CU:Stmt:=inClass Z8D 3
noncomputable abbrev Cj:Stmt:=inClass Z8D 4
noncomputable abbrev A9:Stmt:=top 37
noncomputable abbrev B9:Stmt:=top 19
noncomputable abbrev AK:Stmt:=inClass Z3i 14
noncomputable abbrev C8:Stmt:=inClass Z3i 17
noncomputable abbrev DN:Stmt:=inClass Z3i 15
noncomputable abbrev CJ:Stmt:=inClass Z3i 18
noncomputable abbrev DJ:Stmt:=top 38
noncomputable abbrev D6:Stmt:=top 39
noncomputable abbrev sV:Expr:=A4 (inDef ZUN 3)
noncomputable abbrev Bp:Stmt:=inClass Z3i 16
noncomputable abbrev DF:Stmt:=inClass Z3i 1
noncomputable abbrev C0:Stmt:=inClass Z3i 2
noncomputable abbrev CM:Stmt:=inClass Z3i 3
noncomputable abbrev B4:Stmt:=inClass Z3i 4
noncomputable abbrev BD:Stmt:=inClass Z3i 6
noncomputable abbrev Co:Stmt:=inClass Z3i 7
noncomputable abbrev Ep:Stmt:=inClass Z3i 8
noncomputable abbrev Ab:Stmt:=inClass Z3i 0
noncomputable abbrev CQ:Stmt:=top 8
noncomputable abbrev CH:Stmt:=top 9
noncomputable abbrev CN:Stmt:=inClass Z3i 10
noncomputable abbrev DK:Stmt:=top 22
noncomputable abbrev Ek:Stmt:=inClass ZFC 0
noncomputable abbrev DX:Stmt:=inClass ZFC 1
noncomputable abbrev Az:Stmt:=inClass ZFC 2
noncomputable abbrev CC:Stmt:=inClass ZFC 3
noncomputable abbrev CA:Stmt:=inClass ZFC 4
noncomputable abbrev Bj:Stmt:=top 24
noncomputable abbrev Aw:Stmt:=top 25
noncomputable abbrev Bd:Stmt:=top 26
noncomputable abbrev Dd:Stmt:=top 40
noncomputable abbrev Et:Stmt:=top 41
noncomputable abbrev Ae:Stmt:=top 42
noncomputable abbrev AD:Stmt:=ZUN
noncomputable abbrev EJ:Stmt:=top 44
noncomputable abbrev Bn:Stmt:=top 10
noncomputable abbrev Ey:Stmt:=top 11
noncomputable abbrev AX:Stmt:=top 27
noncomputable abbrev B6:Stmt:=top 28
noncomputable abbrev Dw:Stmt:=top 45
noncomputable abbrev BQ:Stmt:=top 46
noncomputable abbrev C1:Stmt:=top 47
noncomputable abbrev D4:Stmt:=top 48
noncomputable abbrev Ap:Stmt:=top 49
noncomputable abbrev Bb:Stmt:=top 50
noncomputable abbrev Bi:Stmt:=top 51
noncomputable abbrev A3:Stmt:=top 52
noncomputable abbrev ye:Stmt:=top 53
theorem EF:bq Z3X Z3X (bp AL):=Z1
theorem Ca:bq Z1c Z1c (bp DC):=Z1
theorem AI:bq ZG5 ZG5 (bp CW):=Z1
theorem Cm:bq Z_ Z_ (bp AB):=Z1
theorem Ar:bq Z_ Z_ (bp BS):=Z1
theorem Dy:bq Z_ Z_ (bp BJ):=Z1
theorem EB:bq Z7c Z7c (bp AG):=Z1
theorem Du:bq Z_ Z_ (bp C3):=Z1
theorem BZ:bq Z_ Z_ (bp Ag):=Z1
theorem DP:bq Z3u Z3u (bp D2):=Z1
theorem Dk:bq Z0i Z0i (bp Ec):=Z1
theorem xU:bq ["self","written"] Z0i (bp Dc):=Z1
theorem CD:bq Z0o Z0o (bp BH):=Z1
theorem BW:bq Z0o Z0o (bp DW):=Z1
theorem Ao:bq Z0o Z0o (bp DT):=Z1
theorem Be:bq Z74 Z74 (bp CU):=Z1
theorem DY:bq Z0i Z0i (bp Cj):=Z1
theorem El:bq Z3w Z3w (bp A9):=Z1
theorem Eh:bq Z3X Z3X (bp B9):=Z1
theorem Ez:bq Z0Q Z0Q (bp AK):=Z1
theorem DB:bq Z4y Z4y (bp C8):=Z1
theorem yz:bq ["self","hand","name","way"] Z1K (bp DN):=Z1
theorem n9:bq ["self","sender","place","letters","k","letter","name","way"] Z3m (bp CJ):=Z1
theorem md:bq ["_law_cell","_law_k","_law_base","_law_rest","_law_j","_law_number"] Z45 (bp DJ):=Z1
theorem mn:bq ["_law_cell","_law_many","_law_hand","_law_state","_law_word","_law_at","_law_entry","_law_letters","_law_k"] Z1I (bp D6):=Z1
theorem vt:kI ["_law_hand","_law_state","_law_word","_law_cell","_law_many"] Z83 Z06 (dr sV):=⟨rfl,rfl,rfl,ZF,rfl,rfl,Z3,ZF,ZF,ZF,ZF⟩
theorem BR:∀ x∈(["_law_cell","_law_many"]:Zo),(bp ZUN).names.lookup x=some .cell:=ZF
theorem rq:bq ["self","hand","name","word","thread","led","event"] Z5D (bp Bp):=Z1
theorem BB:bq Z0Q Z0Q (bp DF):=Z1
theorem An:bq Z1K Z1K (bp C0):=Z1
theorem AN:bq Z0Q Z0Q (bp CM):=Z1
theorem Cu:bq Z0i Z0i (bp B4):=Z1
theorem DL:bq Z0i Z0i (bp BD):=Z1
theorem Ed:bq Z0i Z0i (bp Co):=Z1
theorem Bz:bq Z0i Z0i (bp Ep):=Z1
theorem Ba:bq Z1D Z1D (bp Ab):=Z1
theorem Dt:bq Z7d Z7d (bp CQ):=Z1
theorem BN:bq Z4G Z4G (bp CH):=Z1
theorem Ce:bq Z0Q Z0Q (bp CN):=Z1
theorem oG:bq ["loom","fallen","allowed","hand","here","points"] Z3B (bp DK):=Z1
theorem C7:bq Z3v Z3v (bp Ek):=Z1
theorem EO:bq Z0i Z0i (bp DX):=Z1
theorem uU:bq ["self","name","line"] Z1C (bp Az):=Z1
theorem C2:bq Z1C Z1C (bp CC):=Z1
theorem yI:bq ["self","name","points"] Z1C (bp CA):=Z1
theorem vh:bq ["loom","used","name"] ZNq (bp Bj):=Z1
theorem we:bq ["used","line","hand","names"] ZCB (bp Aw):=Z1
theorem kJ:bq ["loom","fallen","descent","used","paper","sender","name"] Z3B (bp Bd):=Z1
theorem qE:bq ["_law_cell","_law_many","_law_found","_law_k","_law_kind"] Z06 (bp Dd):=Z1
theorem kA:bq ["_law_loom_here","_law_found","_law_sent","_law_ways","_law_name","_law_way","_law_hand"] Z9c (bp Et):=Z1
theorem qL:bq ["_law_loom_here","_law_cell","_law_size","_law_k","_law_deeds_here","_law_deed"] Z2b (bp Ae):=Z1
theorem j0:bq ["_law_script","_law_first","_law_cell","_law_many","_law_does","_law_habits_here","_law_loom_here"] Z4H (bp AD):=Z1
theorem qN:bq ["_law_cell","_law_many","_law_found","_law_k","_law_hand"] Z06 (bp EJ):=Z1
theorem q8:bq ["loom","line","sent","uses","names"] Z2x (bp Bn):=Z1
theorem A6:bq Z2x Z2x (bp Ey):=Z1
theorem DA:bq Z3X Z3X (bp AX):=Z1
theorem wm:bq ["loom","fallen","line","paper","descent","name"] Z4Y (bp B6):=Z1
theorem lF:bq ["_law_loom_here","_law_fallen_here","_law_found","_law_places","_law_hand","_law_points"] Z3Q (bp Dw):=Z1
theorem nN:bq ["_law_loom_here","_law_line","_law_sent","_law_found","_law_name","_law_place"] Z4z (bp BQ):=Z1
theorem rH:bq ["_law_loom_here","_law_allowed_here","_law_paper_here","_law_reached","_law_name","_law_some"] Z1Y (bp C1):=Z1
theorem ju:bq ["_law_loom_here","_law_allowed_here","_law_cell","_law_reached","_law_paper_here","_law_some","_law_name","_law_user","_law_place"] Z1z (bp D4):=Z1
theorem oD:bq ["_law_loom_here","_law_allowed_here","_law_reached","_law_name","_law_sent","_law_used","_law_user","_law_some"] Z18 (bp Ap):=Z1
theorem iq:bq ["_law_loom_here","_law_allowed_here","_law_cell","_law_at","_law_odd","_law_reached","_law_paper_here","_law_put","_law_some","_law_name","_law_names"] Z0u (bp Bb):=Z1
theorem vP:bq ["_law_loom_here","_law_allowed_here","_law_paper_here","_law_line","_law_cell","_law_at","_law_names"] Z0e (bp Bi):=Z1
theorem yi:bq ["_law_line","_law_cell","_law_at"] Z6E (bp A3):=Z1
theorem dF:bq ["_law_script","_law_loom_here","_law_fallen_here","_law_allowed_here","_law_paper_here","_law_line","_law_left_here","_law_handed","_law_found","_law_due"] Z4H (bp ye):=Z1
theorem yK:bootBuiltins "all" = some ZKi:=ZF
theorem tY:bootBuiltins "bool" = some ZDw:=ZF
theorem tS:bootBuiltins "dict" = some (Z15):=ZF
theorem yL:bootBuiltins "int" = some (Z96):=ZF
theorem da:bootBuiltins "isinstance" = some Z1h:=ZF
theorem eM:bootBuiltins "len" = some ZBT:=ZF
theorem iu:bootBuiltins "list" = some (ZO):=ZF
theorem vF:bootBuiltins "max" = some Z78:=ZF
theorem xR:bootBuiltins "min" = some ZBS:=ZF
theorem xp:bootBuiltins "range" = some (Z3H):=ZF
theorem yO:bootBuiltins "set" = some (Z1F):=ZF
theorem eF:bootBuiltins "sorted" = some Z14:=ZF
theorem rn:bootBuiltins "tuple" = some (Z0U):=ZF
def Df (K:W.Frag) (c p:Addr):Prop:=∃ oq oe vq sq,K.lookup c=some ⟨oq,oe,.fields vq,sq⟩/\vq[11]? = some Z00
set_option genInjectivity false in
set_option genSizeOf false in
structure Adr where
 c_Bundle:Addr
 c_Descent:Addr
 c_Each:Addr
 c_Event:Addr
 c_Loom:Addr
 c_Never:Addr
 c_Thread:Addr
 f_au:Addr
 f_av:Addr
 f_cy:Addr
 f_dh:Addr
 f_dd:Addr
 f_cj:Addr
 f_dl:Addr
 f_bv:Addr
 f_bw:Addr
 f_ct:Addr
 f_bf:Addr
 f_az:Addr
 f_as:Addr
 f_al:Addr
 f_am:Addr
 f_dm:Addr
 f_cw:Addr
 f_df:Addr
 f_dg:Addr
 f_cl:Addr
 f_bx:Addr
 f_cv:Addr
 f_ag:Addr
 f_ah:Addr
 f_bz:Addr
 f_an:Addr
 f_bh:Addr
 f_bi:Addr
 f_ba:Addr
 f_cu:Addr
 f_aw:Addr
 f_bj:Addr
 f_ao:Addr
 f_ac:Addr
 f_aj:Addr
 f_bk:Addr
 f_bn:Addr
 f_ak:Addr
 f_bc:Addr
 f_ai:Addr
 f_dj:Addr
 f_ae:Addr
 f_ab:Addr
 f_af:Addr
 f_bu:Addr
 f_ad:Addr
 f_aa:Addr
 f_bg:Addr
 f_ck:Addr
 f_de:Addr
 f_ca:Addr
 f_cm:Addr
 f_cn:Addr
 f_cx:Addr
 f_cb:Addr
 f_bo:Addr
 f_cc:Addr
 f_cz:Addr
 f_co:Addr
 f_ax:Addr
 f_bd:Addr
 f_cd:Addr
 f_ap:Addr
 f_law:Addr
 cd_cx:Addr
 tb_cx:Addr
 ts:Z09
 fd_dd:FuncData
 fd_cj:FuncData
 fd_dl:FuncData
 fd_ae:FuncData
 fd_ab:FuncData
 fd_af:FuncData
 fd_bu:FuncData
 fd_ad:FuncData
 fd_aa:FuncData
 fd_bv:FuncData
 fd_bw:FuncData
 fd_az:FuncData
 fd_as:FuncData
 fd_al:FuncData
 fd_am:FuncData
 fd_ct:FuncData
 fd_bf:FuncData
 fd_bg:FuncData
 fd_dm:FuncData
 fd_an:FuncData
 fd_ba:FuncData
 fd_bh:FuncData
 fd_cu:FuncData
 fd_ck:FuncData
 fd_de:FuncData
 fd_bi:FuncData
 fd_df:FuncData
 fd_dg:FuncData
 fd_cl:FuncData
 fd_bx:FuncData
 fd_cv:FuncData
 fd_ag:FuncData
 fd_ah:FuncData
 fd_cw:FuncData
 fd_au:FuncData
 fd_av:FuncData
 fd_bz:FuncData
 fd_aw:FuncData
 fd_bj:FuncData
 fd_ao:FuncData
 fd_ac:FuncData
 fd_aj:FuncData
 fd_bk:FuncData
 fd_bn:FuncData
 fd_ak:FuncData
 fd_bc:FuncData
 fd_ca:FuncData
 fd_cm:FuncData
 fd_cn:FuncData
 fd_cx:FuncData
 fd_cb:FuncData
 fd_cy:FuncData
 fd_dh:FuncData
 fd_ai:FuncData
 fd_dj:FuncData
 fd_bo:FuncData
 fd_cc:FuncData
 fd_cz:FuncData
 fd_co:FuncData
 fd_ax:FuncData
 fd_bd:FuncData
 fd_cd:FuncData
 fd_ap:FuncData
 fd_law:FuncData
set_option genInjectivity false in
set_option genSizeOf false in
structure Txt (K:W.Frag) (mg:Str->Option Value) (t:Adr):Prop where
 no_isinstance:mg "isinstance" = none
 no_bool:mg "bool" = none
 no_int:mg "int" = none
 na_cr:b9 K t.c_Event "used"
 cl_Event:Cls K t.c_Event
 na_cf:b9 K t.c_Event "state"
 na_cq:b9 K t.c_Event "sent"
 no_tuple:mg "tuple" = none
 na_cp:b9 K t.c_Event "said"
 no_list:mg "list" = none
 mk_Event:Mk K t.c_Event t.f_cj
 mg_Event:mg "Event" = some (.ref t.c_Event)
 b_cj:Binds K t.fd_cj Z1c []
 mg_dd:mg "is_whole" = some ZPK
 kp_dd:W.keepIn K ZPK=true
 b_dd:Binds K t.fd_dd Z3X []
 mv_SMALLEST_SIZE:∃ t,mg "SMALLEST_SIZE" = some (.int 1 t)
 mv_GREATEST_SIZE:∃ t,mg "GREATEST_SIZE" = some (.int 20 t)
 na_ce:b9 K t.c_Bundle "size"
 cl_Bundle:Cls K t.c_Bundle
 na_bs:b9 K t.c_Thread "first"
 cl_Thread:Cls K t.c_Thread
 na_bt:b9 K t.c_Thread "habit"
 na_ch:b9 K t.c_Thread "done"
 na_ar:b9 K t.c_Thread "writings"
 na_ci:b9 K t.c_Thread "down"
 no_len:mg "len" = none
 no_range:mg "range" = none
 no_sorted:mg "sorted" = none
 no_set:mg "set" = none
 me_bw:Meth K t.c_Thread "here" t.f_bw
 b_bw:Binds K t.fd_bw Z0i []
 me_as:Meth K t.c_Thread "is_here" t.f_as
 b_as:Binds K t.fd_as Z0o []
 me_al:Meth K t.c_Thread "is_point" t.f_al
 b_al:Binds K t.fd_al Z0o []
 mg_dl:mg "copy_of" = some ZPG
 kp_dl:W.keepIn K ZPG=true
 b_dl:Binds K t.fd_dl ZG5 []
 me_ad:Meth K t.c_Bundle "down_by_deed" t.f_ad
 b_ad:Binds K t.fd_ad Z_ []
 cl_Each:Cls K t.c_Each
 me_af:Meth K t.c_Each "down_by_deed" t.f_af
 b_af:Binds K t.fd_af Z_ []
 cl_Never:Cls K t.c_Never
 me_Never_down_by_deed:Meth K t.c_Never "down_by_deed" t.f_ae
 b_ae:Binds K t.fd_ae Z_ []
 me_aa:Meth K t.c_Bundle "down_by_writing" t.f_aa
 b_aa:Binds K t.fd_aa Z_ []
 me_Each_down_by_writing:Meth K t.c_Each "down_by_writing" t.f_ab
 b_ab:Binds K t.fd_ab Z_ []
 me_Never_down_by_writing:Meth K t.c_Never "down_by_writing" t.f_ab
 no_all:mg "all" = none
 na_db:b9 K t.c_Loom "many"
 cl_Loom:Cls K t.c_Loom
 na_bq:b9 K t.c_Loom "threads"
 na_dk:b9 K t.c_Loom "log"
 mg_dm:mg "is_name" = some ZPF
 kp_dm:W.keepIn K ZPF=true
 b_dm:Binds K t.fd_dm Z3X []
 na_dc:b9 K t.c_Loom "ways"
 no_min:mg "min" = none
 na_bp:b9 K t.c_Loom "ordered"
 no_enumerate:mg "enumerate" = none
 na_cg:b9 K t.c_Loom "posted"
 na_cs:b9 K t.c_Loom "taken"
 mg_ck:mg "_law_digit" = some ZPR
 kp_ck:W.keepIn K ZPR=true
 b_ck:Binds K t.fd_ck Z45 []
 mg_de:mg "_law_led" = some ZPJ
 kp_de:W.keepIn K ZPJ=true
 b_de:Binds K t.fd_de Z1I []
 na_da:b9 K t.c_Loom "does"
 me_am:Meth K t.c_Thread "state_at" t.f_am
 b_am:Binds K t.fd_am Z0o []
 me_ct:Meth K t.c_Thread "do" t.f_ct
 b_ct:Binds K t.fd_ct Z74 []
 me_cu:Meth K t.c_Loom "post" t.f_cu
 b_cu:Binds K t.fd_cu Z3m []
 me_an:Meth K t.c_Loom "check_hand" t.f_an
 b_an:Binds K t.fd_an Z0Q []
 me_bi:Meth K t.c_Loom "do_deed" t.f_bi
 b_bi:Binds K t.fd_bi Z5D []
 me_ba:Meth K t.c_Loom "note_row" t.f_ba
 b_ba:Binds K t.fd_ba Z4y []
 me_bh:Meth K t.c_Loom "may_use" t.f_bh
 b_bh:Binds K t.fd_bh Z1K []
 me_bf:Meth K t.c_Thread "write" t.f_bf
 b_bf:Binds K t.fd_bf Z0i []
 no_dict:mg "dict" = none
 no_zip:mg "zip" = none
 mk_Thread:Mk K t.c_Thread t.f_bv
 mg_Thread:mg "Thread" = some (.ref t.c_Thread)
 b_bv:Binds K t.fd_bv Z3u []
 me_az:Meth K t.c_Thread "points" t.f_az
 b_az:Binds K t.fd_az Z0i []
 me_bx:Meth K t.c_Loom "places" t.f_bx
 b_bx:Binds K t.fd_bx Z0i []
 me_bz:Meth K t.c_Loom "points" t.f_bz
 b_bz:Binds K t.fd_bz Z0Q []
 na_ay:b9 K t.c_Descent "posted"
 cl_Descent:Cls K t.c_Descent
 me_ag:Meth K t.c_Loom "letters_sent" t.f_ag
 b_ag:Binds K t.fd_ag Z0i []
 na_be:b9 K t.c_Descent "taken"
 me_ah:Meth K t.c_Loom "letters_used" t.f_ah
 b_ah:Binds K t.fd_ah Z0i []
 na_aq:b9 K t.c_Descent "allowed"
 mg_aw:mg "allowed_points" = some ZPb
 kp_aw:W.keepIn K ZPb=true
 b_aw:Binds K t.fd_aw Z3B []
 me_ao:Meth K t.c_Descent "reached" t.f_ao
 b_ao:Binds K t.fd_ao Z0i []
 mg_au:mg "is_sent_within" = some ZPd
 kp_au:W.keepIn K ZPd=true
 b_au:Binds K t.fd_au Z7d []
 mg_av:mg "is_used_within" = some ZPc
 kp_av:W.keepIn K ZPc=true
 b_av:Binds K t.fd_av Z4G []
 mk_Descent:Mk K t.c_Descent t.f_bj
 mg_Descent:mg "Descent" = some (.ref t.c_Descent)
 b_bj:Binds K t.fd_bj Z3v []
 mg_bn:mg "used_of_each" = some ZPX
 kp_bn:W.keepIn K ZPX=true
 b_bn:Binds K t.fd_bn ZNq []
 mg_ak:mg "sender_gone_back" = some ZPf
 kp_ak:W.keepIn K ZPf=true
 b_ak:Binds K t.fd_ak ZCB []
 me_ac:Meth K t.c_Descent "is_broken_by" t.f_ac
 b_ac:Binds K t.fd_ac Z1C []
 me_aj:Meth K t.c_Descent "can_step" t.f_aj
 b_aj:Binds K t.fd_aj Z1C []
 me_bk:Meth K t.c_Descent "step" t.f_bk
 b_bk:Binds K t.fd_bk Z1C []
 mk_Bundle:Mk K t.c_Bundle t.f_bu
 mg_Bundle:mg "Bundle" = some (.ref t.c_Bundle)
 b_bu:Binds K t.fd_bu Z7c []
 mk_Each:MkO K t.c_Each
 mg_Each:mg "Each" = some (.ref t.c_Each)
 mk_Never:MkO K t.c_Never
 mg_Never:mg "Never" = some (.ref t.c_Never)
 me_cv:Meth K t.c_Loom "road" t.f_cv
 b_cv:Binds K t.fd_cv Z0i []
 mg_cm:mg "_law_deeds" = some ZPQ
 kp_cm:W.keepIn K ZPQ=true
 b_cm:Binds K t.fd_cm Z9c []
 me_dg:Meth K t.c_Loom "use" t.f_dg
 b_dg:Binds K t.fd_dg Z1K []
 me_df:Meth K t.c_Loom "own" t.f_df
 b_df:Binds K t.fd_df Z0Q []
 me_cl:Meth K t.c_Loom "write" t.f_cl
 b_cl:Binds K t.fd_cl Z0Q []
 mg_bg:mg "_law_cell_at" = some ZPY
 kp_bg:W.keepIn K ZPY=true
 b_bg:Binds K t.fd_bg Z3w []
 mg_ca:mg "_law_habits" = some ZPV
 kp_ca:W.keepIn K ZPV=true
 b_ca:Binds K t.fd_ca Z06 []
 mk_Loom:Mk K t.c_Loom t.f_cw
 mg_Loom:mg "Loom" = some (.ref t.c_Loom)
 b_cw:Binds K t.fd_cw Z1D []
 mg_cn:mg "_law_woven" = some ZPP
 kp_cn:W.keepIn K ZPP=true
 b_cn:Binds K t.fd_cn Z2b []
 mg_cy:mg "broken_by" = some ZPM
 kp_cy:W.keepIn K ZPM=true
 b_cy:Binds K t.fd_cy Z2x []
 mg_ai:mg "is_list_of_wholes" = some ZPg
 kp_ai:W.keepIn K ZPg=true
 b_ai:Binds K t.fd_ai Z3X []
 mg_dh:mg "is_sound" = some ZPI
 kp_dh:W.keepIn K ZPI=true
 b_dh:Binds K t.fd_dh Z2x []
 mg_cc:mg "_law_broken" = some ZPT
 kp_cc:W.keepIn K ZPT=true
 b_cc:Binds K t.fd_cc Z4z []
 no_max:mg "max" = none
 mg_ax:mg "_law_gone_back" = some ZPa
 kp_ax:W.keepIn K ZPa=true
 b_ax:Binds K t.fd_ax Z18 []
 mg_bd:mg "_law_with_one" = some ZPZ
 kp_bd:W.keepIn K ZPZ=true
 b_bd:Binds K t.fd_bd Z0u []
 mg_cx:mg "_law_loom" = some ZPN
 kp_cx:W.keepIn K ZPN=true
 b_cx:Binds K t.fd_cx Z4H []
 mg_cb:mg "_law_fallen" = some ZPU
 kp_cb:W.keepIn K ZPU=true
 b_cb:Binds K t.fd_cb Z06 []
 mg_bo:mg "_law_allowed" = some ZPW
 kp_bo:W.keepIn K ZPW=true
 b_bo:Binds K t.fd_bo Z3Q []
 mg_co:mg "_law_paper" = some ZPO
 kp_co:W.keepIn K ZPO=true
 b_co:Binds K t.fd_co Z1z []
 mg_cd:mg "_law_spoilt" = some ZPS
 kp_cd:W.keepIn K ZPS=true
 b_cd:Binds K t.fd_cd Z0e []
 mg_cz:mg "_law_left" = some ZPL
 kp_cz:W.keepIn K ZPL=true
 b_cz:Binds K t.fd_cz Z1Y []
 mg_ap:mg "_law_other_line" = some ZPe
 kp_ap:W.keepIn K ZPe=true
 b_ap:Binds K t.fd_ap Z6E []
 mg_dj:mg "is_shown" = some ZPH
 kp_dj:W.keepIn K ZPH=true
 b_dj:Binds K t.fd_dj Z4Y []
 mg_bc:mg "greatest_line" = some ZP_
 kp_bc:W.keepIn K ZP_=true
 b_bc:Binds K t.fd_bc Z3B []
 F_dd:Fun K "is_whole" "is_whole" AL t.f_dd t.fd_dd
 F_cj:Fun K "__init__" "Event.__init__" DC t.f_cj t.fd_cj
 F_dl:Fun K "copy_of" "copy_of" CW t.f_dl t.fd_dl
 F_ae:Fun K "down_by_deed" "Habit.down_by_deed" AB t.f_ae t.fd_ae
 F_ab:Fun K "down_by_writing" "Habit.down_by_writing" BS t.f_ab t.fd_ab
 F_af:Fun K "down_by_deed" "Each.down_by_deed" BJ t.f_af t.fd_af
 F_bu:Fun K "__init__" "Bundle.__init__" AG t.f_bu t.fd_bu
 F_ad:Fun K "down_by_deed" "Bundle.down_by_deed" C3 t.f_ad t.fd_ad
 F_aa:Fun K "down_by_writing" "Bundle.down_by_writing" Ag t.f_aa t.fd_aa
 F_bv:Fun K "__init__" "Thread.__init__" D2 t.f_bv t.fd_bv
 F_bw:Fun K "here" "Thread.here" Ec t.f_bw t.fd_bw
 F_az:Fun K "points" "Thread.points" Dc t.f_az t.fd_az
 F_as:Fun K "is_here" "Thread.is_here" BH t.f_as t.fd_as
 F_al:Fun K "is_point" "Thread.is_point" DW t.f_al t.fd_al
 F_am:Fun K "state_at" "Thread.state_at" DT t.f_am t.fd_am
 F_ct:Fun K "do" "Thread.do" CU t.f_ct t.fd_ct
 F_bf:Fun K "write" "Thread.write" Cj t.f_bf t.fd_bf
 F_bg:Fun K "_law_cell_at" "_law_cell_at" A9 t.f_bg t.fd_bg
 F_dm:Fun K "is_name" "is_name" B9 t.f_dm t.fd_dm
 F_an:Fun K "check_hand" "Loom.check_hand" AK t.f_an t.fd_an
 F_ba:Fun K "note_row" "Loom.note_row" C8 t.f_ba t.fd_ba
 F_bh:Fun K "may_use" "Loom.may_use" DN t.f_bh t.fd_bh
 F_cu:Fun K "post" "Loom.post" CJ t.f_cu t.fd_cu
 F_ck:Fun K "_law_digit" "_law_digit" DJ t.f_ck t.fd_ck
 F_de:Fun K "_law_led" "_law_led" D6 t.f_de t.fd_de
 F_bi:Fun K "do_deed" "Loom.do_deed" Bp t.f_bi t.fd_bi
 F_df:Fun K "own" "Loom.own" DF t.f_df t.fd_df
 F_dg:Fun K "use" "Loom.use" C0 t.f_dg t.fd_dg
 F_cl:Fun K "write" "Loom.write" CM t.f_cl t.fd_cl
 F_bx:Fun K "places" "Loom.places" B4 t.f_bx t.fd_bx
 F_cv:Fun K "road" "Loom.road" BD t.f_cv t.fd_cv
 F_ag:Fun K "letters_sent" "Loom.letters_sent" Co t.f_ag t.fd_ag
 F_ah:Fun K "letters_used" "Loom.letters_used" Ep t.f_ah t.fd_ah
 F_cw:Fun K "__init__" "Loom.__init__" Ab t.f_cw t.fd_cw
 F_au:Fun K "is_sent_within" "is_sent_within" CQ t.f_au t.fd_au
 F_av:Fun K "is_used_within" "is_used_within" CH t.f_av t.fd_av
 F_bz:Fun K "points" "Loom.points" CN t.f_bz t.fd_bz
 F_aw:Fun K "allowed_points" "allowed_points" DK t.f_aw t.fd_aw
 F_bj:Fun K "__init__" "Descent.__init__" Ek t.f_bj t.fd_bj
 F_ao:Fun K "reached" "Descent.reached" DX t.f_ao t.fd_ao
 F_ac:Fun K "is_broken_by" "Descent.is_broken_by" Az t.f_ac t.fd_ac
 F_aj:Fun K "can_step" "Descent.can_step" CC t.f_aj t.fd_aj
 F_bk:Fun K "step" "Descent.step" CA t.f_bk t.fd_bk
 F_bn:Fun K "used_of_each" "used_of_each" Bj t.f_bn t.fd_bn
 F_ak:Fun K "sender_gone_back" "sender_gone_back" Aw t.f_ak t.fd_ak
 F_bc:Fun K "greatest_line" "greatest_line" Bd t.f_bc t.fd_bc
 F_ca:Fun K "_law_habits" "_law_habits" Dd t.f_ca t.fd_ca
 F_cm:Fun K "_law_deeds" "_law_deeds" Et t.f_cm t.fd_cm
 F_cn:Fun K "_law_woven" "_law_woven" Ae t.f_cn t.fd_cn
 F_cx:Fun K "_law_loom" "_law_loom" AD t.f_cx t.fd_cx
 F_cb:Fun K "_law_fallen" "_law_fallen" EJ t.f_cb t.fd_cb
 F_cy:Fun K "broken_by" "broken_by" Bn t.f_cy t.fd_cy
 F_dh:Fun K "is_sound" "is_sound" Ey t.f_dh t.fd_dh
 F_ai:Fun K "is_list_of_wholes" "is_list_of_wholes" AX t.f_ai t.fd_ai
 F_dj:Fun K "is_shown" "is_shown" B6 t.f_dj t.fd_dj
 F_bo:Fun K "_law_allowed" "_law_allowed" Dw t.f_bo t.fd_bo
 F_cc:Fun K "_law_broken" "_law_broken" BQ t.f_cc t.fd_cc
 F_cz:Fun K "_law_left" "_law_left" C1 t.f_cz t.fd_cz
 F_co:Fun K "_law_paper" "_law_paper" D4 t.f_co t.fd_co
 F_ax:Fun K "_law_gone_back" "_law_gone_back" Ap t.f_ax t.fd_ax
 F_bd:Fun K "_law_with_one" "_law_with_one" Bb t.f_bd t.fd_bd
 F_cd:Fun K "_law_spoilt" "_law_spoilt" Bi t.f_cd t.fd_cd
 F_ap:Fun K "_law_other_line" "_law_other_line" A3 t.f_ap t.fd_ap
 F_law:Fun K "law" "law" ye t.f_law t.fd_law
 b_law:Binds K t.fd_law Z4H []
 tab_cx:W.codeHdIn K t.cd_cx t.tb_cx=true
 tn_cx:K.lookup t.tb_cx=none
 tin_cx:t.tb_cx∈t.ts
 cde_cx:t.fd_cx.code=.ref t.cd_cx
 tall:∀ P∈t.ts,P∈[t.tb_cx]
 ik_Bundle:xG K t.c_Bundle
 ik_Each:xG K t.c_Each
 ik_Event:xG K t.c_Event
 ik_Never:xG K t.c_Never
 ki_b:W.kitOne K Z96 ZDw=some false
 tq_cx:Df K t.cd_cx t.tb_cx
structure Eo (mg:Str->Option Value) (base:Heap) (t:Adr):Prop where
 tb_cx:Tab mg base t.cd_cx t.tb_cx
section
variable {P:Program}{w:World}{K:W.Frag}{mg:Str->Option Value}{base:Heap}{t:Adr}
variable {ts:List Addr}
theorem sq (h:∀ r,r=b->jF a r D σ H):jF a b D σ H:=h b rfl
theorem sn (e:r=jF a b) (h:∀ r,r=b->jF a r D σ H):r D σ H:=by subst e;exact h b rfl
def BX:Sp:=λ vs H Q _=>∃ i,vs=[Z2M]/\Q Z3O H
theorem mw (T:ZN):bR P w K mg base ZT 1 t.f_dd t.fd_dd Z3X BX:=by
 refine T.F_dd.okN EF ZB Z1G
 ·obtain⟨i,rfl,_⟩:=h;rfl
 ·obtain⟨i,rfl,k⟩:=h
  refine⟨_,(bg (bC (fL (bL Z6v rfl T.no_isinstance da (bf Ze (bf (gY (v:=.ty "int") rfl T.no_int yL rfl) aZ))) (fu (kr (bL Z6v rfl T.no_isinstance da (bf Ze Z5x))))))),?_⟩
  refine⟨_,rfl,_,_,ZTt,ZL3,_,rfl,ZUv⟩
  exact⟨_,rfl,_,_,ZTt,T.ki_b,_,rfl,k⟩
theorem g8 {H:Hp}{p a C dx:Addr}{fs fs':List (Str×V)}{xs:Z11}(hp:H p=some Z0T) (h:ZAt):SqL K ZDi a xs:=by
 rcases h with (h|⟨o,h⟩)|h
 ·exact .inl (.inl (by rw[Z7b];exact h))
 ·exact .inl (.inr ⟨o,by rw[Z7b];exact h⟩)
 ·exact ZCe
theorem w4 {H:Hp}{p a C dx:Addr}{fs fs':List (Str×V)}{xs:Z11}(hp:H p=some Z0T) (h:ZG8):SqT K ZDi a xs:=by
 rcases h with (h|⟨o,h⟩)|h
 ·exact .inl (.inl (by rw[Z7b];exact h))
 ·exact .inl (.inr ⟨o,by rw[Z7b];exact h⟩)
 ·exact ZCe
theorem eI (h:fs.length<=n) (j:n<999):(ZC7).length<1000:=by
 have:=ck f v fs
 lia
noncomputable def evF (v:V) (st:Int) (l1 l2:Addr):List (Str×V):=bx "said" (.ref l2) (bx "sent" (.ref l1) (bx "state" ZAX (bx "used" v [])))
def Ay (K:W.Frag) (t:Adr):Sp:=λ vs H Q _=>∃ p dx v st a b xs ys,vs=[Z00,v,ZAX,ZY,Za]/\H p=some (.ins t.c_Event dx [])/\SqL K H a xs/\xs.length<=1000/\(∀ x∈xs,∃ q zs,x=.ref q/\SqT K H q zs)/\SqL K H b ys /\
 ∀ l1 l2 H',H l1=none->H l2=none->l1≠l2->(∀ c,H' c=if c=p then some (.ins t.c_Event dx Z6D) else if c=l1 then some Zu else if c=l2 then some Z03 else H c)->Q .non H'
theorem xT (T:ZN):bR P w K mg base ZT 1 t.f_cj t.fd_cj Z1c (Ay K t):=by
 refine T.F_cj.okN Ca ZB Z3o
 ·obtain⟨p,dx,v,st,a,b,xs,ys,rfl,_⟩:=h;rfl
 ·obtain⟨p,dx,v,st,a,b,xs,ys,rfl,hp,ha,a3,hx,hb,k⟩:=h
  refine⟨_,(aW Z56
   (aW ZGj
   (aW (cj (K:=K) Ze (dA ["self","used","state","sent","said","letter"] 1 rfl ZLy (λ _ _ _ _ _=>⟨(bG (i:=5) (show List.Nodup (["self","used","state","sent","said","letter"]:Zo) from ZF) rfl Z6),dI,(cF (oZ (K:=K)) rfl T.no_tuple rn Z3K)⟩)) rfl)
   (bg (cj (K:=K) Ze Z8T rfl))))),?_⟩
  refine⟨_,rfl,_,rfl,p,_,dx,_,rfl,hp,T.cl_Event,T.na_cr,Z3,?_⟩
  refine⟨_,rfl,_,rfl,p,_,dx,_,rfl,aU,T.cl_Event,T.na_cf,ZL1,?_⟩
  rw[iI]
  have U:SqL K ZF9 a xs:=ZWj
  have Z:SqL K ZF9 b ys:=g8 hp hb
  have a2:∀ x∈xs,∃ q zs,x=.ref q/\SqT K ZF9 q zs:=λ x m=>let ⟨q,zs,e,h⟩:=hx x m;⟨q,zs,e,w4 hp h⟩
  have G:upd H p Z0S p=_:=aU
  generalize O:upd H p (HO.ins t.c_Event dx (bx "state" (V.int st) (bx "used" v [])))=H1 at U Z a2 G ⊢
  refine⟨_,rfl,a,rfl,⟨_,U⟩,dE (xs:=xs) a3 λ acc j=>⟨λ i L zs H2=>zs=xs.take i/\H2=upd H1 acc ZGr/\∃ o,L=[Z5z,Z4c,ZNL,Z7S,Z6j,o],⟨rfl,rfl,_,rfl⟩,?_,?_,?_⟩⟩
  ·rintro i L zs H2 hi ⟨rfl,rfl,_,rfl⟩
   exact⟨(ZNn).seq U,by rw[F0];lia⟩
  ·rintro i x L zs H2 hi a1 ⟨rfl,rfl,o,rfl⟩
   obtain⟨q,zs,rfl,hq⟩:=a2 x ZSs
   dsimp only[dq,ki]
   refine f9 ⟨_,rfl,q,zs,rfl,.inr ⟨(ZNn).tup hq,aU,Nx.mk hi ⟨?_,?_,_,rfl⟩⟩⟩
   ·rw[GB,a1];rfl
   ·rw[iI]
  ·rintro L zs H2 ⟨rfl,rfl,o,rfl⟩
   rw[Hb]
   have J:p≠acc:=ba G j
   refine⟨_,rfl,p,_,dx,_,rfl,(by rw[aV J];exact G),T.cl_Event,T.na_cq,ZKE,?_⟩
   refine⟨_,rfl,b,ys,rfl,.inl (g8 (by rw[aV J];exact G) ((ZNn).seq Z)),λ l2 F=>?_⟩
   have W:p≠l2:=ba (aU) F
   have nl:acc≠l2:=ba (o:=.lst xs) (by rw[Z8b,aU]) F
   refine⟨_,rfl,p,_,dx,_,rfl,(by rw[aV W,aU]),T.cl_Event,T.na_cp,ZKD,?_⟩
   refine k acc l2 _ ?_ ?_ nl λ c=>?_
   ·rw[<- O,Z8b] at j;exact j
   ·rw[ZV6,aV ZQx,<- O,ZV6] at F;exact F
   ·rw[<- O]
    unfold evF
    by_cases Y:c=p
    ·rw[Y,aU,Z1U]
    ·rw[aV Y,Fj Y]
     by_cases c2:c=l2
     ·rw[c2,aU,Fj ZQx,Z1U]
     ·rw[aV c2,aV Y]
      by_cases c3:c=acc
      ·rw[c3,aU,Z1U]
      ·rw[aV c3,aV Y,Fj c3,Fj c2]
noncomputable abbrev Nm3:=Int×Int×Int
noncomputable def nV (n:Nm3):Z11:=Zy
structure EvA where
 u:Option Nm3
 st:Int
 se:List (Int×Int)
 sa:ZU
def UsO (G:Hp) (v:V):Option Nm3->Prop
 | none=>v=.non
 | some n=>∃ b,v=.ref b/\G b=some Z3I
def LsO (G:Hp) (xs:Z11) (se:List (Int×Int)):Prop:=∃ ls:List (Addr×Int×Int),xs=ls.map (λ x=>Z9d)/\se=ls.map (·.2)/\∀ x∈ls,G x.1=some Z0_
def EvO (_:W.Frag) (t:Adr) (G:Hp) (e:Addr) (A:EvA):Prop:=∃ dx v l1 l2 xs ys,G e=some Z8H/\UsO G v A.u/\G l1=some Zu/\LsO G xs A.se/\xs.length<=3/\G l2=some Z03/\ys=iV A.sa/\A.sa.length<=10
theorem UsO.same (s:ZAP) (h:UsO G v u):UsO G' v u:=by
 cases u with
 | none=>exact h
 | some n=>exact let ⟨b,e,q⟩:=h;⟨b,e,s _ _ q⟩
theorem LsO.same (s:ZAP) (h:LsO G xs se):LsO G' xs se:=let ⟨L,j,F,q⟩:=h;⟨L,j,F,λ x J=>s _ _ (q x J)⟩
theorem EvO.same (s:ZAP) (h:EvO K t G e A):EvO K t G' e A:=by
 obtain⟨dx,v,O,U,xs,ys,h1,h2,j,q,F,J,L⟩:=h
 exact⟨dx,v,O,U,xs,ys,ZWT,h2.same s,s _ _ j,q.same s,F,s _ _ J,L⟩
theorem tK:(Z6D).lookup ("used" :ZHN)=some v:=by unfold evF;rw[cb,ZBH,cb,ZBH,cb,ZBH,cb,Z1U]
theorem lP:(Z6D).lookup ("state" :ZHN)=some (V.int st):=by unfold evF;rw[cb,ZBH,cb,ZBH,cb,Z1U]
theorem j8:(Z6D).lookup ("sent" :ZHN)=some (V.ref l1):=by unfold evF;rw[cb,ZBH,cb,Z1U]
theorem vH:(Z6D).lookup ("said" :ZHN)=some (V.ref l2):=by unfold evF;rw[cb,Z1U]
theorem uj (sG:ZG1) (ne:H e=none) (a1:H dxe=none) (V:upd Z5L e Z4W m1=none) (W:upd Z5L e Z4W m2=none) (J:m1≠m2)
  (U:∀ c,H5 c=if c=e then some Z1Z else if c=m1 then some Zu else if c=m2 then some Z03 else upd Z5L e Z4W c)
  (r1:UsO G v Ew.u) (r2:LsO G xs Ew.se) (Y:xs.length<=3) (r3:ys=iV Ew.sa/\Ew.sa.length<=10):∃ O,gD H G O H5/\bj H H5/\EvO K t O e Ew/\O e=some (Z1Z)/\O m1=some Zu:=by
 have L:bj H (upd Z5L e Z4W):=bj.ins ne a1
 have j:m1≠e:=λ z=>by rw[z,aU] at V;cases V
 have F:m2≠e:=λ z=>by rw[z,aU] at W;cases W
 have s5:bj H H5:=λ c u q=>by
  rw[U c,Fj (ba q ne),Fj (ba q ZUE),Fj (ba q ZUD)]
  exact L _ _ q
 have g0:gD H G G H5:=⟨ZV2,sG.trans s5,λ _ _ z=>ZB1⟩
 have g1:=g0.freeze (o:=.lst xs) ZUE (by rw[U m1,Fj j,Z1U])
 have g2:=g1.freeze (o:=.lst ys) ZUD (by rw[U m2,Fj F,Fj (Ne.symm J),Z1U])
 have Z:=g2.freeze (o:=Z1Z) ne (by rw[U e,Z1U])
 have q1:upd (upd (upd G m1 Zu) m2 Z03) e Z1Z m1=some Zu:=by rw[aV j,aV J,aU]
 exact⟨_,Z,s5,⟨dxe,v,m1,m2,xs,ys,aU,r1.same Z.sub,q1,r2.same Z.sub,Y,by rw[aV F,aU],r3⟩,aU,q1⟩
def SaN (t:Adr) (H H':Hp) (q:Addr) (A:EvA):Prop:=∃ dx v l1 l2,H' q=some Z8H/\H l2=none/\H' l2=some (.lst (iV A.sa))
def Af (K:W.Frag) (t:Adr):Sp:=λ vs H Q _=>∃ G e A,vs=[ZQZ]/\bj G H/\EvO K t G e A/\∀ G' H' e',gD H G G' H'->bj H H'->EvO K t G' e' A->SaN t H H' e' A->Q Z98 H'
theorem Ci (T:ZN):bR P w K mg base ZT 3 t.f_dl t.fd_dl ZG5 (Af K t):=by
 refine T.F_dl.okN AI ZB Z13
 ·obtain⟨G,e,A,rfl,_⟩:=h;rfl
 ·obtain⟨G,e,A,rfl,L,ev,k⟩:=h
  refine⟨_,(bg (bC (fS T.mk_Event ZOh Z7 rfl T.mg_Event T.b_cj .nil bo (bf Z4 (bf Z4 (bf Z4 ZJv)))))),?_⟩
  obtain⟨dx,v,l1,l2,xs,ys,h1,h2,h3,h4,h5,h6,h7⟩:=id ev
  have O:=L _ _ h1
  refine⟨_,rfl,e,_,dx,_,_,rfl,O,T.cl_Event,T.na_cr,tK,?_⟩
  refine⟨_,rfl,e,_,dx,_,_,rfl,O,T.cl_Event,T.na_cf,lP,?_⟩
  refine⟨_,rfl,e,_,dx,_,_,rfl,O,T.cl_Event,T.na_cq,j8,?_⟩
  refine⟨_,rfl,e,_,dx,_,_,rfl,O,T.cl_Event,T.na_cp,vH,λ x j nx J a2=>?_⟩
  have V:bj H (upd (upd H j Z69) x (.ins t.c_Event j [])):=bj.ins nx J
  refine⟨x,j,v,A.st,l1,l2,xs,ys,rfl,aU,SqL.of (V _ _ (L _ _ h3)),Z2,λ y hy=>?_,SqL.of (V _ _ (L _ _ h6)),λ m1 m2 H' n1 U F Y=>Z4v⟩
  ·obtain⟨ls,rfl,_,q⟩:=h4
   obtain⟨z,hz,rfl⟩:=Fw.mp hy
   exact⟨_,_,rfl,SqT.of (V _ _ (L _ _ (q z hz)))⟩
  obtain⟨G',g,s,W,_⟩:=uj (K:=K) (Ew:=A) L nx J n1 U F Y h2 h4 h5 h7
  have Z:m2≠x:=λ z=>by rw[z,aU] at U;cases U
  exact k G' H' x g s W ⟨j,v,m1,m2,by rw[Y,Z1U],V.free U,by rw[Y,Fj Z,Fj ZII,Z1U,h7.1]⟩
def Ef:Sp:=λ vs H Q _=>∃ x d h,vs=[x,Z9r,Z8i]/\Q Z9r H
theorem Cy (T:ZN):bR P w K mg base ZT 1 t.f_ae t.fd_ae Z_ Ef:=by
 refine T.F_ae.okN Cm ZB Z1G
 ·obtain⟨x,d,h,rfl,_⟩:=h;rfl
 ·obtain⟨x,d,h,rfl,k⟩:=h
  exact ZHR
def AR:Sp:=λ vs H Q _=>∃ x d h,vs=[x,Z9r,Z8i]/\Q Z9r H
theorem xS (T:ZN):bR P w K mg base ZT 1 t.f_ab t.fd_ab Z_ AR:=by
 refine T.F_ab.okN Ar ZB Z1G
 ·obtain⟨x,d,h,rfl,_⟩:=h;rfl
 ·obtain⟨x,d,h,rfl,k⟩:=h
  exact ZHR
def DI:Sp:=λ vs H Q _=>∃ x d h,vs=[x,Z9r,Z8i]/\Q Z8i H
theorem Aq (T:ZN):bR P w K mg base ZT 1 t.f_af t.fd_af Z_ DI:=by
 refine T.F_af.okN Dy ZB Z1G
 ·obtain⟨x,d,h,rfl,_⟩:=h;rfl
 ·obtain⟨x,d,h,rfl,k⟩:=h
  exact ZHS
def EK (t:Adr):Sp:=λ vs H Q _=>∃ p dx i,vs=[Z00,Z2M]/\H p=some (.ins t.c_Bundle dx [])/\1<=i/\i<=20/\Q .non (upd H p (.ins t.c_Bundle dx (bx "size" Z2M [])))
theorem CI (T:ZN):bR P w K mg base ZT 2 t.f_bu t.fd_bu Z7c (EK t):=by
 refine T.F_bu.okN EB ZB Z9v
 ·obtain⟨p,dx,i,rfl,_⟩:=h;rfl
 ·obtain⟨p,dx,i,rfl,q,G,J,k⟩:=h
  refine⟨_,(aW (bX (PW.pt (eK (cM (cC (bA ZOw Z9E rfl T.mg_dd T.kp_dd T.b_dd .nil bo Z0V))) (eK (bH jr ZQ (lC rfl T.mv_SMALLEST_SIZE) Z0F) (eg (bH tJ ZQ (lC rfl T.mv_GREATEST_SIZE) Z0F)))))
    ZIF
    bM)
   (bg Z56)),?_⟩
  refine⟨_,rfl,i,rfl,_,rfl,iy ⟨_,rfl,_,_,rfl,rfl,_,rfl,cD (by simpa using G) ⟨_,rfl,_,_,rfl,rfl,_,rfl,cD (by simpa using J) ?_⟩⟩⟩
  exact⟨_,rfl,_,rfl,p,_,dx,_,rfl,q,T.cl_Bundle,T.na_ce,Z3,k⟩
def Cc (t:Adr):Sp:=λ vs H Q _=>∃ p dx n d h,vs=[Z00,Z9r,Z8i]/\H p=some Z6f/\Q (.int (if h-d >= n then h else d)) H
theorem AW (T:ZN):bR P w K mg base ZT 1 t.f_ad t.fd_ad Z_ (Cc t):=by
 refine T.F_ad.okN Du ZB Z9v
 ·obtain⟨p,dx,n,d,h,rfl,_⟩:=h;rfl
 ·obtain⟨p,dx,n,d,h,rfl,q,k⟩:=h
  refine⟨_,(aW (bX (bH qB (bB nH Zj ZQ) Z4 Z0F)
    Z41
    bM)
   Z7w),?_⟩
  refine⟨_,rfl,_,rfl,_,_,rfl,rfl,_,rfl,p,_,dx,_,.int n,rfl,q,T.cl_Bundle,T.na_ce,(by rw[cb,Z1U]),_,_,rfl,rfl,_,rfl,cU (λ z=>Z3T) λ z=>Z3T⟩
  ·rwa [Fl ZW3] at k
  ·rwa [Fj (λ y=>ZWB)] at k
def DH:Sp:=λ vs H Q _=>∃ x d h,vs=[x,Z9r,Z8i]/\Q Z8i H
theorem EL (T:ZN):bR P w K mg base ZT 1 t.f_aa t.fd_aa Z_ DH:=by
 refine T.F_aa.okN BZ ZB Z1G
 ·obtain⟨x,d,h,rfl,_⟩:=h;rfl
 ·obtain⟨x,d,h,rfl,k⟩:=h
  exact ZHS
noncomputable def thF (first:Int) (ha dn wr:Addr) (down:Int):List (Str×V):=[("first",.int first),("habit",.ref ha),("done",.ref dn),("writings",ZHy),("down",.int down)]
theorem gZ:(thF first ha dn wr down).length<1000:=by show 5<1000;decide
def D9 (t:Adr):Sp:=λ vs H Q _=>∃ p dx i ha,vs=[Z00,Z2M,.ref ha]/\H p=some (.ins t.c_Thread dx []) /\
 ∀ dn wr H',H dn=none->H wr=none->dn≠wr->(∀ c,H' c=if c=p then some (.ins t.c_Thread dx (thF i ha dn wr 0)) else if c=dn then some Z0H else if c=wr then some ZMB else H c)->Q .non H'
theorem D7 (T:ZN):bR P w K mg base ZT 1 t.f_bv t.fd_bv Z3u (D9 t):=by
 refine T.F_bv.okN DP ZB (λ W A outer s H vs Q E hr h=>?_)
 ·obtain⟨p,dx,i,Y,rfl,_⟩:=h;rfl
 ·obtain⟨p,dx,i,Y,rfl,Z,k⟩:=h
  refine⟨_,(aW Z56
   (aW ZGj
   (aW ZFk
   (aW (cj (K:=K) Ze ZXa rfl)
   (bg (cj (K:=K) Ze bh rfl)))))),?_⟩
  refine⟨_,rfl,_,rfl,p,_,dx,_,rfl,Z,T.cl_Thread,T.na_bs,Z3,?_⟩
  refine⟨_,rfl,_,rfl,p,_,dx,_,rfl,aU,T.cl_Thread,T.na_bt,ZL1,?_⟩
  rw[iI]
  refine⟨Z3,λ O q=>⟨_,rfl,p,_,dx,_,rfl,(by rw[aV (ba aU q),aU]),T.cl_Thread,T.na_ch,ZKE,?_⟩⟩
  have J:p≠O:=ba aU q
  refine⟨Z3,λ wr j=>⟨_,rfl,p,_,dx,_,rfl,(by rw[aV (ba aU j),aU]),T.cl_Thread,T.na_ar,ZKD,?_⟩⟩
  have L:p≠wr:=ba aU j
  have F:O≠wr:=ba (o:=Z0H) (by rw[Z8b,aU]) j
  refine⟨_,rfl,p,_,dx,_,rfl,aU,T.cl_Thread,T.na_ci,eI (n:=3) (FC Z4o (JC ZAh)) Z3,?_⟩
  refine k O wr _ ?_ ?_ F λ c=>?_
  ·rw[Z8b] at q;exact q
  ·rw[ZMb,aV ZII,ZMb] at j;exact j
  ·by_cases G:c=p
   ·rw[G,aU,Z1U];rfl
   ·rw[aV G,aV G,Fj G]
    by_cases U:c=wr
    ·rw[U,aU,Fj ZII,Z1U]
    ·rw[aV U,aV G]
     by_cases V:c=O
     ·rw[V,aU,Z1U]
     ·rw[aV V,aV G,Fj V,Fj U]
def yg (t:Adr) (K:W.Frag):Sp:=λ vs H Q _=>∃ p dx i ha dn wr d xs,vs=[Z00]/\H p=some Z0n/\SqL K H dn xs/\Q (.int xs.length) H
theorem e9 (T:ZN):bR P w K mg base ZT 1 t.f_bw t.fd_bw Z0i (yg t K):=by
 refine T.F_bw.okN Dk ZB (λ q A outer s H vs Q E L h=>?_)
 ·obtain⟨p,dx,i,F,j,wr,d,xs,rfl,_⟩:=h;rfl
 ·obtain⟨p,dx,i,F,j,wr,d,xs,rfl,J,G,k⟩:=h
  refine⟨_,(bg (bC (bL Z1t rfl T.no_len eM ZJv))),?_⟩
  exact⟨_,rfl,p,_,dx,_,.ref j,rfl,J,T.cl_Thread,T.na_ch,rfl,j,xs,rfl,.inl G,k⟩
def tU (K:W.Frag) (t:Adr) (G:Hp) (es:Z11) (As:ZO9):Prop:=es.length=As.length/\∀ (i:Nat) (e:V) (A:EvA),es[i]? = some e->As[i]? = some A->∃ q,e=V.ref q/\EvO K t G q A
theorem tU.same (s:ZAP) (h:tU K t G es As):tU K t G' es As:=⟨h.1,λ i e A a b=>let ⟨q,z,y⟩:=h.2 i e A a b;⟨q,z,y.same s⟩⟩
--@all
theorem cp:atI (x::xs) 0=some x:=by
 unfold atI ixN
 rw[ZDZ,Fl (by rw[FV];lia)]
 rfl
def Ds (t:Adr):Sp:=λ vs H Q _=>∃ p dx i ha dn wr d w0 ws,vs=[Z00]/\H p=some Z0n/\H wr=some (.lst (iV (w0::ws)))/\(∀ y∈w0::ws,0<=y/\y<=60)/\(w0::ws).length<=62/\0<=d/\d<=60 /\
 ∀ l ns H',bj H H'->H l=none->H' l=some Z8G->ns.Pairwise (· <= ·)->ns.Nodup->(∀ y,y∈ns↔(w0<=y/\y<=d)\/y∈w0::ws)->Q Zv H'
theorem D1 (T:ZN):bR P w K mg base ZT 1 t.f_az t.fd_az Z0i (Ds t):=by
 refine T.F_az.okN xU ZB Z13
 ·obtain⟨p,dx,i,ha,dn,wr,d,j,ws,rfl,_⟩:=h;rfl
 ·obtain⟨p,dx,i,ha,dn,wr,d,j,ws,rfl,U,hw,bw,lw,d0,d1,k⟩:=h
  refine⟨_,(aW (bz (i:=1) xU.nd rfl Z6 (cF (pX rfl) rfl T.no_list iu (bf (cF tu rfl T.no_range xp (bf ZKX (bf (bB cY Z4 bh) aZ))) aZ)))
   (bg (bC (bL (pB rfl (P:=P) (w:=w)) rfl T.no_sorted eF (bf (bB (y4 (P:=P) (w:=w)) (cF ZBO rfl T.no_set yO Z0V) (cF ZBO rfl T.no_set yO ZJv)) aZ))))),?_⟩
  have b0:=bw j Fn
  refine⟨_,rfl,p,_,dx,_,ZHy,rfl,U,T.cl_Thread,T.na_ar,rfl,wr,_,0,Z2k,rfl,rfl,SqL.of hw,cp,?_⟩
  refine⟨_,rfl,p,_,dx,_,Z9r,rfl,U,T.cl_Thread,T.na_ci,rfl,_,_,rfl,rfl,_,_,rfl,λ r V=>?_⟩
  have s1:bj H _:=bj.new (o:=.rng j (d+1)) V
  refine⟨r,j,d+1,rfl,aU,ZAK,Z2,λ l hl=>?_⟩
  have s2:=s1.trans (bj.new (o:=.lst (iV (kS j (d+1)))) hl)
  refine⟨_,rfl,l,kS j (d+1),rfl,ZCF,by rw[gz];lia,λ a ka L a2 ma=>?_⟩
  have Z:=s2.trans (bj.new (o:=gc P w a ka) L)
  refine⟨_,rfl,p,_,dx,_,ZHy,rfl,Z _ _ U,T.cl_Thread,T.na_ar,rfl,wr,j::ws,rfl,SqL.of (Z _ _ hw),Z2,λ b kb F a3 mb=>?_⟩
  have G:a≠b:=ba aU F
  have s4:=Z.trans (bj.new (o:=gc P w b kb) F)
  refine⟨a,b,ka,kb,kS 0 61,rfl,rfl,G,by rw[aV G,aU],aU,by rw[gz];decide,λ y W=>?_,λ y W=>?_,λ c kc O Y mc=>?_⟩
  ·have:=i0.mp ((ma y).mp W);exact ZUk
  ·have:=bw y ((mb y).mp W);exact ZUk
  have s5:=s4.trans (bj.new (o:=gc P w c kc) O)
  refine⟨c,kc,rfl,aU,λ e ns J pm so=>?_⟩
  refine k e ns _ (s5.trans ZIb) ?_ aU so (pm.nodup_iff.mpr Y) λ y=>?_
  ·cases q:H e with
   | none=>rfl
   | some u=>rw[s5 _ _ q] at J;cases J
  ·rw[pm.mem_iff,mc,ma,mb,i0]
   constructor
   ·rintro(z|z)
    ·exact ZI1
    ·exact ZIs
   ·rintro(z|z)
    ·exact ZI1
    ·exact ZIs
def B8 (K:W.Frag) (t:Adr):Sp:=λ vs H Q _=>∃ p dx i ha dn wr d xs y,vs=[Z00,ZIr]/\H p=some Z0n/\SqL K H dn xs/\Q (.bl (decide (y=xs.length))) H
theorem Bx (T:ZN):bR P w K mg base ZT 2 t.f_as t.fd_as Z0o (B8 K t):=by
 refine T.F_as.okN CD ZB (λ J A outer s H vs Q E G h=>?_)
 ·obtain⟨p,dx,i,q,j,wr,d,xs,y,rfl,_⟩:=h;rfl
 ·obtain⟨p,dx,i,q,j,wr,d,xs,y,rfl,F,L,k⟩:=h
  refine⟨_,(bg (bC (fL Z3e (fu (cX eX ZQ (bI Ze T.cl_Thread T.me_bw ZFE (G.mono Z3) T.b_bw .nil bo) Z0F))))),?_⟩
  refine⟨_,rfl,y,rfl,_,rfl,ZUv⟩
  refine⟨_,rfl,_,rfl,p,dx,_,rfl,F,rfl,p,dx,i,q,j,wr,d,xs,rfl,F,L,?_⟩
  refine Z4v
  have e:decide (V.int y=V.int xs.length)=decide (y=(xs.length:Int)):=by rw[Ib];simp
  rw[e];exact k
theorem fQ {y:Int}:∀ {ws:List Int},inV ZCr ZLt=decide (y∈ws)
 | []=>rfl
 | w::ws=>by
  have ih:inV ZCr ZLt=decide (y∈ws):=fQ
  show (eqV (V.int w) ZCr || inV ZCr ZLt)=_
  rw[ih,Ib,Kq,HY,HY,Fi]
  show ((w == y)=true\/_)↔_
  rw[Hv]
  exact⟨λ h=>ZAO,λ h=>ZAO⟩
def Ak (t:Adr):Sp:=λ vs H Q _=>∃ p dx i ha dn wr d w0 ws y,vs=[Z00,ZIr]/\H p=some Z0n/\H wr=some (.lst (iV (w0::ws)))/\Q (.bl (decide (y∈w0::ws\/(w0<=y/\y<=d)))) H
theorem CL (T:ZN):bR P w K mg base ZT 2 t.f_al t.fd_al Z0o (Ak t):=by
 refine T.F_al.okN BW ZB Z9O
 ·obtain⟨p,dx,i,Z,W,wr,d,j,F,y,rfl,_⟩:=h;rfl
 ·obtain⟨p,dx,i,Z,W,wr,d,j,F,y,rfl,J,O,k⟩:=h
  refine⟨_,(aW (bX (cM (cC Z4f))
    Z2U
    bM)
   (aW (bX (bH ZSV ZQ Z4 (by with_unfolding_all rfl))
    Z2U
    bM)
   (bg (bC (fL (cX qB ZQ ZKX Z0F) (fu (cX rK ZQ Z4 Z0F))))))),?_⟩
  refine⟨_,rfl,y,rfl,_,rfl,ZUi⟩
  refine⟨_,rfl,_,rfl,p,_,dx,_,ZHy,rfl,J,T.cl_Thread,T.na_ar,rfl,?_⟩
  have Y:(iV (j::F)).all fz=true:=by
   unfold iV;rw[Jj];exact Z4M
  have G:inV ZCr (iV (j::F))=decide (y∈j::F):=fQ
  refine⟨wr,_,rfl,ZOb,rfl,Y,_,rfl,?_⟩
  rw[G]
  by_cases z:y∈j::F
  ·rw[FX z]
   rw[FX (Or.inl z)] at k
   exact f9 k
  ·rw[Gm z]
   refine ZUi
   refine⟨_,rfl,_,rfl,p,_,dx,_,ZHy,rfl,J,T.cl_Thread,T.na_ar,rfl,wr,_,0,Z2k,rfl,rfl,Z87,cp,_,_,rfl,rfl,_,rfl,?_⟩
   refine cU (λ L=>⟨_,rfl,_,rfl,p,_,dx,_,Z9r,rfl,J,T.cl_Thread,T.na_ci,rfl,_,_,rfl,rfl,?_⟩) λ L=>?_
   ·have e:decide (y∈j::F\/j<=y/\y<=d)=decide (y<=d):=by
     rw[Ib,HY,HY]
     exact⟨λ h=>h.elim (λ q=>absurd q z) λ q=>q.2,λ h=>.inr ⟨Gb L,h⟩⟩
    rw[e] at k;exact k
   ·have e:decide (y∈j::F\/j<=y/\y<=d)=false:=by
     rw[Gs]
     exact λ h=>h.elim z λ q=>L (FX q.1)
    rw[e] at k;exact k
noncomputable def zE (first:Int) (As:ZO9) (y:Int):Int:=if y=0 then first else ((As[(y-1).toNat]?).map EvA.st).getD 0
def mW (n:Nat) (ws:ZU) (w0 d y:Int):Prop:=y=n\/y∈w0::ws\/(w0<=y/\y<=d)
def xQ (K:W.Frag) (t:Adr):Sp:=λ vs H Q _=>∃ G p dx i ha dn wr d w0 ws es As y,vs=[Z00,ZIr]/\bj G H/\H p=some Z0n/\H wr=some (.lst (iV (w0::ws)))/\H dn=some ZGs/\tU K t G es As /\
 (∀ z∈w0::ws,0<=z/\z<=es.length)/\d<=es.length/\mW es.length ws w0 d y/\Q (.int (zE i As y)) H
theorem Ah (T:ZN):bR P w K mg base ZT 3 t.f_am t.fd_am Z0o (xQ K t):=by
 refine T.F_am.okN Ao ZB Z3o
 ·obtain⟨G,p,dx,i,ha,O,wr,d,J,W,es,As,y,rfl,_⟩:=h;rfl
 ·obtain⟨G,p,dx,i,ha,O,wr,d,J,W,es,As,y,rfl,sG,L,hw,hd,ev,bw,bd,a1,F⟩:=h
  refine⟨_,(aW (bX (PW.pt (iE (cM (cC (bQ Ze T.cl_Thread T.me_as (Bx (K:=K) T) Z7 T.b_as .nil bo Z0V))) (fG (cM (cC (bQ Ze T.cl_Thread T.me_al (CL (K:=K) T) Z7 T.b_al .nil bo Z0V))))))
    ZIF
    bM)
   (aW (bX (bH eX ZQ bh Z0F)
    (bg (bC Z4))
    bM)
   (bg (bC (bu (K:=K) (bF ZZ Z4 (bB nH ZQ bh) ZC) rfl))))),?_⟩
  have b0:=bw J Fn
  have a3:mW es.length W J d y->0<=y/\y<=es.length:=λ c=>by
   rcases c with c|c|c
   ·lia
   ·exact bw y c
   ·lia
  have U:mW es.length W J d y->(jF (Cn (i5 (tOp rEq ZLw ZFq)) (uZ (qr K ZIz "first")) xO)
    (uZ (qr K (tOp ZQj (qr K ZIz "done") (tOp (rI0 λ i j=>V.int (i-j)) ZLw Z6G)) "state"))) { nx:=λ x H'=>Z88,rt:=Q } [Z5z,some ZIr] H:=by
   intro c
   have r:=a3 c
   refine⟨_,rfl,rfl,_,rfl,?_⟩
   by_cases Z:y=0
   ·refine eT (by rw[Z];simp) ⟨_,rfl,p,_,dx,_,.int i,rfl,L,T.cl_Thread,T.na_bs,rfl,?_⟩
    unfold zE at F;rw[Fl Z] at F;exact F
   ·refine cD (by simp[Z]) ?_
    obtain⟨e,he⟩:∃ e,es[(y-1).toNat]? = some e:=Z9T
    obtain⟨Ai,hA⟩:∃ Ai,As[(y-1).toNat]? = some Ai:=⟨_,E9 (by rw[<- ev.1];lia)⟩
    obtain⟨q,rfl,a2,v,l1,l2,xs,ys,h1,_⟩:=ev.2 _ _ _ he hA
    refine⟨_,rfl,p,_,dx,_,ZQa,rfl,L,T.cl_Thread,T.na_ch,rfl,_,rfl,_,_,rfl,rfl,O,es,y-1,Z3L,rfl,rfl,Z9g,?_,q,_,a2,_,.int Ai.st,rfl,sG _ _ h1,T.cl_Event,T.na_cf,lP,?_⟩
    ·unfold atI ixN;rw[ZDZ,ZDZ];exact he
    ·unfold zE at F;rw[Fj Z,hA] at F;exact F
  refine⟨_,rfl,p,dx,_,rfl,L,rfl,_,rfl,p,dx,i,ha,O,wr,d,es,y,rfl,L,Z9g,_,rfl,?_⟩
  by_cases Y:y=es.length
  ·refine cD (by rw[FX Y];rfl) (iy (U (.inl Y)))
  ·refine eT (by rw[Gm Y];rfl) ?_
   refine⟨_,rfl,p,dx,_,rfl,L,rfl,_,rfl,p,dx,i,ha,O,wr,d,J,W,y,rfl,L,hw,_,rfl,?_⟩
   by_cases c2:y∈J::W\/(J<=y/\y<=d)
   ·exact cD (by rw[FX c2];rfl) (U (.inr c2))
   ·exact absurd (a1.resolve_left Y) c2
inductive gJ where
 | never|each|bundle (n:Int)
noncomputable def gJ.i4:gJ->Int->Int->Int
 | .never,d,_=>d
 | .each,_,h=>h
 | .bundle n,d,h=>if h-d >= n then h else d
noncomputable def gJ.gg:gJ->Int->Int->Int
 | .bundle _,_,h=>h
 | _,d,_=>d
def kB (t:Adr) (G:Hp) (ha:Addr):gJ->Prop
 | .never=>∃ dx,G ha=some (.ins t.c_Never dx [])
 | .each=>∃ dx,G ha=some (.ins t.c_Each dx [])
 | .bundle n=>∃ dx,G ha=some Z6f
structure ThA where
 first:Int
 hab:gJ
 evs:ZO9
 ws:ZU
 down:Int
structure ThL where
 (p dx ha dn wr:Addr)
structure Th (K:W.Frag) (t:Adr) (G H:Hp) (L:ThL) (A:ThA):Prop where
 self:H L.p=some Z1N
 hab:kB t G L.ha A.hab
 done:∃ es,H L.dn=some ZGs/\tU K t G es A.evs
 gg:H L.wr=some ZKg
 held:ZG1
 gp:G L.p=none
 gd:G L.dn=none
 gw:G L.wr=none
 ne:L.dn≠L.wr
def yo (K:W.Frag) (t:Adr):Sp:=λ vs H Q _=>∃ G L A e Ev,vs=[Zg,ZQZ]/\Th K t G H L A/\EvO K t G e Ev/\A.evs.length<=900 /\
 ∀ G' H',gD H G G' H'->But [L.p,L.dn] H H'->Th K t G' H' L { A with evs:=A.evs++[Ev],down:=A.hab.i4 A.down (A.evs.length+1) }->Q .non H'
theorem BM (T:ZN):bR P w K mg base ZT 4 t.f_ct t.fd_ct Z74 (yo K t):=by
 refine T.F_ct.okN Be ZB ZJ
 ·obtain⟨G,L,A,e,Ev,rfl,_⟩:=h;rfl
 ·obtain⟨G,L,A,e,Ev,rfl,th,ev,few,k⟩:=h
  refine⟨_,(aW (bN (cQ (K:=K) FH FK FJ bW Z4 (bf (bA (Ci (K:=K) T) Z7 rfl T.mg_dl T.kp_dl T.b_dl .nil bo Z0V) aZ)))
   (bg (cj (K:=K) Ze (mS (bQ Z4 T.cl_Never T.me_Never_down_by_deed (Cy (K:=K) T) Z7 T.b_ae .nil bo Z2m) (mS (bQ Z4 T.cl_Each T.me_af (Aq (K:=K) T) Z7 T.b_af .nil bo Z2m) (bQ Z4 T.cl_Bundle T.me_ad (AW (K:=K) T) Z7 T.b_ad .nil bo Z2m))) rfl))),?_⟩
  obtain⟨es,hd,evs⟩:=th.done
  refine⟨_,rfl,L.p,_,L.dx,_,.ref L.dn,rfl,th.self,T.cl_Thread,T.na_ch,rfl,?_⟩
  refine⟨.inl ⟨rfl,es,Z9g⟩,_,rfl,G,e,Ev,rfl,th.held,ev,λ G' H' e' g s2 ev' _=>?_⟩
  refine⟨L.dn,es,Z98,rfl,rfl,s2 _ _ hd,bE (by rw[evs.1];lia),?_⟩
  have npd:L.p≠L.dn:=ZKC
  have npw:L.p≠L.wr:=ZHc
  have hp1:upd H' L.dn (.lst (es++[Z98])) L.p=some Z1N:=by rw[aV npd];exact s2 _ _ th.self
  have hd1:upd H' L.dn (.lst (es++[Z98])) L.dn=some (.lst (es++[Z98])):=aU
  have len:((es++[V.ref e']).length:Int)=A.evs.length+1:=by rw[Fh,evs.1];simp
  have gp':G' L.p=none:=g.free (by rw[th.self];simp) th.gp
  have gd':G' L.dn=none:=g.free (by rw[hd];simp) th.gd
  have gw':G' L.wr=none:=g.free (by rw[th.gg];simp) th.gw
  have habH:∀ b u,G b=some u->upd H' L.dn (.lst (es++[Z98])) b=some u:=λ b u z=>by
   rw[aV (ba z th.gd)];exact s2 _ _ ZNK
  have fin:∀ d',d'=A.hab.i4 A.down (A.evs.length+1)->Q .non (upd (upd H' L.dn (.lst (es++[Z98]))) L.p Z1d):=λ d' hd'=>by
   have held':bj G' (upd (upd H' L.dn (.lst (es++[Z98]))) L.p Z1d):=λ b u z=>by
    rw[aV (ba z gp'),aV (ba z gd')];exact g.held _ _ z
   refine k G' _ ⟨g.sub,held',g.new⟩ (λ b u n z=>?_) ⟨?_,?_,⟨es++[Z98],?_,?_⟩,?_,held',gp',gd',gw',th.ne⟩
   ·simp only[Fi,Ft,F8,IW] at n
    rw[aV n.1,aV n.2];exact s2 _ _ z
   ·rw[aU,hd']
   ·have hh:=th.hab
    revert hh
    cases A.hab<;>exact λ⟨dx,z⟩=>⟨dx,g.sub _ _ z⟩
   ·rw[ZKG,aU]
   ·refine⟨by rw[Fh,Fh,evs.1];rfl,λ j x B hx hB=>?_⟩
    rw[List.getElem?_append] at hx hB
    by_cases hj:j<es.length
    ·rw[Fl hj] at hx
     rw[Fl (by rw[<- evs.1];exact hj)] at hB
     obtain⟨q,e1,e2⟩:=evs.2 j x B hx hB
     exact⟨q,e1,e2.same g.sub⟩
    ·rw[Fj hj] at hx
     rw[Fj (by rw[<- evs.1];exact hj)] at hB
     have lt:=Z43
     have:j-es.length=0:=by simp at lt;lia
     rw[this] at hx
     rw[<- evs.1,this] at hB
     cases hx;cases hB
     exact⟨e',rfl,ev'⟩
   ·show upd (upd H' L.dn _) L.p _ L.wr=some ZKg
    rw[ZKF,aV (Ne.symm th.ne)];exact s2 _ _ th.gg
  have hb:=th.hab
  cases hA:A.hab with
  | never=>
   rw[hA] at hb
   obtain⟨dxh,hh'⟩:=hb
   refine ZLj
   refine Zc
   refine Zi
   exact⟨_,rfl,L.p,_,L.dx,_,rfl,hp1,T.cl_Thread,T.na_ci,gZ,fin _ (by rw[hA];rfl)⟩
  | each=>
   rw[hA] at hb
   obtain⟨dxh,hh'⟩:=hb
   refine ZXM
   refine Zc
   refine Zi
   exact⟨_,rfl,L.p,_,L.dx,_,rfl,hp1,T.cl_Thread,T.na_ci,gZ,fin _ (by rw[hA];exact len)⟩
  | bundle n=>
   rw[hA] at hb
   obtain⟨dxh,hh'⟩:=hb
   refine ZMu
   refine Zc
   refine⟨_,rfl,L.p,L.dx,_,rfl,hp1,rfl,L.p,L.dx,_,_,_,_,_,_,rfl,hp1,SqL.of hd1,L.ha,dxh,n,_,_,rfl,habH _ _ hh',?_⟩
   exact⟨_,rfl,L.p,_,L.dx,_,rfl,hp1,T.cl_Thread,T.na_ci,gZ,fin _ (by rw[hA,len];rfl)⟩
noncomputable def ThA.wrote (A:ThA):ThA:=if (A.evs.length:Int)∈A.ws then A else { A with ws:=A.ws++[(A.evs.length:Int)],down:=A.hab.gg A.down A.evs.length }
def Ee (K:W.Frag) (t:Adr):Sp:=λ vs H Q _=>∃ G L A,vs=[Zg]/\Th K t G H L A/\A.ws.length<=900 /\
 ∀ H',But [L.p,L.wr] H H'->Th K t G H' L A.wrote->Q .non H'
theorem Bs (T:ZN):bR P w K mg base ZT 2 t.f_bf t.fd_bf Z0i (Ee K t):=by
 refine T.F_bf.okN DY ZB ZJ
 ·obtain⟨G,L,A,rfl,_⟩:=h;rfl
 ·obtain⟨G,L,A,rfl,th,few,k⟩:=h
  refine⟨_,(aW (bX (bH ZSV ZW Z4 (by with_unfolding_all rfl))
    (bg wO)
    bM)
   (aW (bN (cQ (K:=K) FH FK FJ bW Z4 (bf ZW aZ)))
   (bg (cj (K:=K) Ze (mS (bQ Z4 T.cl_Never T.me_Never_down_by_writing ZOi Z7 T.b_ab .nil bo Z2m) (mS (bQ Z4 T.cl_Each T.me_Each_down_by_writing ZOi Z7 T.b_ab .nil bo Z2m) (bQ Z4 T.cl_Bundle T.me_aa (EL (K:=K) T) Z7 T.b_aa .nil bo Z2m))) rfl)))),?_⟩
  obtain⟨es,hd,evs⟩:=th.done
  have fl:(iV A.ws).all fz=true:=by unfold iV;rw[Jj];exact Z4M
  refine⟨_,rfl,L.p,L.dx,_,rfl,th.self,rfl,L.p,L.dx,_,_,_,_,_,es,rfl,th.self,Z9g,_,rfl,L.p,_,L.dx,_,ZVj,rfl,th.self,T.cl_Thread,T.na_ar,rfl,L.wr,_,rfl,.inl ZQI,rfl,fl,_,rfl,?_⟩
  rw[fQ,evs.1]
  by_cases z:(A.evs.length:Int)∈A.ws
  ·rw[FX z]
   refine f9 (k H (But.of Z4p) ?_)
   unfold ThA.wrote;rw[ZDY];exact th
  ·rw[Gm z]
   refine ZUi
   refine⟨_,rfl,L.p,_,L.dx,_,ZVj,rfl,th.self,T.cl_Thread,T.na_ar,rfl,.inl ⟨rfl,_,ZQI⟩,?_⟩
   refine⟨_,rfl,L.p,L.dx,_,rfl,th.self,rfl,L.p,L.dx,_,_,_,_,_,es,rfl,th.self,Z9g,L.wr,_,_,rfl,rfl,th.gg,bE (by unfold iV;rw[Fe];lia),?_⟩
   have npw:L.p≠L.wr:=ZHc
   have npd:L.p≠L.dn:=ZKC
   have eW:iV A.ws++[V.int es.length]=iV (A.ws++[(A.evs.length:Int)]):=by unfold iV;rw[FF,evs.1];rfl
   rw[eW]
   have hp1:upd H L.wr (.lst (iV (A.ws++[(A.evs.length:Int)]))) L.p=some Z1N:=by rw[aV npw];exact th.self
   have hd1:upd H L.wr (.lst (iV (A.ws++[(A.evs.length:Int)]))) L.dn=some ZGs:=by rw[aV th.ne];exact hd
   have habH:∀ b u,G b=some u->upd H L.wr (.lst (iV (A.ws++[(A.evs.length:Int)]))) b=some u:=λ b u z=>by
    rw[aV (ba z th.gw)];exact ZNK
   have len:(es.length:Int)=A.evs.length:=by rw[evs.1]
   have fin:∀ d',d'=A.hab.gg A.down A.evs.length->Q .non (upd (upd H L.wr (.lst (iV (A.ws++[(A.evs.length:Int)])))) L.p Z1d):=λ d' hd'=>by
    refine k _ (λ b u n q=>?_) ?_
    ·simp only[Fi,Ft,F8,IW] at n
     rw[aV n.1,aV n.2];exact q
    ·unfold ThA.wrote
     rw[ZFZ]
     refine⟨?_,th.hab,⟨es,?_,evs⟩,?_,λ b u q=>?_,th.gp,th.gd,th.gw,th.ne⟩
     ·rw[aU,hd']
     ·rw[ZKG];exact hd1
     ·show upd (upd H L.wr _) L.p _ L.wr=_
      rw[ZKF,aU]
     ·rw[aV (ba q th.gp)];exact habH _ _ q
   have hb:=th.hab
   cases hA:A.hab with
   | never=>
    rw[hA] at hb
    obtain⟨dxh,hh'⟩:=hb
    refine ZLj
    refine Zc
    refine Zi
    exact⟨_,rfl,L.p,_,L.dx,_,rfl,hp1,T.cl_Thread,T.na_ci,gZ,fin _ (by rw[hA];rfl)⟩
   | each=>
    rw[hA] at hb
    obtain⟨dxh,hh'⟩:=hb
    refine ZXM
    refine Zc
    refine Zi
    exact⟨_,rfl,L.p,_,L.dx,_,rfl,hp1,T.cl_Thread,T.na_ci,gZ,fin _ (by rw[hA];rfl)⟩
   | bundle n=>
    rw[hA] at hb
    obtain⟨dxh,hh'⟩:=hb
    refine ZMu
    refine Zc
    refine Zi
    exact⟨_,rfl,L.p,_,L.dx,_,rfl,hp1,T.cl_Thread,T.na_ci,gZ,fin _ (by rw[hA,len];rfl)⟩
def ThA.pt (T:ThA) (y:Int):Prop:=∃ w∈T.ws,y=w\/(w<y/\y<=T.down)
theorem ThA.zF {T:ThA}{j:Int}{F:ZU}{y:Int}(e:T.ws=j::F) (h:∀ y∈j::F,j<=y):T.pt y↔y∈j::F\/(j<=y/\y<=T.down):=by
 unfold ThA.pt
 rw[e]
 constructor
 ·rintro⟨J,G,z|z⟩
  ·rw[z];exact .inl G
  ·have:=h J G;exact .inr ZV
 ·rintro(z|z)
  ·exact⟨y,z,Z1x⟩
  ·by_cases q:y=j
   ·exact⟨j,Fn,ZLi⟩
   ·exact⟨j,Fn,.inr ZV⟩
theorem iU:iV ns++[V.int i]=iV (ns++[i]):=by unfold iV;rw[FF];rfl
theorem cO:(ZNc).length=ns.length:=by unfold iV;rw[Fe]
theorem pQ {ns:ZU}{i:Nat}{x:V}(h:(ZNc)[i]? = some x):∃ j,x=V.int j/\ns[i]? = some j:=by
 unfold iV at h
 rw[Ff] at h
 obtain⟨j,e,rfl⟩:=GL.mp h
 exact⟨j,rfl,e⟩
--@for k02 k03
--@all
--@for k03
--@all
def pZ (K:W.Frag):Sp:=λ vs H Q _=>∃ a ns k,vs=[ZY,.int k]/\SqL K H a Z2O/\0<=k/\∀ c:Int,Q Z7s H
theorem jw (T:ZN):bR P w K mg base ZT 1 t.f_bg t.fd_bg Z3w (pZ K):=by
 refine T.F_bg.okN El ZB (λ L A outer s H vs Q E O h=>?_)
 ·obtain⟨a,j,k,rfl,_⟩:=h;rfl
 ·obtain⟨a,j,k,rfl,J,h0,q⟩:=h
  refine⟨_,(aW (bX (bH jr ZQ Z3q Z0F)
    (bg (bC ZKW))
    bM)
   (bg (bC bh))),?_⟩
  refine⟨_,rfl,_,rfl,a,_,rfl,.inl J,_,_,rfl,rfl,_,rfl,cU Z5X λ _=>q 0⟩
  have F:k<(iV j).length:=Gb z
  have G:k.toNat<j.length:=by unfold iV at F;rw[Fe] at F;lia
  refine⟨_,rfl,_,rfl,a,_,k,.int j[k.toNat],rfl,rfl,J,?_,q _⟩
  unfold atI ixN
  rw[Fl h0,Fl F]
  show (iV j)[k.toNat]? = _
  unfold iV
  rw[Ff,E9 G]
  rfl
theorem kB.same (s:ZAP) (h:kB t G ha hb):kB t G' ha hb:=by
 cases hb<;>exact let ⟨dx,z⟩:=h;⟨dx,ZRE⟩
theorem Th.keep (h:Th K t G H L A) (q:ZAP) (s':ZNo) (j:∀ b o,b∈[L.p,L.dn,L.wr]->H b=some o->H' b=some o) (n:∀ b∈[L.p,L.dn,L.wr],G' b=none):Th K t G' H' L A:=by
 obtain⟨es,h1,h2⟩:=h.done
 exact⟨j _ _ ZA h.self,h.hab.same q,⟨es,j _ _ Zq h1,h2.same q⟩,j _ _ ZC6 h.gg,s',n _ ZM0,n _ ZVy,n _ (by simp),h.ne⟩
def Bu:Sp:=λ vs H Q _=>∃ b x y z,vs=[Za]/\H b=some Z2c/\∀ H',bj H H'->Q Z3O H'
theorem tQ (T:ZN):bR P w K mg base ZT 2 t.f_dm t.fd_dm Z3X Bu:=by
 refine T.F_dm.okN Eh ZB (λ U A outer s H vs Q E W h=>?_)
 ·obtain⟨b,x,y,z,rfl,_⟩:=h;rfl
 ·obtain⟨b,x,y,z,rfl,L,k⟩:=h
  refine⟨_,(aW (bX (PW.pt (eK (cM (cC (bL Z6v rfl T.no_isinstance da (bf Ze (bf (gY (v:=.ty "tuple") rfl T.no_tuple rn rfl) aZ))))) (eg (bH qM Z3q bh Z0F))))
    Z2U
    bM)
   (bg (bC (bL ZLs rfl T.no_all yK (bf (dA ZKI 1 rfl (xv (K:=K) Ze) (λ _ _ _ _ _=>⟨(bG (i:=1) (show List.Nodup (["value","part"]:Zo) from ZF) rfl Z6),dI,(bA ZOw Z4s rfl T.mg_dd T.kp_dd T.b_dd .nil bo Z0V)⟩)) aZ))))),?_⟩
  refine⟨_,rfl,_,_,.plain (.tup L),ZL3,_,rfl,iy ⟨_,rfl,_,_,rfl,.inr ZNs,rfl,_,rfl,cD ZA ?_⟩⟩
  refine⟨_,rfl,b,rfl,⟨_,ZNs⟩,vO (xs:=[ZCc,ZIr,ZVk]) (by show 3<=1000;decide) λ acc G=>⟨λ i F ys H2=>ys=List.replicate i (Z1E)/\H2 acc=some Z03/\bj H H2/\∃ o,F=[Z6j,o],⟨rfl,aU,bj.new G,_,rfl⟩,?_,?_,?_⟩⟩
  ·rintro i F ys H2 hi ⟨rfl,_,J,_⟩
   exact⟨J.tup ZNs,Zq⟩
  ·rintro i v F ys H2 hi q ⟨rfl,O,J,o,rfl⟩
   obtain⟨j,rfl⟩:∃ j,v=.int j:=by
    match i,q with
    | 0,q=>exact⟨x,by simpa using q.symm⟩
    | 1,q=>exact⟨y,by simpa using q.symm⟩
    | 2,q=>exact⟨z,by simpa using q.symm⟩
    | n+3,q=>simp at q
   dsimp only[dq,ki]
   refine f9 ⟨_,rfl,j,rfl,O,Z0l⟩
   ·rw[JU]
   ·rw[aV (ba e G)];exact ZRp
  ·rintro F ys H2 ⟨rfl,O,J,o,rfl⟩
   exact⟨acc,[true,true,true],rfl,Z87,k H2 J⟩
noncomputable def cd3 (n:Nm3):Int:=n.1*1000000+n.2.1*1000+n.2.2
def Small (n:Nm3):Prop:=0<=n.2.1/\n.2.1<1000/\0<=n.2.2/\n.2.2<1000
theorem qH (j:Small a) (q:Small b) (h:cd3 a=cd3 b):a=b:=by
 obtain⟨x,y,z⟩:=a
 obtain⟨F,G,J⟩:=b
 unfold cd3 at h
 unfold Small at j q
 dsimp only at h j q
 have:x=F:=Z2
 have:y=G:=Z2
 have:z=J:=Z2
 subst F;subst G;subst J;rfl
def pk (l:Z1w):Prop:=l.Pairwise λ a b=>cd3 a<cd3 b
noncomputable def nk (n:Nm3):ZBf:=[.inl n.1,.inl n.2.1,.inl n.2.2]
structure cV where
 (nm:Nm3) (adr:Addr) (to wd:Int)
structure DiL where
 (po ta wy:Addr)
structure DiA where
 po:ZLO
 ta:List (Nm3×Int)
 wy:List ((Int×Int)×Addr×List Nm3)
noncomputable def wk (k:Int×Int):ZBf:=[.inl k.1,.inl k.2]
noncomputable def DiL.own (L:DiL) (A:DiA):Z09:=[L.po,L.ta,L.wy]++A.wy.map (·.2.1)
structure Di (G H:Hp) (L:DiL) (A:DiA):Prop where
 po:H L.po=some (.dT (A.po.map λ l=>(Z0t,Z04)))
 ta:H L.ta=some (.dT (A.ta.map λ e=>(Z0p,Zw)))
 wy:H L.wy=some (.dT (A.wy.map λ e=>(Z9V,Z2X)))
 ways:∀ e∈A.wy,H e.2.1=some (.dT (e.2.2.map λ n=>(Z80,Z1E)))
 lets:∀ l∈A.po,G l.adr=some ZKe
 held:ZG1
 nd:(L.own A).Nodup
 gn:∀ b∈L.own A,G b=none
structure WfD (m:Int) (c:Int->Int) (A:DiA):Prop where
 nd:(A.po.map (·.nm)).Nodup
 nt:(A.ta.map (·.1)).Nodup
 rg:∀ l∈A.po,0<=l.nm.1/\l.nm.1<m/\1<=l.nm.2.1/\l.nm.2.1<=c l.nm.1/\0<=l.nm.2.2/\l.nm.2.2<3/\0<=l.to/\l.to<m
 wn:(A.wy.map (·.1)).Nodup
 wi:∀ e∈A.wy,∀ n,n∈e.2.2↔∃ l∈A.po,l.nm=n/\n.1=e.1.1/\l.to=e.1.2/\n∉A.ta.map (·.1)
 wd:∀ e∈A.wy,e.2.2.Nodup
 wa:∀ l∈A.po,l.nm∉A.ta.map (·.1)->∃ e∈A.wy,e.1=(l.nm.1,l.to)
 t1:∀ e∈A.ta,1<=e.2
noncomputable def loF (dz:Addr) (many:Int) (ord:Bool) (lt lg:Addr) (D:DiL):List (Str×V):=
 [("does",ZSF),("many",.int many),("ordered",.bl ord),("threads",.ref lt),("log",.ref lg),("posted",.ref D.po),("taken",.ref D.ta),("ways",.ref D.wy)]
def xZ (t:Adr):Sp:=λ vs H Q _=>∃ p dx dz m o lt lg D h,vs=[Z00,Z8i]/\H p=some Z1X/\0<=h/\h<m/\Q .non H
theorem qT (T:ZN):bR P w K mg base ZT 2 t.f_an t.fd_an Z0Q (xZ t):=by
 refine T.F_an.okN Ez ZB (λ j A outer s H vs Q E G h=>?_)
 ·obtain⟨p,dx,q,m,o,L,J,D,h,rfl,_⟩:=h;rfl
 ·obtain⟨p,dx,q,m,o,L,J,D,h,rfl,F,h0,h1,k⟩:=h
  refine⟨_,(bg (bX (PW.pt (eK (cM (cC Z3e)) (eK (bH jr ZQ bh Z0F) (eg (bH qB ZQ Z4 Z0F)))))
    ZIF
    bM)),?_⟩
  refine⟨_,rfl,h,rfl,true,rfl,iy ⟨_,rfl,_,_,rfl,rfl,_,rfl,cD (by simpa using h0) ⟨_,rfl,_,rfl,p,_,dx,_,_,rfl,F,T.cl_Loom,T.na_db,rfl,_,_,rfl,rfl,_,rfl,cD (by simpa using h1) k⟩⟩⟩
def vQ (t:Adr):Sp:=λ vs H Q _=>∃ p dx dz m o lt lg D,∃ j:Nat,∃ r q qs xs dxq i ha dn wr d es,vs=[Z00,Z2k,Z5K]/\H p=some Z1X/\H lt=some (.lst qs)/\H lg=some Zu/\xs.length<=900/\qs[j]? = some Z3L /\
 H q=some (.ins t.c_Thread dxq (thF i ha dn wr d))/\H dn=some ZGs/\∀ e pl H',But [lg] H H'->H' lg=some (.lst (xs++[ZQZ]))->H' e=some ZKd->Q .non H'
theorem vw (T:ZN):bR P w K mg base ZT 2 t.f_ba t.fd_ba Z4y (vQ t):=by
 refine T.F_ba.okN DB ZB Z13
 ·obtain⟨p,dx,dz,m,o,Y,W,D,j,r,q,Z,xs,F,i,U,L,wr,d,es,rfl,_⟩:=h;rfl
 ·obtain⟨p,dx,dz,m,o,Y,W,D,j,r,q,Z,xs,F,i,U,L,wr,d,es,rfl,V,hl,G,a2,hq,O,hd,k⟩:=h
  refine⟨_,(bg (bN (cQ (K:=K) FH FK FJ bW Z4 (bf (cE (bf Zj (bf (bI Z77 T.cl_Thread T.me_bw ZFE Z7 T.b_bw .nil bo) aZ))) aZ)))),?_⟩
  refine⟨_,rfl,p,_,dx,_,_,rfl,V,T.cl_Loom,T.na_dk,rfl,.inl ⟨rfl,xs,SqL.of G⟩,_,rfl,?_⟩
  refine⟨_,rfl,p,_,dx,_,_,rfl,V,T.cl_Loom,T.na_bq,rfl,_,rfl,Y,Z,j,Z3L,rfl,rfl,SqL.of hl,cW hq,q,F,_,rfl,O,rfl,?_⟩
  refine⟨q,F,i,U,L,wr,d,es,rfl,O,Z9g,by show 2<=sizeLine;decide,λ b J=>?_⟩
  refine⟨W,xs,Za,rfl,rfl,by rw[aV (ba G J)];exact G,ZJR,k _ _ _ (λ c u n e=>?_) aU (by rw[aV (ba G J).symm];exact aU)⟩
  rw[aV (by simpa using n),aV (ba e J)];exact e
theorem cK {α κ:Type} [ZDb] (f:α->κ) (g:α->V):∀ {l:List α}{a:α},(ZEq).Nodup->a∈l->cf (l.map λ x=>(f x,g x)) (f a)=some (g a)
 | [],_,_,h=>by cases h
 | x::l,a,nd,h=>by
  rw[FL] at nd ⊢
  obtain⟨n1,n2⟩:=ZBg
  by_cases e:f x=f a
  ·rw[ZTK]
   rcases Fi.mp h with rfl|h
   ·rfl
   ·exact absurd (show f x∈l.map f by rw[e];exact Fq h) n1
  ·rw[ZRV]
   rcases Fi.mp h with rfl|h
   ·exact absurd rfl e
   ·exact cK f g n2 h
theorem eV [ZDb] (f:α->κ) (g:α->V):∀ {l:List α},(∀ x∈l,f x≠k)->cf (l.map λ x=>(f x,g x)) k=none
 | [],_=>rfl
 | x::l,h=>by
  rw[FL,cI ZQ8]
  exact eV f g λ y j=>h y ZJ6
theorem cZ {q F G:Type}{f:q->F}{g:F->G}{l:ZVO}(j:∀ a b,g a=g b->a=b) (h:ZSi):(l.map λ x=>g ZVt).Nodup:=by
 unfold List.Nodup at h ⊢
 rw[Gy] at h ⊢
 exact ZDQ
theorem xJ {q F:Type}{g:q->F}{l:ZVO}(j:∀ a b,g a=g b->a=b) (h:l.Nodup):(l.map g).Nodup:=by
 unfold List.Nodup at h ⊢
 rw[Gy]
 exact ZDQ
theorem cJ (a b:Nm3) (h:nk a=nk b):a=b:=by
 obtain⟨x,y,z⟩:=a
 obtain⟨j,q,F⟩:=b
 simp only[nk,List.cons.injEq,Sum.inl.injEq] at h
 obtain⟨rfl,rfl,rfl,_⟩:=h
 rfl
theorem qo (a b:Int×Int) (h:wk a=wk b):a=b:=by
 obtain⟨x,y⟩:=a
 obtain⟨j,q⟩:=b
 simp only[wk,List.cons.injEq,Sum.inl.injEq] at h
 obtain⟨rfl,rfl,_⟩:=h
 rfl
theorem uR {H:Hp}{b:Addr}{n:Nm3}(h:H b=some Z3I):Rp K H Za (ZCU):=.tup (SqT.of h) (.cons (.int _) Z8I)
def Cq (t:Adr):Sp:=λ vs H Q _=>∃ G p dx dz m o lt lg D A h b n e,vs=[Z00,Z8i,Za]/\H p=some Z1X/\Di G H D A/\H b=some Z3I/\e∈A.wy/\(A.wy.map (·.1)).Nodup/\e.1=(n.1,h)/\n∈e.2.2/\e.2.2.Nodup/\(∀ m∈e.2.2,Small m)/\(o=true->∀ m∈e.2.2,cd3 n<=cd3 m) /\
 ∀ H',bj H H'->Q Z3O H'
theorem Ei (T:ZN):bR P w K mg base ZT 3 t.f_bh t.fd_bh Z1K (Cq t):=by
 refine T.F_bh.okN yz ZB ZJ
 ·obtain⟨G,p,dx,dz,m,o,lt,lg,D,A,h,b,n,e,rfl,_⟩:=h;rfl
 ·obtain⟨G,p,dx,dz,m,o,lt,lg,D,Di,h,b,n,e,rfl,hp,di,hb,he,wn,ek,hn,en,sm,od,k⟩:=h
  refine⟨_,(aW (bX (cM (cC (bA (tQ (K:=K) T) Z7 rfl T.mg_dm T.kp_dm T.b_dm .nil bo Z1p)))
    Z2U
    bM)
   (aW (bz (i:=3) yz.nd rfl Z6 (um Z1W Z4 ZB4 vD Z0O))
   (aW (bX (iB (eD Z1W Zj Z1i))
    Z2U
    bM)
   (bg (bC (yG (kr Z4) (fu (cX Z2F Zj (bL (sD rfl Z1W) rfl T.no_min xR Z3J) Z0F)))))))),?_⟩
  refine⟨_,rfl,b,n.1,n.2.1,n.2.2,rfl,hb,λ H1 s1=>ZGw⟩
  refine⟨_,rfl,p,_,dx,_,_,rfl,ZKo,T.cl_Loom,T.na_dc,rfl,D.wy,rfl,.inr ⟨_,.inl (s1 _ _ di.wy)⟩,?_⟩
  refine⟨_,rfl,b,nV n,0,ZXI,rfl,rfl,SqT.of ZFr,cp,_,rfl,by show 2<=sizeLine;decide,λ q hq l hl=>?_⟩
  have s2:bj H Z3p:=s1.trans ZSf
  have s3:bj H (upd Z3p l ZJ8):=s2.trans ZV3
  have hq3:upd Z3p l ZJ8 q=some (.tup ((wk (n.1,h)).map kV)):=by rw[aV (ba aU hl),aU];rfl
  have v1:cf (Di.wy.map λ e=>(Z9V,Z2X)) (wk (n.1,h))=some (.ref e.2.1):=by
   rw[<- ek]
   exact cK ZSP ZI4 (cZ (f:=λ x:(Int×Int)×Addr×List Nm3=>x.1) qo wn) he
  have v2:cf (e.2.2.map λ n=>(Z80,Z1E)) (Z80)=some Z3O:=cK nk ZI5 (xJ cJ en) hn
  refine⟨_,.inr ⟨_,wk (n.1,h),q,.inl (s3 _ _ di.wy),rfl,hq3,v1.symm⟩,?_⟩
  refine⟨_,rfl,_,rfl,e.2.1,_,rfl,.inr ⟨_,Z80,b,ZBl,rfl,ZUS,v2.symm⟩,_,rfl,ZUi⟩
  refine⟨_,rfl,p,_,dx,_,_,rfl,s3 _ _ hp,T.cl_Loom,T.na_bp,rfl,o,rfl,_,rfl,?_⟩
  cases o with
  | false=>exact f9 (k _ s3)
  | true=>
   refine iy ⟨_,rfl,_,rfl,e.2.1,_,e.2.2,rfl,ZBl,?_,GS hn,sm,λ b' n' hn' le hb'=>?_⟩
   ·unfold yQ
    rw[F9]
    rfl
   ·have e1:=od rfl n' hn'
    have e2:=le n hn
    have en:n=n':=qH (sm n hn) (sm n' hn') (by unfold cd3 at e1 ⊢;unfold Tim.dy at e2;lia)
    subst en
    refine⟨_,_,uR ZUS,uR hb',rfl,rfl,?_⟩
    have:PyData.eqv ZCU (ZCU)=true:=jW rfl
    show Q (.bl (PyData.eqv _ _)) _
    rw[this]
    exact k _ s3
noncomputable def cP (wy:List ((Int×Int)×Addr×List Nm3)) (k:Int×Int) (n:Nm3) (q:Addr):List ((Int×Int)×Addr×List Nm3):=
 if k∈wy.map (·.1) then wy.map (λ e=>if e.1=k then (e.1,e.2.1,e.2.2++[n]) else e) else wy++[(k,q,[n])]
noncomputable def DiA.lV (A:DiA) (n:Nm3) (adr:Addr) (to wd:Int) (q:Addr):DiA:={ A with po:=A.po++[⟨n,adr,to,wd⟩],wy:=cP A.wy (n.1,to) n q }
theorem ky:(ZRU).map (·.1)=if k∈wy.map (·.1) then wy.map (·.1) else wy.map (·.1)++[k]:=by
 unfold cP
 by_cases h:k∈wy.map (·.1)
 ·rw[ZOL,ZOL,F9]
  exact FY λ e _=>by
   show (if e.1=k then (e.1,e.2.1,e.2.2++[n]) else e).1=e.1
   by_cases z:e.1=k
   ·rw[ZDY]
   ·rw[ZFZ]
 ·rw[ZMk,ZMk,FF];rfl
theorem gP:e∈cP wy k n q->(∃ e0∈wy,e0.1=k/\e=(e0.1,e0.2.1,e0.2.2++[n]))\/(e∈wy/\e.1≠k)\/(k∉wy.map (·.1)/\e=(k,q,[n])):=by
 unfold cP
 by_cases h:k∈wy.map (·.1)
 ·rw[ZOL,Fw]
  rintro⟨e0,m,rfl⟩
  by_cases z:e0.1=k
  ·rw[ZDY];exact .inl ⟨e0,m,z,rfl⟩
  ·rw[ZFZ];exact .inr (.inl ⟨m,z⟩)
 ·rw[ZMk,Fm,Fd]
  rintro(m|rfl)
  ·exact .inr (.inl ⟨m,λ z=>h (by rw[<- z];exact Fq m)⟩)
  ·exact .inr (.inr ⟨h,rfl⟩)
theorem WfD.lV {m:Int}{c:Int->Int}{A:DiA}(w:ZG6) {n:Nm3}{adr q:Addr}{to wd:Int}(hn:n∉A.po.map (·.nm)) (nta:n∉A.ta.map (·.1))
  (r:0<=n.1/\n.1<m/\1<=n.2.1/\n.2.1<=c n.1/\0<=n.2.2/\n.2.2<3/\0<=to/\to<m):WfD m c (A.lV n adr to wd q):=by
 have nwy:∀ e∈A.wy,n∉e.2.2:=λ e he z=>by
  obtain⟨l,hl,e1,_⟩:=(w.wi e he n).mp z
  exact hn (by rw[<- e1];exact Fq hl)
 refine⟨?_,w.nt,λ l hl=>?_,?_,λ e he n'=>?_,λ e he=>?_,λ l hl nt=>?_,w.t1⟩
 ·show ((A.po++[(⟨n,adr,to,wd⟩:cV)]).map cV.nm).Nodup
  rw[FF]
  refine GC.mpr ⟨w.nd,ZA,λ a ha b hb=>?_⟩
  rw[He,Fd] at hb
  rw[hb];exact λ z=>hn (by have z':a=n:=z;rw[<- z'];exact ha)
 ·rcases Fm.mp hl with hl|hl
  ·exact w.rg l hl
  ·rw[Fd] at hl
   subst hl;exact r
 ·show ((cP A.wy (n.1,to) n q).map (·.1)).Nodup
  rw[ky]
  by_cases h:(n.1,to)∈A.wy.map (·.1)
  ·rw[ZOL];exact w.wn
  ·rw[ZMk]
   refine GC.mpr ⟨w.wn,ZA,λ a ha b hb=>?_⟩
   rw[Fd] at hb
   rw[hb];exact λ z=>h (by rw[<- z];exact ha)
 ·have lift:(∃ l∈A.po++[⟨n,adr,to,wd⟩],l.nm=n'/\n'.1=e.1.1/\l.to=e.1.2/\n'∉A.ta.map (·.1))↔(∃ l∈A.po,l.nm=n'/\n'.1=e.1.1/\l.to=e.1.2/\n'∉A.ta.map (·.1))\/(n=n'/\n'.1=e.1.1/\to=e.1.2/\n'∉A.ta.map (·.1)):=by
   constructor
   ·rintro⟨l,hl,z⟩
    rcases Fm.mp hl with hl|hl
    ·exact .inl ⟨l,hl,z⟩
    ·rw[Fd] at hl
     subst hl;exact ZIs
   ·rintro(⟨l,hl,z⟩|z)
    ·exact⟨l,Ge _ hl,z⟩
    ·exact⟨_,ZX9,z⟩
  show n'∈e.2.2↔∃ l∈A.po++[⟨n,adr,to,wd⟩],l.nm=n'/\n'.1=e.1.1/\l.to=e.1.2/\n'∉A.ta.map (·.1)
  rw[lift]
  rcases gP he with ⟨e0,m0,k0,rfl⟩|⟨m0,k0⟩|⟨nk0,rfl⟩
  ·rw[Fm,Fd,w.wi e0 m0 n']
   refine or_congr Iff.rfl ⟨?_,λ z=>z.1.symm⟩
   rintro rfl
   exact⟨rfl,by rw[k0],by rw[k0],nta⟩
  ·rw[w.wi e m0 n']
   constructor
   ·exact .inl
   ·rintro(z|⟨rfl,z1,z2,_⟩)
    ·exact z
    ·exact absurd (Prod.ext z1.symm z2.symm) k0
  ·rw[Fd]
   constructor
   ·rintro rfl
    exact .inr ⟨rfl,rfl,rfl,nta⟩
   ·rintro(⟨l,hl,rfl,z1,z2,z3⟩|z)
    ·obtain⟨e1,he1,z4⟩:=w.wa l hl z3
     refine absurd ?_ nk0
     rw[Fw]
     refine⟨e1,he1,?_⟩
     rw[z4]
     exact Prod.ext z1 z2
    ·exact z.1.symm
 ·rcases gP he with ⟨e0,m0,k0,rfl⟩|⟨m0,k0⟩|⟨nk0,rfl⟩
  ·refine GC.mpr ⟨w.wd e0 m0,ZA,λ a ha b hb=>?_⟩
   rw[Fd] at hb
   rw[hb];exact λ z=>nwy e0 m0 (by rw[<- z];exact ha)
  ·exact w.wd e m0
  ·show ([n]:Z1w).Nodup
   simp
 ·have keyIn:∀ k,(k∈A.wy.map (·.1)\/k=(n.1,to))->∃ e∈cP A.wy (n.1,to) n q,e.1=k:=λ k hk=>by
   have:k∈(cP A.wy (n.1,to) n q).map (·.1):=by
    rw[ky]
    by_cases h:(n.1,to)∈A.wy.map (·.1)
    ·rw[ZOL]
     rcases hk with hk|rfl
     ·exact hk
     ·exact h
    ·rw[ZMk,Fm,Fd];exact hk
   obtain⟨e,he,z⟩:=Fw.mp this
   exact⟨e,he,z⟩
  rcases Fm.mp hl with hl|hl
  ·obtain⟨e,he,z⟩:=w.wa l hl nt
   exact keyIn _ (.inl (by rw[<- z];exact ZOK))
  ·rw[Fd] at hl
   subst hl
   exact keyIn _ Z9s
theorem WfD.CG (w:ZG6) (V:x.nm∉A.po.map (·.nm)) (ta:x.nm∈A.ta.map (·.1))
  (r:0<=x.nm.1/\x.nm.1<m/\1<=x.nm.2.1/\x.nm.2.1<=c x.nm.1/\0<=x.nm.2.2/\x.nm.2.2<3/\0<=x.to/\x.to<m):WfD m c { A with po:=A.po++[x] }:=by
 have q:∀ l,l∈A.po++[x]->l∈A.po\/l=x:=λ l j=>(Fm.mp j).imp id Fd.mp
 refine⟨?_,w.nt,λ l j=>(q l j).elim (w.rg l) λ z=>by rw[z];exact r,w.wn,λ e U n=>?_,w.wd,λ l j G=>(q l j).elim (λ z=>w.wa l z G) λ z=>absurd (by rw[z];exact ta) G,w.t1⟩
 ·show ((A.po++[x]).map cV.nm).Nodup
  rw[FF]
  refine GC.mpr ⟨w.nd,ZA,λ a O b F=>?_⟩
  rw[He,Fd] at F
  rw[F];exact λ z=>V (by rw[<- z];exact O)
 ·refine(w.wi e U n).trans ⟨λ⟨l,j,z⟩=>⟨l,Ge _ j,z⟩,λ⟨l,j,J,L⟩=>(q l j).elim (λ y=>⟨l,y,J,L⟩) λ y=>?_⟩
  subst y;subst J
  exact absurd ta L.2.2
theorem DiL.fR {L:DiL}{A:DiA}{e:(Int×Int)×Addr×List Nm3}(h:e∈A.wy):e.2.1∈L.own A:=FP _ (Fq h)
theorem DiL.dS {L:DiL}{A:DiA}{b:Addr}(h:b∈L.own A):b=L.po\/b=L.ta\/b=L.wy\/∃ e∈A.wy,b=e.2.1:=by
 rcases Fm.mp h with h|h
 ·simp only[Fi,Ft,F8] at h
  rcases h with h|h|h
  ·exact Z9t
  ·exact ZXN
  ·exact .inr ZXN
 ·obtain⟨e,j,rfl⟩:=Fw.mp h
  exact .inr (.inr (.inr ⟨e,j,rfl⟩))
theorem Di.nes (d:Z6W):L.po≠L.ta/\L.po≠L.wy/\L.ta≠L.wy/\(∀ e∈A.wy,e.2.1≠L.po/\e.2.1≠L.ta/\e.2.1≠L.wy)/\∀ e∈A.wy,∀ F∈A.wy,e.2.1=F.2.1->e=F:=by
 have V:=d.nd
 unfold DiL.own at V
 obtain⟨q,Y,U⟩:=GC.mp V
 simp only[GJ,Fi,Ft,F8,IW] at q
 refine⟨q.1.1,q.1.2,q.2.1,λ e J=>?_,λ e J F O z=>?_⟩
 ·have m:e.2.1∈A.wy.map (·.2.1):=Fq J
  exact⟨λ z=>U L.po ZA _ m z.symm,λ z=>U L.ta Zq _ m z.symm,λ z=>U L.wy ZC6 _ m z.symm⟩
 ·obtain⟨i,hi,rfl⟩:=FQ J
  obtain⟨j,W,rfl⟩:=FQ O
  have:i=j:=(G5 (l:=A.wy.map (·.2.1)) (by simpa using hi) Y).mp (by rw[Ff,Ff,E9 hi,E9 W];exact congrArg some z)
  subst this;rfl
theorem Di.isd {G H:Hp}{L:DiL}{A:DiA}(d:Z6W) {b:Addr}(h:b∈L.own A):∃ kvs,H b=some Zk:=by
 rcases DiL.dS h with rfl|rfl|rfl|⟨e,j,rfl⟩
 ·exact⟨_,d.po⟩
 ·exact⟨_,d.ta⟩
 ·exact⟨_,d.wy⟩
 ·exact⟨_,d.ways e j⟩
theorem Di.frame {G H H':Hp}{L:DiL}{A:DiA}(d:Z6W) (j:∀ b o,b∈L.own A->H b=some o->H' b=some o) (F:ZC9):Di G H' L A:=
 ⟨j _ _ (by unfold DiL.own;simp) d.po,j _ _ (by unfold DiL.own;simp) d.ta,j _ _ (by unfold DiL.own;simp) d.wy,λ e q=>j _ _ (DiL.fR q) (d.ways e q),d.lets,F,d.nd,d.gn⟩
theorem Di.CF {G H H':Hp}{L:DiL}{A:DiA}{x:cV}(d:Z6W) (O:G x.adr=some (.tup [.int x.to,.int x.wd])) (h1:H' L.po=some (.dT ((A.po.map λ l=>(Z0t,Z04))++[(nk x.nm,V.ref x.adr)])))
  (F:∀ b o,b≠L.po->b∈L.own A->H b=some o->H' b=some o) (J:ZC9):Di G H' L { A with po:=A.po++[x] }:=by
 obtain⟨U,W,Z,Y,_⟩:=d.nes
 refine⟨by rw[h1,FF];rfl,F _ _ (Ne.symm U) (by unfold DiL.own;simp) d.ta,F _ _ (Ne.symm W) (by unfold DiL.own;simp) d.wy,λ e q=>F _ _ (Y e q).1 (DiL.fR q) (d.ways e q),λ l j=>?_,J,d.nd,d.gn⟩
 rcases Fm.mp j with j|j
 ·exact d.lets l j
 ·rw[Fd] at j;subst j;exact O
theorem Di.zM {G H H':Hp}{L:DiL}{A:DiA}{n:Nm3}{e0:(Int×Int)×Addr×List Nm3}(d:Z6W) (wn:(A.wy.map (·.1)).Nodup) (q:e0∈A.wy) (h1:H' e0.2.1=some (.dT ((e0.2.2.map λ n=>(Z80,Z1E))++[(Z80,Z1E)])))
  (J:∀ b o,b≠e0.2.1->b∈L.own A->H b=some o->H' b=some o) (hG:ZC9):Di G H' L { A with wy:=ZJQ}:=by
 obtain⟨n1,n2,n3,Z,n5⟩:=d.nes
 have hk:e0.1∈A.wy.map (·.1):=Fq q
 have ew:cP A.wy e0.1 n 0=A.wy.map (λ e=>if e.1=e0.1 then (e.1,e.2.1,e.2.2++[n]) else e):=by unfold cP;rw[Fl hk]
 have O:∀ e:(Int×Int)×Addr×List Nm3,(if e.1=e0.1 then (e.1,e.2.1,e.2.2++[n]) else e).2.1=e.2.1/\(if e.1=e0.1 then (e.1,e.2.1,e.2.2++[n]) else e).1=e.1:=λ e=>by
  by_cases z:e.1=e0.1
  ·rw[ZDY];exact Z0a
  ·rw[ZFZ];exact Z0a
 have eo:L.own { A with wy:=ZJQ}=L.own A:=by
  unfold DiL.own
  rw[ew,F9]
  congr 1
  exact FY λ e _=>(O e).1
 refine⟨J _ _ (λ z=>(Z e0 q).1 z.symm) (by unfold DiL.own;simp) d.po,J _ _ (λ z=>(Z e0 q).2.1 z.symm) (by unfold DiL.own;simp) d.ta,?_,λ e hm=>?_,d.lets,hG,by rw[eo];exact d.nd,by rw[eo];exact d.gn⟩
 ·show H' L.wy=some (.dT ((cP A.wy e0.1 n 0).map λ e=>(Z9V,Z2X)))
  rw[ew,F9,J _ _ (λ z=>(Z e0 q).2.2 z.symm) (by unfold DiL.own;simp) d.wy]
  congr 2
  exact FY λ e _=>by show _=(wk _,V.ref _);rw[(O e).1,(O e).2]
 ·have W:e∈cP A.wy e0.1 n 0:=hm
  rcases gP W with ⟨U,F,Y,rfl⟩|⟨F,Y⟩|⟨z,_⟩
  ·have:U=e0:=by
    obtain⟨i,hi,rfl⟩:=FQ F
    obtain⟨j,hj,rfl⟩:=FQ q
    have:i=j:=(G5 (l:=A.wy.map (·.1)) (by simpa using hi) wn).mp (by rw[Ff,Ff,E9 hi,E9 hj];exact congrArg some Y)
    subst this;rfl
   subst this
   show H' U.2.1=some (.dT ((U.2.2++[n]).map λ n=>(Z80,Z1E)))
   rw[h1,FF];rfl
  ·exact J _ _ (λ z=>Y (by rw[n5 e F e0 q z])) ZUF (d.ways e F)
  ·exact absurd hk z
theorem Di.zY {G H H':Hp}{L:DiL}{A:DiA}{n:Nm3}{q:Addr}{k:Int×Int}(d:Z6W) (nk0:k∉A.wy.map (·.1)) (nq:q∉L.own A) (gq:G q=none) (h1:H' L.wy=some (.dT ((A.wy.map λ e=>(Z9V,Z2X))++[(wk k,V.ref q)]))) (h2:H' q=some (.dT [(Z80,Z1E)]))
  (kp:∀ b o,b≠L.wy->b∈L.own A->H b=some o->H' b=some o) (hG:ZC9):Di G H' L { A with wy:=ZDR}:=by
 obtain⟨n1,n2,n3,n4,n5⟩:=d.nes
 have ew:cP A.wy k n q=A.wy++[(k,q,[n])]:=by unfold cP;rw[Fj nk0]
 have eo:L.own { A with wy:=ZDR}=L.own A++[q]:=by
  unfold DiL.own
  rw[ew,FF,Gd];rfl
 refine⟨kp _ _ n2 (by unfold DiL.own;simp) d.po,kp _ _ n3 (by unfold DiL.own;simp) d.ta,?_,λ e hm=>?_,d.lets,hG,?_,λ b hb=>?_⟩
 ·show H' L.wy=some (.dT ((cP A.wy k n q).map λ e=>(Z9V,Z2X)))
  rw[ew,FF,h1];rfl
 ·have hm':e∈cP A.wy k n q:=hm
  rw[ew] at hm'
  rcases Fm.mp hm' with m2|m2
  ·exact kp _ _ (n4 e m2).2.2 (DiL.fR m2) (d.ways e m2)
  ·rw[Fd] at m2;subst m2;exact h2
 ·rw[eo]
  refine GC.mpr ⟨d.nd,Zq,λ a ha b hb=>?_⟩
  rw[Fd] at hb
  rw[hb];exact λ z=>nq (by rw[<- z];exact ha)
 ·rw[eo] at hb
  rcases Fm.mp hb with hb|hb
  ·exact d.gn b hb
  ·rw[Fd] at hb;rw[hb];exact gq
theorem nB [DecidableEq α]:∀ {a b:List α},a.Nodup->(∀ x∈a,x∈b)->a.length<=b.length
 | [],_,_,_=>ZH9
 | x::a,b,nd,h=>by
  obtain⟨F,G⟩:=ZBg
  have j:=ZQ8
  have:=nB (b:=b.erase x) G λ y q=>(List.mem_erase_of_ne (λ z=>F (by rw[<- z];exact q))).mpr (h y ZP9)
  rw[ZDB] at this
  have:=ZEI
  rw[FV];lia
theorem uy [ZDb] (f:α->κ) (g:α->V):∀ {l:List α},cf (l.map λ x=>(f x,g x)) k=some v->∃ x∈l,f x=k/\v=g x
 | [],h=>by cases h
 | x::l,h=>by
  rw[FL] at h
  by_cases e:f x=k
  ·rw[ZTK] at h
   cases h
   exact⟨x,Fn,e,rfl⟩
  ·rw[ZRV] at h
   obtain⟨y,j,z⟩:=uy f g h
   exact⟨y,Fo _ j,z⟩
theorem lW:(ZRU).length<=wy.length+1:=by
 unfold cP
 by_cases h:k∈wy.map (·.1)
 ·rw[ZOL,Fe];lia
 ·rw[ZMk,Fh];simp
theorem oE {D:DiL}{A:DiA}{n:Nm3}{q adr b:Addr}{k:Int×Int}{po:ZLO}(h:b∈D.own { A with po:=po,wy:=ZDR}):b∈D.own A\/(k∉A.wy.map (·.1)/\b=q):=by
 rcases DiL.dS h with rfl|rfl|rfl|⟨e,he,rfl⟩
 ·exact .inl (by unfold DiL.own;simp)
 ·exact .inl (by unfold DiL.own;simp)
 ·exact .inl (by unfold DiL.own;simp)
 ·have he':e∈cP A.wy k n q:=he
  rcases gP he' with ⟨e0,m0,_,rfl⟩|⟨m0,_⟩|⟨z,rfl⟩
  ·exact .inl (show e0.2.1∈D.own A from ZVe)
  ·exact .inl ZVe
  ·exact .inr ⟨z,rfl⟩
theorem qX (b:ZAW) (n:a∉S) (h:ZAt):ZNx:=by
 rcases h with (h|⟨o,h⟩)|h
 ·exact .inl (.inl ZV5)
 ·exact .inl (.inr ⟨o,ZV5⟩)
 ·exact ZCe
theorem iP (b:But S H H1) (h:a∈S\/H a=none):But S H (upd H1 a o):=λ c u n e=>by
 rw[aV]
 ·exact b c u n e
 ·rintro rfl
  rcases h with h|h
  ·exact n h
  ·rw[h] at e;cases e
noncomputable def lets (s pl:Int) (xs:List (Addr×Int×Int)):ZLO:=xs.mapIdx λ k x=>⟨(s,pl,(k:Int)),x.1,x.2.1,x.2.2⟩
theorem kE:l∈lets s pl xs↔∃ (k:Nat) (x:Addr×Int×Int),xs[k]? = some x/\l=⟨(s,pl,(k:Int)),x.1,x.2.1,x.2.2⟩:=by
 unfold lets
 rw[List.mem_mapIdx]
 constructor
 ·rintro⟨i,h,rfl⟩
  exact⟨i,xs[i],E9 h,rfl⟩
 ·rintro⟨k,x,h,rfl⟩
  obtain⟨j,rfl⟩:=ZLX
  exact⟨k,j,rfl⟩
theorem sR {s pl:Int}{xs:List (Addr×Int×Int)}{i:Nat}{y:Addr×Int×Int}(h:xs[i]? = some y):lets s pl (xs.take (i+1))=lets s pl ZSR++[⟨(s,pl,(i:Int)),y.1,y.2.1,y.2.2⟩]:=by
 unfold lets
 have j:=Z36
 rw[GB,h,Option.toList_some,List.mapIdx_append,F0,Kl (Gq j)]
 simp
def yB (K:W.Frag) (t:Adr):Sp:=λ vs H Q _=>∃ G p dx dz m o lt lg D A l,∃ s pl:Int,∃ xs:List (Addr×Int×Int),∃ m' c,vs=[Z00,ZVm,ZF5,Z8g]/\H p=some Z1X/\Di G H D A/\WfD m' c A/\p∉D.own A/\l∉D.own A /\
 SqL K H l (ZK7)/\xs.length<=3/\(∀ x∈xs,G x.1=some Z0_/\0<=x.2.1/\x.2.1<m')/\0<=s/\s<m'/\1<=pl/\pl<=c s/\(∀ e∈A.po,e.nm.1=s->e.nm.2.1<pl)/\A.po.length<=900/\A.wy.length<=900 /\
 ∀ H' A',But ZCy H H'->Di G H' D A'->WfD m' c A'->A'.ta=A.ta->A'.po=A.po++lets s pl xs->A'.wy.length<=A.wy.length+xs.length->(∀ b∈D.own A',b∈D.own A\/H b=none)->Q .non H'
theorem AF (T:ZN):bR P w K mg base ZT 1 t.f_cu t.fd_cu Z3m (yB K t):=by
 refine T.F_cu.okN n9 ZB ZJ
 ·obtain⟨G,p,dx,dz,m,o,lt,lg,D,A,l,s,pl,xs,m',c,rfl,_⟩:=h;rfl
 ·obtain⟨G,p,dx,dz,m,o,lt,lg,D,A,l,s,pl,xs,m',c,rfl,hp,di,wf,np,nl,hl,few,hx,s0,s1,pl0,pl1,new,f1,f2,k⟩:=h
  refine⟨_,(bg (dD PassesOwn.never rfl (nC (K:=K) rfl T.no_enumerate Z3J) (fb (K:=K) rfl (cq (bG (i:=4) n9.nd rfl Z6) (cq (bG (i:=5) n9.nd rfl Z6) fi)))
    (aW (bz (i:=6) n9.nd rfl Z6 (cE (bf ZQ (bf Zj Z2B))))
   (aW (jI Z1W Z4 Z2E Z01 rfl)
   (bg (bX (iB (eD Z1W Z2E Z4))
    (aW (bz (i:=7) n9.nd rfl Z6 (cQ (K:=K) JB PySem.F.slot_dict_setdefault PySem.F.type_dict_setdefault (pE Z1W) Z4 (bf (cE (bf ZQ Z9C)) (bf gF aZ))))
   (bg (jI Z1W ZCk Z2E fh rfl)))
    bM)))))),?_⟩
  refine⟨_,rfl,l,_,rfl,hl,kP (xs:=ZK7)
   (λ i σ H2=>(∃ A2,But ZCy H H2/\Di G H2 D A2/\WfD m' c A2/\A2.ta=A.ta/\A2.po=A.po++lets s pl ZSR/\A2.wy.length<=A.wy.length+i/\(∀ b∈D.own A2,b∈D.own A\/H b=none))/\∃ a b c d,σ=[Z5z,some ZVm,some ZF5,ZBy,a,b,c,d])
   ⟨⟨A,But.of Z7x,di,wf,rfl,(Gf _).symm,Z9,λ b hb=>ZSJ⟩,_,_,_,_,rfl⟩ ?_ ?_ ?_⟩
  ·rintro i σ H2 hi ⟨⟨A2,bt,_⟩,_⟩
   exact qX bt nl hl
  ·rintro i x pe σ H2 hx' npe ⟨⟨A2,bt,d2,w2,e1,e2,e3,e4⟩,a0,b0,c0,d0,rfl⟩
   obtain⟨y,hy,rfl⟩:∃ y,xs[i]? = some y/\x=.ref y.1:=by
    rw[Ff] at hx'
    cases q:xs[i]? with
    | none=>rw[q] at hx';cases hx'
    | some y=>rw[q] at hx';cases hx';exact⟨y,rfl,rfl⟩
   have hi:i<xs.length:=(Fc.mp hy).1
   obtain⟨ga,t0,t1⟩:=hx y (Fg hy)
   refine⟨pe,_,rfl,ZVD,rfl,_,_,rfl,_,_,rfl,rfl,?_⟩
   refine⟨_,rfl,_,rfl,_,rfl,by show 3<=sizeLine;decide,λ nb hnb=>?_⟩
   let n:Nm3:=(s,pl,(i:Int))
   have s4:bj H2 Z0j:=(bj.new npe).trans (bj.new hnb)
   have hb4:upd (upd H2 pe (.tup [Z2M,.ref y.1])) nb (.tup [ZVm,ZF5,Z2M]) nb=some ZGq:=aU
   have bt4:But ZCy H Z0j:=λ b u nn e=>s4 _ _ (bt b u nn e)
   have d4:Di G Z0j D A2:=d2.frame (λ b u _ e=>ZNP) (λ b u e=>s4 _ _ (d2.held _ _ e))
   generalize upd (upd H2 pe (.tup [.int i,.ref y.1])) nb (.tup [.int s,.int pl,.int i])=H4 at hb4 bt4 d4 ⊢
   have hn:n∉A2.po.map (·.nm):=λ z=>by
    obtain⟨e,he,ez⟩:=ZLV
    rw[e2] at he
    rcases Fm.mp he with he|he
    ·have:=new e he (by rw[ez])
     rw[ez] at this;exact absurd this ZJx
    ·obtain⟨k',x',hx',rfl⟩:=kE.mp he
     have:=(Fc.mp hx').1
     rw[F0] at this
     have ek:(k':Int)=i:=congrArg (λ n:Nm3=>n.2.2) ez
     omega
   have len2:A2.po.length<=A.po.length+i:=by rw[e2,Fh];unfold lets;rw[List.length_mapIdx,F0];omega
   have v1:cf (A2.po.map λ l=>(Z0t,Z04)) (Z80)=none:=eV (λ l:cV=>Z0t) Z5m λ e he z=>hn (by rw[<- cJ _ _ z];exact ZOK)
   refine⟨_,rfl,_,rfl,p,_,dx,_,_,rfl,bt4 _ _ np hp,T.cl_Loom,T.na_cg,rfl,_,rfl,D.po,_,rfl,.inr ⟨_,Z80,nb,d4.po,rfl,hb4,bE (by rw[Fe];omega),rfl⟩,?_⟩
   rw[ja _ v1]
   have nbo:∀ b,b∈D.own A2->nb≠b:=λ b hb z=>by
    obtain⟨kvs,q⟩:=d4.isd hb
    rw[<- z,hb4] at q;cases q
   obtain⟨m1,m2,m3,m4,m5⟩:=d4.nes
   have poI:D.po∈D.own A2:=by unfold DiL.own;simp
   have wyI:D.wy∈D.own A2:=by unfold DiL.own;simp
   have d5:=d4.CF (x:=Z6g) (H':=upd H4 D.po (.dT ((A2.po.map λ l=>(Z0t,Z04))++[(Z80,ZLE)]))) ga aU (λ b u nn _ e=>by rw[aV nn];exact e) (λ b u e=>by rw[aV (ba e (d4.gn _ poI))];exact d4.held _ _ e)
   have hb5:upd H4 D.po (.dT ((A2.po.map λ l=>(Z0t,Z04))++[(Z80,ZLE)])) nb=some ZGq:=by rw[aV (nbo _ poI)];exact hb4
   have bt5:But ZCy H (upd H4 D.po (.dT ((A2.po.map λ l=>(Z0t,Z04))++[(Z80,ZLE)]))):=iP bt4 (e4 _ poI)
   generalize upd H4 D.po (.dT ((A2.po.map λ l=>(nk l.nm,V.ref l.adr))++[(nk n,V.ref y.1)]))=H5 at d5 hb5 bt5 ⊢
   have r:0<=n.1/\n.1<m'/\1<=n.2.1/\n.2.1<=c n.1/\0<=n.2.2/\n.2.2<3/\0<=y.2.1/\y.2.1<m':=⟨s0,s1,pl0,pl1,Int.natCast_nonneg i,by show (i:Int)<3;omega,t0,t1⟩
   have e2':A2.po++[(⟨n,y.1,y.2.1,y.2.2⟩:cV)]=A.po++lets s pl (xs.take (i+1)):=by rw[sR hy,e2,Gd]
   refine⟨_,rfl,_,rfl,p,_,dx,_,_,rfl,ZNl,T.cl_Loom,T.na_cs,rfl,D.ta,_,rfl,.inr ⟨_,Z80,nb,.inl d5.ta,rfl,hb5,rfl⟩,_,rfl,?_⟩
   by_cases nin:n∈A2.ta.map (·.1)
   ·obtain⟨e0,he0,ee⟩:=Fw.mp nin
    have ev:cf (A2.ta.map λ e=>(Z0p,Zw)) (Z80)=some (.int e0.2):=by
     rw[<- ee];exact cK (λ e:Nm3×Int=>Z0p) Z3z (cZ (f:=λ e:Nm3×Int=>e.1) cJ w2.nt) he0
    refine cD (by rw[ev];rfl) ?_
    refine⟨⟨_,bt5,d5,w2.CG (x:=Z6g) hn nin r,e1,e2',by show A2.wy.length<=_;omega,e4⟩,_,_,_,_,rfl⟩
   have nta:cf (A2.ta.map λ e=>(Z0p,Zw)) (Z80)=none:=eV (λ e:Nm3×Int=>Z0p) Z3z λ e he z=>nin (by rw[<- cJ _ _ z];exact ZOK)
   refine eT (by rw[nta];rfl) ?_
   refine⟨_,rfl,p,_,dx,_,_,rfl,ZNl,T.cl_Loom,T.na_dc,rfl,.inr (.inr (.inl ⟨rfl,.inr ⟨_,d5.wy⟩⟩)),_,rfl,_,rfl,y.1,_,0,.int y.2.1,rfl,rfl,SqT.of (d5.held _ _ ga),cp,by show 2<=sizeLine;decide,λ kb hkb q hq=>?_⟩
   have s7:bj H5 ZCj:=(ZTN).trans ZSf
   have hq5:H5 q=none:=(ZTN).free hq
   have hk7:upd Z0r q Z5T kb=some (.tup ((wk (s,y.2.1)).map kV)):=by rw[aV (ba aU hq),aU];rfl
   have hb7:=s7 _ _ hb5
   have bt7:But ZCy H ZCj:=λ b u nn e=>s7 _ _ (bt5 b u nn e)
   have d7:Di G ZCj D { A2 with po:=A2.po++[Z6g] }:=d5.frame (λ b u _ e=>ZBX) (λ b u e=>s7 _ _ ZNj)
   have qq:upd Z0r q Z5T q=some Z5T:=aU
   have hqo:q∉D.own A2:=λ z=>by
    obtain⟨kvs,e⟩:=d5.isd z
    rw[hq5] at e;cases e
   have hqH:H q=none\/q∈D.own A:=by
    cases e:H q with
    | none=>exact Z1x
    | some u=>
     by_cases z:q∈D.own A
     ·exact ZIs
     ·rw[bt5 _ _ z e] at hq5;cases hq5
   generalize upd (upd H5 kb (.tup [.int s,.int y.2.1])) q (.dT [])=H7 at hk7 hb7 bt7 d7 qq ⊢
   refine⟨D.wy,kb,_,wk (s,y.2.1),Z3L,rfl,rfl,d7.wy,hk7,bE (by rw[Fe];show A2.wy.length<=1000;omega),λ v hv=>?_,λ hv=>?_⟩
   ·obtain⟨e0,he0,k0,rfl⟩:=uy (λ e:(Int×Int)×Addr×List Nm3=>Z9V) ZI4 hv
    have k0:=qo _ _ k0
    have he0:e0∈A2.wy:=he0
    have kin:(s,y.2.1)∈A2.wy.map (·.1):=by rw[<- k0];exact Fq he0
    have v2:cf (e0.2.2.map λ n=>(Z80,Z1E)) (Z80)=none:=eV nk ZI5 λ z hz e=>by
     obtain⟨l,hl,q1,_⟩:=ZFc
     exact hn (by rw[<- cJ _ _ e,<- q1];exact Fq hl)
    have way:=d7.ways e0 he0
    have lenw:e0.2.2.length<=A2.po.length:=by
     have:=nB (b:=A2.po.map (·.nm)) (w2.wd e0 he0) λ z hz=>by
      obtain⟨l,hl,q1,_⟩:=ZFc
      rw[<- q1];exact Fq hl
     rwa [Fe] at this
    refine⟨_,rfl,_,rfl,e0.2.1,_,rfl,.inr ⟨_,Z80,nb,way,rfl,hb7,bE (by rw[Fe];omega),rfl⟩,?_⟩
    rw[ja _ v2]
    have own0:e0.2.1∈D.own A2:=ZTo
    have d9:=d7.zM (n:=n) (e0:=e0) (H':=upd H7 e0.2.1 (.dT ((e0.2.2.map λ n=>(Z80,Z1E))++[(Z80,Z1E)]))) w2.wn he0 aU (λ b u nn _ e=>by rw[aV nn];exact e) (λ b u e=>by rw[aV (ba e (d7.gn _ own0))];exact ZNi)
    rw[k0] at d9
    refine⟨⟨A2.lV n y.1 y.2.1 y.2.2 0,iP bt7 (e4 _ own0),d9,ZMJ,e1,e2',?_,λ b hb=>?_⟩,_,_,_,_,rfl⟩
    ·have:=lW (wy:=A2.wy) (k:=(s,y.2.1)) (n:=n) (q:=0)
     show (cP A2.wy (s,y.2.1) n 0).length<=_
     omega
    ·rcases oE (adr:=y.1) hb with hb|⟨z,_⟩
     ·exact e4 b hb
     ·exact absurd kin z
   ·have nin':(s,y.2.1)∉A2.wy.map (·.1):=λ z=>by
     obtain⟨e,he,q1⟩:=ZLV
     refine vY hv ?_
     rw[F9]
     exact Fw.mpr ⟨e,he,by show wk e.1=_;rw[q1]⟩
    have qwy:q≠D.wy:=λ z=>hqo (by rw[z];exact wyI)
    have nbwy:nb≠D.wy:=nbo _ wyI
    have nbq:nb≠q:=λ z=>by rw[z] at hb5;rw[hq5] at hb5;cases hb5
    refine⟨_,rfl,_,rfl,q,_,rfl,.inr ⟨[],Z80,nb,by rw[aV qwy];exact qq,rfl,by rw[aV nbwy];exact hb7,Z3,rfl⟩,?_⟩
    rw[ja _ uD,Kn]
    have gq:G q=none:=by
     cases e:G q with
     | none=>rfl
     | some u=>rw[ZNj] at hq5;cases hq5
    have d9:=d7.zY (n:=n) (q:=q) (k:=(s,y.2.1)) (H':=upd (upd H7 D.wy (.dT ((A2.wy.map λ e=>(Z9V,Z2X))++[(wk (s,y.2.1),V.ref q)]))) q (.dT [(Z80,Z1E)])) nin' hqo gq (by rw[aV (Ne.symm qwy),aU]) aU (λ b u nn ho e=>by rw[aV (λ z=>hqo (by rw[<- z];exact ho)),aV nn];exact e) (λ b u e=>by rw[aV (ba e gq),aV (ba e (d7.gn _ wyI))];exact ZNi)
    refine⟨⟨A2.lV n y.1 y.2.1 y.2.2 q,iP (iP bt7 (e4 _ wyI)) hqH.symm,d9,ZMJ,e1,e2',?_,λ b hb=>?_⟩,_,_,_,_,rfl⟩
    ·have:=lW (wy:=A2.wy) (k:=(s,y.2.1)) (n:=n) (q:=q)
     show (cP A2.wy (s,y.2.1) n q).length<=_
     omega
    ·rcases oE (adr:=y.1) hb with hb|⟨_,rfl⟩
     ·exact e4 b hb
     ·exact hqH.symm
  ·rintro σ H2 ⟨⟨A2,bt,d2,w2,e1,e2,e3,e4⟩,_⟩
   rw[Fe] at e2 e3
   rw[Hb] at e2
   exact k H2 A2 bt d2 w2 e1 e2 e3 e4
noncomputable def Ej (c k b:Int):Int:=
 let x:=(c+7919*k+1)*48271%2147483647
 let y:=x*(x/1009+69621)%2147483647
 y*(y/2003+40692)%2147483399%b
noncomputable def vN (c b:Int) (i:Nat):Int:=Nat.repeat (λ r=>r/b) i (c/2)
noncomputable def qa (c k b:Int):Int:=if c%2=1/\vN c b k.toNat>0 then vN c b k.toNat%b else Ej c k b
def xY:Sp:=λ vs H Q _=>∃ c k b:Int,vs=[Z7s,.int k,.int b]/\0<=k/\k<=900/\0<b/\b<=10000/\∀ d:Int,d=qa c k b->0<=d->d<b->Q Z9r H
theorem kq (T:ZN):bR P w K mg base ZT 1 t.f_ck t.fd_ck Z45 xY:=by
 refine T.F_ck.okN md ZB Z9O
 ·obtain⟨c,k,b,rfl,_⟩:=h;rfl
 ·obtain⟨c,k,b,rfl,k0,k1,G,Z,L⟩:=h
  refine⟨_,(aW (bX (bH eX ZP4 bh Z0F)
    (aW (bz (i:=3) md.nd rfl Z6 ZP3)
   (aW (dD PassesOwn.never rfl ZFG (bG (i:=4) md.nd rfl Z6)
    (bg (bz (i:=3) md.nd rfl Z6 (bB cx Z1i Zj))))
   (bg (bX (bH tJ Z1i bh Z0F)
    (bg (bC (bB bU Z1i Zj)))
    bM))))
    bM)
   (aW (bz (i:=5) md.nd rfl Z6 (bB bU (bB iC (bB cY (bB cY Ze (bB iC bh ZQ)) bh) bh) bh))
   (aW (bz (i:=5) md.nd rfl Z6 Z66)
   (bg (bC (bB bU Z66 Zj)))))),?_⟩
  have O:∀ x:Int,-(2 ^ 64)<x%2147483647/\x%2147483647<2 ^ 64:=λ x=>by
   have h1:=F7 x (b:=2147483647) Z3
   have h2:=FW x (b:=2147483647) Z3
   lia
  have rest:∀ q F J:Option V,qa c k b=Ej c k b->jF
   (qd
    (tOp (rI (λ x j=>0<j) λ i j=>V.int (i%j))
     (tOp (rI oC λ i j=>V.int (i*j))
      (tOp (rI0 λ i j=>V.int (i+j))
       (tOp (rI0 λ i j=>V.int (i+j)) ZIz
        (tOp (rI oC λ i j=>V.int (i*j)) (tC (V.int 7919)) ZLw))
       Z6G)
      (tC (V.int 48271)))
     ZFD)
    (dq 5))
   (jF
    (qd
     (tOp (rI (λ x j=>0<j) λ i j=>V.int (i%j))
      (tOp (rI oC λ i j=>V.int (i*j)) ZIy
       (tOp (rI0 λ i j=>V.int (i+j)) (tOp (rI oz λ i j=>V.int (i/j)) ZIy (tC (V.int 1009)))
        (tC (V.int 69621))))
      ZFD)
     (dq 5))
    (uZ
     (tOp (rI (λ x j=>0<j) λ i j=>V.int (i%j))
      (tOp (rI (λ x j=>0<j) λ i j=>V.int (i%j))
       (tOp (rI oC λ i j=>V.int (i*j)) ZIy
        (tOp (rI0 λ i j=>V.int (i+j)) (tOp (rI oz λ i j=>V.int (i/j)) ZIy (tC (V.int 2003)))
         (tC (V.int 40692))))
       (tC (V.int 2147483399)))
      (cu 2))))
   { nx:=λ x H'=>Z88,rt:=Q } [Z1k,ZNM,ZNN,q,F,J] H:=λ q F J W=>by
   refine⟨_,rfl,_,rfl,_,_,rfl,rfl,.inl Z0I,_,_,rfl,rfl,_,_,rfl,rfl,_,_,rfl,rfl,ZO_,_,_,rfl,rfl,by show (0:Int)<2147483647;decide,?_⟩
   refine⟨_,rfl,_,rfl,_,_,rfl,rfl,Z0I,_,_,rfl,rfl,_,_,rfl,rfl,ZTw,_,_,rfl,rfl,by show (0:Int)<2147483647;decide,?_⟩
   refine⟨_,rfl,_,rfl,_,_,rfl,rfl,Z0I,_,_,rfl,rfl,_,_,rfl,rfl,ZTw,_,_,rfl,rfl,by show (0:Int)<2147483399;decide,_,rfl,_,_,rfl,rfl,G,?_⟩
   exact L _ W.symm ZS2 ZXg
  refine⟨_,rfl,_,_,rfl,rfl,by show (0:Int)<2;decide,rfl,_,rfl,cU Z5X λ z=>ZNU⟩
  rotate_left
  ·unfold qa;rw[Fj λ y=>z (by show decide (V.int (c%2)=V.int 1)=true;rw[y.1];rfl)]
  have Y:c%2=1:=by simpa using z
  refine⟨_,rfl,_,_,rfl,rfl,Z0I,?_⟩
  refine⟨_,rfl,k,rfl,Z2,Z2,dQ (lo:=0) (λ i σ H'=>H'=H/\∃ (q F:Option V),σ=[Z1k,ZNM,ZNN,some (.int (vN c b i)),q,F]) ⟨rfl,_,_,rfl⟩ ?_ ?_⟩
  ·rintro i σ H' hi ⟨rfl,q,F,rfl⟩
   exact⟨_,rfl,_,rfl,_,_,rfl,rfl,⟨G,Z2⟩,rfl,_,_,rfl⟩
  ·rintro σ H' ⟨rfl,q,F,rfl⟩
   refine⟨_,rfl,_,_,rfl,rfl,_,rfl,cU (λ y=>⟨_,rfl,_,rfl,_,_,rfl,rfl,G,L _ ?_ ZS2 ZXg⟩) λ y=>ZNU⟩
   ·unfold qa;rw[Fl ⟨Y,by simpa using y⟩]
   ·unfold qa;rw[Fj λ x=>y (by simpa using x.2)]
theorem gT:∃ j,dU Z2O lo hi=iV j/\j.length<=ns.length:=by
 refine⟨(ns.drop (HT.sIx (ZNc).length 0 lo)).take (HT.sIx (ZNc).length (ZNc).length hi-HT.sIx (ZNc).length 0 lo),?_,?_⟩
 ·unfold dU iV
  rw[List.map_take,List.map_drop]
 ·rw[F0,JG];lia
def yp (K:W.Frag):Sp:=λ vs H Q _=>∃ c m h st:Int,∃ v,vs=[Z7s,Z4Q,Z8i,ZAX,v]/\2<=m/\m<=10/\0<=h/\h<m/\(v=.non\/∃ wd,v=.int wd) /\
 ∀ (H':Hp) (r:Addr) (st':Int) (l1 l2:Addr) (ls:List (Addr×Int×Int)) (ws:List Int),bj H H'->H' r=some (.tup [.int st',.ref l1,.ref l2])->H' l1=some (.lst (ls.map λ x:Addr×Int×Int=>Z9d))->ls.length<=3->(∀ x∈ls,H' x.1=some Z0_/\0<=x.2.1/\x.2.1<m)->H' l2=some (.lst ZLt)->ws.length<=10->Q Z5K H'
theorem Cs (T:ZN):bR P w K mg base ZT 2 t.f_de t.fd_de Z1I (yp K):=by
 refine T.F_de.okN mn ZB ZJ
 ·obtain⟨c,m,h,st,v,rfl,_⟩:=h;rfl
 ·obtain⟨c,m,h,st,v,rfl,m0,m1,h0,h1,hv,k⟩:=h
  refine⟨_,(aW (bz (i:=5) mn.nd rfl Z6 (bB iC (bB cY (bB iC Zj bh) (bB bU Z1i bh)) bh))
   (aW (bX (bH iO Z0C fX Z0F)
    (bg (bz (i:=5) mn.nd rfl Z6 (bB cY ZN2 ZN4)))
    bM)
   (aW (bz (i:=6) mn.nd rfl Z6 (bA Z6t Z7 rfl T.mg_ck T.kp_ck T.b_ck .nil bo (bf Ze (bf Z01 Z4q))))
   (aW (bz (i:=7) mn.nd rfl Z6 Z3S)
   (aW (dD PassesOwn.never rfl (c8 rfl T.no_range (bf (bB bU Z6I bh) aZ)) (bG (i:=8) mn.nd rfl Z6)
    (bg (bN (cQ (K:=K) FH FK FJ bW ZCk (bf (cE (bf (bB bU (bB cY Z6I (bB iC Z9x Z6I)) ZQ) (bf (bB cY Z6I Z9x) aZ))) aZ)))))
   (bg (bC (cE (bf ZN3 (bf ZCk (bf (dZ Z4n (cg (bf Z6I aZ)) eO (eY (cF tF rfl T.no_int yL (bf (cX eX ZN3 bh Z0F) aZ)))) aZ))))))))))),?_⟩
  have key:∀ at':Int,0<=at'->at'<=900->jF
    (qd (rz xY [] ER0 (dH ZIz (dH ZIy (dH (tC (V.int 3000)) gv)))) (dq 6))
    (jF (qd ZSW (dq 7))
     (jF
      (Eu
       (yS
        (dH
         (tOp (rI (λ x j=>0<j) λ i j=>V.int (i%j))
          (tOp (rI oz λ i j=>V.int (i/j)) Z9z ZMz) ZN0)
         gv))
       (dq 8)
       (yE
        (tBM K "list" iY ZVx
         (dH
          (yU
           (dH
            (tOp (rI (λ x j=>0<j) λ i j=>V.int (i%j))
             (tOp (rI0 λ i j=>V.int (i+j))
              (tOp (rI oz λ i j=>V.int (i/j)) Z9z (tC (V.int 24)))
              (tOp (rI oC λ i j=>V.int (i*j)) ZVw
               (tOp (rI oz λ i j=>V.int (i/j)) Z9z (tC (V.int 120)))))
             (cu 1))
            (dH
             (tOp (rI0 λ i j=>V.int (i+j))
              (tOp (rI oz λ i j=>V.int (i/j)) Z9z (tC (V.int 7))) ZVw)
             gv)))
          gv))))
      (uZ
       (yU
        (dH (tOp (rI (λ x j=>0<j) λ i j=>V.int (i%j)) Z9z ZMz)
         (dH ZVx
          (dH
           (tSl ZVo (tG (dH (tOp (rI oz λ i j=>V.int (i/j)) Z9z ZDj) gv))
            m9
            (u9
             (tCB v5
              (dH
               (tOp rEq (tOp (rI (λ x j=>0<j) λ i j=>V.int (i%j)) Z9z ZN0)
                (ZFq))
               gv))))
           gv))))))) { nx:=λ x H'=>Z88,rt:=Q } [Z1k,ZEj,ZWK,ZNL,Z4c,Z7T,none,none,none] H:=λ at' a0 a1=>by
   refine⟨_,rfl,_,rfl,c,at',3000,rfl,a0,a1,Z3,Z3,λ d de d0 d1=>?_⟩
   refine Z8J
   have b0:=F7 (d/6) (b:=4) Z3
   have b1:=FW (d/6) (b:=4) Z3
   refine⟨_,rfl,_,_,rfl,rfl,Z0I,_,_,rfl,rfl,by show (0:Int)<4;decide,d/6%4,rfl,Z2,Z2,dQ (lo:=0)
    (λ i σ H2=>(∃ ls:List (Addr×Int×Int),ls.length=i/\H2 l=some ZDx/\(∀ x∈ls,H2 x.1=some Z0_/\0<=x.2.1/\x.2.1<m)/\bj H H2)/\∃ o,σ=[Z1k,ZEj,ZWK,ZNL,Z4c,Z7T,some Z9r,ZBy,o])
    ⟨⟨[],rfl,aU,(λ x hx=>by cases hx),bj.new hl⟩,_,rfl⟩ ?_ ?_⟩
   ·rintro i σ H2 hi ⟨⟨ls,len,el,hls,sm⟩,o,rfl⟩
    refine Z79
    refine⟨_,rfl,_,_,rfl,rfl,Z0I,_,rfl,_,rfl,_,_,rfl,rfl,Z0I,_,_,rfl,rfl,ZI1,_,_,rfl,rfl,_,rfl,_,_,rfl,rfl,Z2,?_⟩
    refine⟨_,rfl,_,_,rfl,rfl,Z0I,_,rfl,_,_,rfl,rfl,by show 2<=sizeLine;decide,λ q hq=>?_⟩
    refine⟨l,_,Z3L,rfl,rfl,by rw[aV (ba el hq)];exact el,bE (by rw[Fe];lia),?_⟩
    have nlq:q≠l:=λ z=>by rw[z,el] at hq;cases hq
    refine⟨⟨ls++[(q,(d/24+(0+(i:Int))*(d/120))%m,d/7+(0+(i:Int)))],by rw[Fh,len];rfl,by rw[aU,FF];rfl,λ x hx=>?_,λ b u e=>?_⟩,_,rfl⟩
    ·rcases Fm.mp hx with hx|hx
     ·obtain⟨z1,z2⟩:=ZBZ
      refine⟨?_,z2⟩
      rw[aV (λ z=>by rw[z,el] at z1;cases z1),aV (ba z1 hq)];exact z1
     ·rw[Fd] at hx
      subst hx
      exact⟨by rw[aV nlq,aU],ZS2,FW _ Z2⟩
    ·rw[ZAs,aV (ba ZWO hq)];exact ZWO
   ·rintro σ H2 ⟨⟨ls,len,el,hls,sm⟩,o,rfl⟩
    refine⟨_,rfl,_,_,rfl,rfl,by show (0:Int)<6;decide,_,rfl,?_⟩
    refine⟨_,rfl,_,_,rfl,rfl,Z0I,by show 1<=sizeLine;decide,λ l5 hl5=>?_⟩
    refine⟨_,rfl,_,_,rfl,rfl,by show (0:Int)<4;decide,rfl,_,rfl,_,rfl,l5,_,rfl,ZCF,λ l6 hl6=>⟨by show 3<=sizeLine;decide,λ r hr=>?_⟩⟩
    obtain⟨ws,ew,lw⟩:=gT (ns:=[d/5]) (lo:=none) (hi:=some (if decide (V.int (d%4)=V.int 0)=true then 1 else 0))
    have s5:bj H2 (upd H2 l5 (.lst [V.int (d/5)])):=bj.new hl5
    have s6:bj H2 (upd (upd H2 l5 (.lst [V.int (d/5)])) l6 (.lst (dU [V.int (d/5)] none (some (if decide (V.int (d%4)=V.int 0)=true then 1 else 0))))):=s5.trans (bj.new hl6)
    have s7:=s6.trans (bj.new (o:=.tup [V.int (d%6),Z8g,.ref l6]) hr)
    refine k _ r _ l l6 ls ws (sm.trans s7) aU (s7 _ _ el) Z2 (λ x hx=>⟨s7 _ _ (ZBZ).1,(ZBZ).2⟩) ?_ (FC lw (by show 1<=10;decide))
    rw[aV (ba aU hr),aU,<- ew];rfl
  have e0:=F7 st (b:=6) Z3
  have e1:=FW st (b:=6) Z3
  refine⟨_,rfl,_,_,rfl,rfl,ZO_,_,rfl,_,_,rfl,rfl,by show (0:Int)<6;decide,_,_,rfl,rfl,_,_,rfl,rfl,ZO_,?_⟩
  rcases hv with rfl|⟨wd,rfl⟩
  ·exact⟨_,rfl,rfl,_,rfl,cD rfl ZRL⟩
  ·have f0:=F7 wd (b:=3) Z3
   have f1:=FW wd (b:=3) Z3
   exact⟨_,rfl,rfl,_,rfl,eT rfl ⟨_,rfl,_,_,rfl,rfl,_,rfl,_,_,rfl,rfl,by show (0:Int)<3;decide,_,_,rfl,rfl,ZRL⟩⟩
def zS (K:W.Frag):List V->Sp:=λ ws vs H Q E=>∃ c m:Int,∃ h st v,ws=[Z7s,Z4Q]/\vs=[h,st,v]/\yp K [Z7s,Z4Q,h,st,v] H Q E
theorem B2 (T:ZN):ir P w K mg base ZT 3 "_law_loom.<locals>.<lambda>" sV Z83 Z06 (zS K):=by
 refine xt vt (λ J vs H Q E h=>?_) (λ _ _ _ _ G q=>match G,q with | [_,_,_],_=>rfl) (λ f j cl A outer s H J vs Q E F L h=>?_)
 ·obtain⟨c,m,h,st,v,_,rfl,_⟩:=h;rfl
 ·obtain⟨c,m,h,st,v,rfl,rfl,k⟩:=h
  refine⟨_,(bA (Cs (K:=K) T) Z9E rfl T.mg_de T.kp_de T.b_de .nil bo (bf Z1i (bf Z0C (bf Ze Z6w)))),?_⟩
  exact⟨_,rfl,_,rfl,_,rfl,_,rfl,_,rfl,k⟩
theorem WfD.mono (w:ZG6) (h:∀ x,c x<=c' x):WfD m c' A:=
 ⟨w.nd,w.nt,λ l j=>let ⟨q,F,G,J,L⟩:=w.rg l j;⟨q,F,G,Int.le_trans J (h _),L⟩,w.wn,w.wi,w.wd,w.wa,w.t1⟩
noncomputable def ig (wy:List ((Int×Int)×Addr×List Nm3)) (k:Int×Int) (n:Nm3):List ((Int×Int)×Addr×List Nm3):=wy.map λ e=>if e.1=k then (e.1,e.2.1,e.2.2.filter λ x=>decide (x≠n)) else e
theorem fF (k:Int×Int) (n:Nm3) (e:(Int×Int)×Addr×List Nm3):(if e.1=k then (e.1,e.2.1,e.2.2.filter λ x=>decide (x≠n)) else e).1=e.1/\(if e.1=k then (e.1,e.2.1,e.2.2.filter λ x=>decide (x≠n)) else e).2.1=e.2.1:=by
 by_cases z:e.1=k
 ·rw[ZDY];exact Z0a
 ·rw[ZFZ];exact Z0a
theorem pF:(ig wy k n).map (·.1)=wy.map (·.1):=by
 unfold ig
 rw[F9]
 exact FY λ e _=>(fF k n e).1
theorem eC {A:DiA}(G:(A.po.map (·.nm)).Nodup) {l q:cV}(h:l∈A.po) (h':q∈A.po) (e:l.nm=q.nm):l=q:=by
 obtain⟨i,hi,rfl⟩:=FQ h
 obtain⟨j,F,rfl⟩:=FQ h'
 have:i=j:=(G5 (l:=A.po.map (·.nm)) (by simpa using hi) G).mp (by rw[Ff,Ff,E9 hi,E9 F];exact Z5b)
 subst this;rfl
noncomputable def DiA.take (A:DiA) (l:cV) (pl:Int):DiA:={ A with ta:=A.ta++[(l.nm,pl)],wy:=ig A.wy (l.nm.1,l.to) l.nm }
theorem WfD.take {m:Int}{c:Int->Int}{A:DiA}(w:ZG6) {l:cV}{pl:Int}(hl:l∈A.po) (nt:l.nm∉A.ta.map (·.1)) (Z:1<=pl):WfD m c ZA5:=by
 have V:∀ n,n∈(A.ta++[(l.nm,pl)]).map (·.1)↔n∈A.ta.map (·.1)\/n=l.nm:=λ n=>by rw[FF,Fm];simp
 refine⟨w.nd,?_,w.rg,by show ((ig A.wy _ _).map (·.1)).Nodup;rw[pF];exact w.wn,λ e J n=>?_,λ e J=>?_,λ G Y a1=>?_,λ e J=>?_⟩
 ·show ((A.ta++[(l.nm,pl)]).map (·.1)).Nodup
  rw[FF]
  refine GC.mpr ⟨w.nt,Zq,λ a ha b hb z=>?_⟩
  have W:b=l.nm:=by simpa using hb
  exact nt (by rw[<- W,<- z];exact ha)
 ·obtain⟨j,F,rfl⟩:=Fw.mp (show e∈A.wy.map _ from J)
  rw[ZQo]
  show _↔∃ G∈A.po,G.nm=n/\n.1=j.1.1/\G.to=j.1.2/\n∉(A.ta++[(l.nm,pl)]).map (·.1)
  have base:=w.wi j F n
  by_cases z:j.1=(l.nm.1,l.to)
  ·rw[ZDY]
   show n∈j.2.2.filter _↔_
   rw[FN,base]
   constructor
   ·rintro⟨⟨G,h1,h2,L,O,U⟩,h6⟩
    exact⟨G,h1,h2,L,O,λ q=>(ZU9).elim U (by simpa using h6)⟩
   ·rintro⟨G,h1,h2,L,O,U⟩
    exact⟨Z6L,by rw[F3];exact λ q=>U ((V n).mpr (.inr q))⟩
  ·rw[ZFZ,base]
   constructor
   ·rintro⟨G,h1,h2,L,O,U⟩
    refine⟨G,h1,h2,L,O,λ q=>(ZU9).elim U λ y=>z ?_⟩
    have:G=l:=eC w.nd h1 hl (h2.trans y)
    subst this
    subst y
    exact Prod.ext L.symm O.symm
   ·rintro⟨G,h1,h2,L,O,U⟩
    exact Z6L
 ·obtain⟨j,F,rfl⟩:=Fw.mp (show e∈A.wy.map _ from J)
  by_cases z:j.1=(l.nm.1,l.to)
  ·rw[ZDY];exact(ZWE).filter _
  ·rw[ZFZ];exact ZWE
 ·obtain⟨j,F,z⟩:=w.wa G Y λ q=>a1 ((V _).mpr ZLi)
  exact⟨_,Fw.mpr ⟨j,F,rfl⟩,by rw[ZQo];exact z⟩
 ·rcases Fm.mp J with J|J
  ·exact w.t1 e J
  ·rw[Fd] at J
   subst J;exact Z
theorem Di.take {G H H':Hp}{L:DiL}{A:DiA}{l:cV}{pl:Int}{e0:(Int×Int)×Addr×List Nm3}(d:Z6W) (wn:(A.wy.map (·.1)).Nodup) (J:e0∈A.wy) (k0:e0.1=(l.nm.1,l.to))
  (h1:H' L.ta=some (.dT ((A.ta.map λ e=>(Z0p,Zw))++[(Z0t,V.int pl)]))) (h2:H' e0.2.1=some (.dT ((e0.2.2.filter λ x=>decide (x≠l.nm)).map λ n=>(Z80,Z1E))))
  (U:∀ b o,b≠L.ta->b≠e0.2.1->b∈L.own A->H b=some o->H' b=some o) (Y:ZC9):Di G H' L ZA5/\L.own ZA5=L.own A:=by
 obtain⟨n1,n2,n3,W,n5⟩:=d.nes
 have O:L.own ZA5=L.own A:=by
  show [L.po,L.ta,L.wy]++(ig A.wy (l.nm.1,l.to) l.nm).map (·.2.1)=[L.po,L.ta,L.wy]++A.wy.map (·.2.1)
  unfold ig
  rw[F9]
  congr 1
  exact FY λ e _=>(ZNf).2
 refine⟨⟨U _ _ n1 (λ z=>(W e0 J).1 z.symm) (by unfold DiL.own;simp) d.po,?_,?_,λ e hm=>?_,d.lets,Y,by rw[O];exact d.nd,by rw[O];exact d.gn⟩,O⟩
 ·show H' L.ta=some (.dT ((A.ta++[(l.nm,pl)]).map λ e=>(Z0p,Zw)))
  rw[h1,FF];rfl
 ·show H' L.wy=some (.dT ((ig A.wy (l.nm.1,l.to) l.nm).map λ e=>(Z9V,Z2X)))
  unfold ig
  rw[F9,U _ _ (Ne.symm n3) (λ z=>(W e0 J).2.2 z.symm) (by unfold DiL.own;simp) d.wy]
  congr 2
  exact FY λ e _=>by show _=(wk _,V.ref _);rw[(ZNf).1,(ZNf).2]
 ·obtain⟨q,F,rfl⟩:=Fw.mp (show e∈A.wy.map _ from hm)
  by_cases z:q.1=(l.nm.1,l.to)
  ·have:q=e0:=by
    obtain⟨i,hi,rfl⟩:=FQ F
    obtain⟨j,Z,rfl⟩:=FQ J
    have:i=j:=(G5 (l:=A.wy.map (·.1)) (by simpa using hi) wn).mp (by rw[Ff,Ff,E9 hi,E9 Z];exact congrArg some (z.trans k0.symm))
    subst this;rfl
   subst this
   rw[ZDY];exact h2
  ·rw[ZFZ]
   exact U _ _ (W q F).2.1 (λ y=>z (by rw[n5 q F e0 J y];exact k0)) ZUF (d.ways q F)
theorem pJ {ns:Z1w}{n:Nm3}:lY (ns.map λ n=>(Z80,Z1E)) (Z80)=(ns.filter λ x=>decide (x≠n)).map λ n=>(Z80,Z1E):=by
 unfold lY
 rw[List.filter_map]
 congr 1
 refine List.filter_congr λ x _=>?_
 show decide (nk x≠nk n)=decide (x≠n)
 rw[Hr]
 exact⟨λ h e=>h (by rw[e]),λ h e=>h (cJ _ _ e)⟩
structure LoL where
 (p dx dz lt lg:Addr)
 D:DiL
 ths:List ThL
structure LoA where
 many:Nat
 ord:Bool
 fr:Z11
 ths:Z9i
 A:DiA
 b:Int->Int
noncomputable def cnt (ths:Z9i) (h:Int):Int:=match ths[h.toNat]? with
 | some T=>T.evs.length
 | none=>0
noncomputable def ThL.ad (q:ThL):Z09:=[q.p,q.dn,q.wr]
noncomputable def LoL.own (L:LoL) (A:LoA):Z09:=[L.p,L.lt,L.lg]++(L.ths.flatMap ThL.ad++L.D.own A.A)
structure TWf (n:Nat) (T:ThA):Prop where
 ne:T.ws≠[]
 so:T.ws.Pairwise (· < ·)
 rg:∀ z∈T.ws,0<=z/\z<=T.evs.length
 dn:T.down<=T.evs.length
 d0:0<=T.down
 en:T.evs.length<=n
 wn:T.ws.length<=n+1
def XsO (H:Hp) (xs:Z11):Prop:=xs=[]\/∃ b n,xs=[Za]/\H b=some Z3I
theorem XsO.keep (h:XsO H xs) (k:∀ b xs,H b=some Zb->H' b=some Zb):XsO H' xs:=h.imp id λ⟨b,n,e,z⟩=>⟨b,n,e,k _ _ z⟩
def xn (m:Nat) (H:Hp) (x:V):Prop:=∃ e r pl s,∃ h:Nat,∃ xs,x=.ref e/\H e=some ZKd/\H r=some (.tup (.str s :: .int h::xs))/\h<m/\PyData.strOk s=true/\XsO H xs
theorem xn.keep (h:xn m H x) (k:∀ b xs,H b=some Zb->H' b=some Zb):xn m H' x:=by
 obtain⟨e,r,G,s,i,xs,ex,j,F,q,J,L⟩:=h
 exact⟨e,r,G,s,i,xs,ex,k _ _ j,k _ _ F,q,J,L.keep k⟩
structure LoC (K:W.Frag) (t:Adr) (G H:Hp) (L:LoL) (A:LoA):Prop where
 self:H L.p=some (.ins t.c_Loom L.dx (loF L.dz A.many A.ord L.lt L.lg L.D))
 tl:H L.lt=some (.lst Z29)
 th:∀ (i:Nat) q T,L.ths[i]? = some q->A.ths[i]? = some T->Th K t G H q T
 len1:L.ths.length=A.many
 len2:A.ths.length=A.many
 log:∃ xs,H L.lg=some Zu
 di:Di G H L.D A.A
 clo:mV G "_law_loom.<locals>.<lambda>" sV Z06 L.dz A.fr
 held:ZG1
 gn:∀ b∈L.own A,G b=none
 td:∀ (i j:Nat) q r,L.ths[i]? = some q->L.ths[j]? = some r->i≠j->∀ x∈q.ad,x∉r.ad
 tb:∀ (i:Nat) q,L.ths[i]? = some q->∀ x∈q.ad,x∉[L.p,L.lt,L.lg]
 ll:L.lt≠L.lg
def Big:HO->Prop
 | .ins _ _ _=>True
 | .lst _=>True
 | .dT _=>True
 | _=>False
section
variable {G H G' H':Hp}{L:LoL}{A:LoA}
theorem LoC.DR (c:Z0E) {i:Nat}{q:ThL}(h:L.ths[i]? = some q):∃ T,A.ths[i]? = some T/\Th K t G H q T:=by
 have hi:=Z36
 have e:=E9 (l:=A.ths) (i:=i) (by rw[c.len2,<- c.len1];exact hi)
 exact⟨_,e,c.th i q _ h e⟩
theorem Th.kind (h:Th K t G H q T) (j:b∈q.ad):(∃ C dx fs,H b=some Z0T)\/∃ xs,H b=some Zu:=by
 unfold ThL.ad at j
 simp only[Fi,Ft,F8] at j
 obtain⟨es,F,_⟩:=h.done
 rcases j with rfl|rfl|rfl
 ·exact .inl ⟨_,_,_,h.self⟩
 ·exact .inr ⟨_,F⟩
 ·exact .inr ⟨_,h.gg⟩
theorem LoL.dS (h:b∈L.own A):b∈[L.p,L.lt,L.lg]\/(∃ (i:Nat) (q:ThL),L.ths[i]? = some q/\b∈q.ad)\/b∈L.D.own A.A:=by
 rcases Fm.mp h with h|h
 ·exact Z9t
 ·rcases Fm.mp h with h|h
  ·obtain⟨q,j,z⟩:=JE.mp h
   obtain⟨i,hi⟩:=HG j
   exact .inr (.inl ⟨i,q,hi,z⟩)
  ·exact .inr ZCe
theorem LoL.iK (h:b∈[L.p,L.lt,L.lg]):b∈L.own A:=ZVX
theorem LoL.f7 {b:Addr}{i:Nat}{q:ThL}(h:L.ths[i]? = some q) (j:b∈q.ad):b∈L.own A:=FP _ (Ge _ (JE.mpr ⟨q,Fg h,j⟩))
theorem LoL.kR (h:b∈L.D.own A.A):b∈L.own A:=FP _ (FP _ h)
theorem LoC.xM (c:Z0E) (h:b∈[L.p,L.lt,L.lg]):(∃ C dx fs,H b=some Z0T)\/∃ xs,H b=some Zu:=by
 simp only[Fi,Ft,F8] at h
 obtain⟨es,j⟩:=c.log
 rcases h with rfl|rfl|rfl
 ·exact .inl ⟨_,_,_,c.self⟩
 ·exact .inr ⟨_,c.tl⟩
 ·exact .inr ⟨_,j⟩
theorem LoC.big (c:Z0E) {b:Addr}(h:b∈L.own A):∃ o,H b=some o/\Big o:=by
 have j:((∃ C dx fs,H b=some Z0T)\/∃ xs,H b=some Zu)->∃ o,H b=some o/\Big o:=λ z=>z.elim (λ⟨_,_,_,e⟩=>⟨_,e,trivial⟩) λ⟨_,e⟩=>⟨_,e,trivial⟩
 rcases LoL.dS h with h|⟨i,q,F,z⟩|h
 ·exact j ZXc
 ·obtain⟨T,_,th⟩:=c.DR F
  exact j (th.kind z)
 ·obtain⟨kvs,e⟩:=c.di.isd h
  exact⟨_,e,trivial⟩
theorem LoC.qC (c:Z0E):∀ b∈L.own A,H b≠none:=λ b j z=>by
 obtain⟨o,e,_⟩:=c.big j
 rw[z] at e;cases e
theorem LoC.wU (c:Z0E) {b:Addr}{xs:Z11}(h:H b=some Zb):b∉L.own A:=λ z=>by
 obtain⟨o,e,q⟩:=c.big z
 rw[h] at e;cases e;exact q
theorem yq (d:Di G H D D') (k:(∃ C dx fs,H b=some Z0T)\/∃ xs,H b=some Zu):b∉D.own D':=λ z=>by
 obtain⟨kvs,e⟩:=d.isd z
 rcases k with ⟨_,_,_,y⟩|⟨_,y⟩<;>(rw[e] at y;cases y)
theorem LoC.nd1 (c:Z0E) (h:b∈[L.p,L.lt,L.lg]):b∉L.D.own A.A:=yq c.di ZXc
theorem LoC.nd2 (c:Z0E) {b:Addr}{i:Nat}{q:ThL}(h:L.ths[i]? = some q) (j:b∈q.ad):b∉L.D.own A.A:=let ⟨_,_,th⟩:=c.DR h;yq c.di (th.kind j)
theorem LoC.frame (c:Z0E) (sg:ZAP) (s':ZNo) (kp:∀ b o,b∈L.own A->H b=some o->H' b=some o) (n:∀ b∈L.own A,G' b=none):LoC K t G' H' L A:=by
 obtain⟨xs,hx⟩:=c.log
 have di:=c.di.frame (H':=H') (λ b o hb e=>kp b o ZCu e) (λ b o e=>s' _ _ ZWP)
 exact⟨kp _ _ ZIJ c.self,kp _ _ ZSm c.tl,λ i q T hq hT=>(ZBE).keep sg s' (λ b o hb e=>kp b o Z7f e) λ b hb=>n b Z7f,c.len1,c.len2,⟨xs,kp _ _ (LoL.iK ZC6) hx⟩,
  ⟨di.po,di.ta,di.wy,di.ways,λ l hl=>sg _ _ ZKS,s',c.di.nd,λ b hb=>n b ZCu⟩,c.clo.same λ b o u e=>ZWP,s',n,c.td,c.tb,c.ll⟩
theorem LoC.same (c:Z0E) (s:Z4h):LoC K t G H' L A:=c.frame Z7x (c.held.trans s) ZJp c.gn
theorem LoC.ri (c:Z0E) {j:Nat}{q q':ThL}{T':ThA}(hq:L.ths[j]? = some q) (g:ZFz) (bt:ZF1) (th:Th K t G' H' q' T') (pe:q'.p=q.p) (fr:∀ b∈q'.ad,b∈q.ad\/H b=none):LoC K t G' H' { L with ths:=Z7g} { A with ths:=Z5k}:=by
 have hj:=(ZON).1
 have gn0:∀ b∈L.own A,G' b=none:=λ b hb=>g.free (c.qC b hb) (c.gn b hb)
 have get:∀ i r,(L.ths.set j q')[i]? = some r->(i=j/\r=q')\/(i≠j/\L.ths[i]? = some r):=λ i r h=>by
  by_cases e:i=j
  ·subst e
   rw[FG hj] at h;cases h
   exact ZOc
  ·rw[Z8e] at h
   exact ZMt
 have fresh:∀ {b:Addr},H b=none->b∉L.own A:=λ h z=>c.qC _ z h
 have kp:∀ b o,b∈L.own A->b∉q.ad->H b=some o->H' b=some o:=λ b o _ n e=>bt b o n e
 obtain⟨xs,hx⟩:=c.log
 have n1:∀ b∈[L.p,L.lt,L.lg],b∉q.ad:=λ b hb z=>c.tb j q hq b z hb
 have di:=c.di.frame (H':=H') (λ b o hb e=>bt b o (λ z=>c.nd2 hq z hb) e) (λ b o e=>ZMV)
 refine⟨bt _ _ ZLp c.self,?_,λ i r T hr hT=>?_,by rw[GK];exact c.len1,by rw[GK];exact c.len2,⟨xs,bt _ _ ZLp hx⟩,⟨di.po,di.ta,di.wy,di.ways,λ l hl=>g.sub _ _ ZKS,g.held,c.di.nd,λ b hb=>gn0 b ZCu⟩,c.clo.same λ b o u e=>ZC5,g.held,λ b hb=>?_,λ i k r s hr hs ik x hx hy=>?_,λ i r hr x hx hy=>?_,c.ll⟩
 ·show H' L.lt=_
  rw[bt _ _ ZLp c.tl]
  congr 2
  refine Z5j
  rw[Ff,Ff]
  by_cases e:j=i
  ·subst e;rw[FG hj,hq];exact congrArg (λ x=>some (V.ref x)) pe.symm
  ·rw[FZ e]
 ·rcases get i r hr with ⟨rfl,rfl⟩|⟨ne,hr⟩
  ·have hT':(A.ths.set i T')[i]? = some T:=hT
   rw[FG (by rw[c.len2,<- c.len1];exact hj)] at hT'
   cases hT';exact th
  ·have hT':(Z1m)[i]? = some T:=hT
   rw[FZ Z67] at hT'
   exact(c.th i r T hr hT').keep g.sub g.held (λ b o hb z=>bt b o (c.td i j r q hr hq ne b hb) z) λ b hb=>gn0 b ZDv
 ·rcases LoL.dS hb with hb2|⟨i,r,hr,hb2⟩|hb2
  ·exact gn0 b (LoL.iK hb2)
  ·rcases get i r hr with ⟨rfl,rfl⟩|⟨ne,hr2⟩
   ·unfold ThL.ad at hb2
    simp only[Fi,Ft,F8] at hb2
    rcases hb2 with z|z|z
    ·rw[z];exact th.gp
    ·rw[z];exact th.gd
    ·rw[z];exact th.gw
   ·exact gn0 b (LoL.f7 hr2 hb2)
  ·exact gn0 b (LoL.kR hb2)
 ·rcases get i r hr with ⟨e1,e2⟩|⟨ne,hr2⟩
  ·subst e1;subst e2
   rcases get k s hs with ⟨e3,_⟩|⟨ne,hs2⟩
   ·exact ik e3.symm
   ·rcases fr x hx with z|z
    ·exact c.td i k q s hq hs2 ik x z hy
    ·exact fresh z (LoL.f7 hs2 hy)
  ·rcases get k s hs with ⟨e1,e2⟩|⟨ne',hs2⟩
   ·subst e1;subst e2
    rcases fr x hy with z|z
    ·exact c.td i k r q hr2 hq ik x hx z
    ·exact fresh z (LoL.f7 hr2 hx)
   ·exact c.td i k r s hr2 hs2 ik x hx hy
 ·rcases get i r hr with ⟨rfl,rfl⟩|⟨ne,hr⟩
  ·rcases fr x hx with z|z
   ·exact c.tb i q hq x z hy
   ·exact fresh z (LoL.iK hy)
  ·exact c.tb i r hr x hx hy
theorem LoC.Aj (c:Z0E) {D:DiL}{D':DiA}(bt:But (L.p::L.D.own A.A) H H') (hp:H' L.p=some (.ins t.c_Loom L.dx (loF L.dz A.many A.ord L.lt L.lg D))) (d':Di G H' D D'):LoC K t G H' { L with D:=D } { A with A:=D' }:=by
 obtain⟨xs,hx⟩:=c.log
 have hl:=c.tl
 have n1:∀ b xs,H b=some Zu->b∈[L.p,L.lt,L.lg]->b∉L.p::L.D.own A.A:=λ b xs e hb z=>by
  rcases Fi.mp z with z|z
  ·rw[z,c.self] at e;cases e
  ·exact c.nd1 hb z
 refine⟨hp,bt _ _ (n1 _ _ hl ZA) hl,λ i q T hq hT=>?_,c.len1,c.len2,⟨xs,bt _ _ (n1 _ _ hx Zq) hx⟩,d',c.clo,d'.held,λ b hb=>?_,c.td,c.tb,c.ll⟩
 ·refine(ZBE).keep Z7x d'.held ZCi λ b hb=>ZTM
  rcases Fi.mp z with z|z
  ·exact c.tb i q hq b hb (by rw[z];simp)
  ·exact c.nd2 hq hb z
 ·rcases LoL.dS hb with hb|⟨i,r,hr,hb⟩|hb
  ·exact c.gn b (LoL.iK hb)
  ·exact ZTL
  ·exact d'.gn b hb
theorem LoC.yN (c:Z0E) {D':DiA}(bt:But ZP6 H H') (d':Di G H' L.D D'):LoC K t G H' L { A with A:=D' }:=
 c.Aj (bt.mono λ b hb=>ZRv) (bt _ _ (c.nd1 ZA) c.self) d'
theorem LoC.yV (c:Z0E) {lg:Addr}{ys:Z11}(bt:ZHw) (hp:H' L.p=some (.ins t.c_Loom L.dx (loF L.dz A.many A.ord L.lt lg L.D))) (h:H' lg=some Z03) (e:lg=L.lg\/H lg=none):LoC K t G H' { L with lg:=lg } A:=by
 have gp:=c.gn _ (LoL.iK (L:=L) (A:=A) (b:=L.p) ZA)
 have gl:=c.gn _ (LoL.iK (L:=L) (A:=A) (b:=L.lg) ZA)
 have held:ZC9:=bt.same c.held λ b hb=>by
  simp only[Fi,Ft,F8] at hb
  rcases hb with rfl|rfl
  ·exact gp
  ·exact gl
 have nn:∀ b,b∈L.own A->b≠L.p->b≠L.lg->b∉[L.p,L.lg]:=λ b _ n1 n2 z=>by
  simp only[Fi,Ft,F8] at z
  exact z.elim n1 n2
 have np:∀ b xs,H b=some Zu->b≠L.p:=λ b xs e z=>by rw[z,c.self] at e;cases e
 have nl:∀ {b:Addr},b∈L.own A->b≠L.lg->b≠lg:=λ hb n z=>by
  rcases e with e|e
  ·exact n (z.trans e)
  ·exact c.qC _ hb (by rw[z];exact e)
 refine⟨hp,bt _ _ (nn _ ZIJ (np _ _ c.tl) c.ll) c.tl,λ i q T hq hT=>?_,c.len1,c.len2,⟨ys,h⟩,?_,c.clo,held,λ b hb=>?_,c.td,λ i q hq x hx hy=>?_,nl ZSm c.ll⟩
 ·refine(ZBE).keep Z7x held (λ b o hb e=>bt b o (λ z=>c.tb i q hq b hb ?_) e) λ b hb=>ZTM
  simp only[Fi,Ft,F8] at z ⊢
  exact z.elim .inl λ z=>.inr ZIs
 ·refine c.di.frame ZCi held
  simp only[Fi,Ft,F8] at z
  rcases z with rfl|rfl
  ·exact ZRW
  ·exact ZRW
 ·rcases LoL.dS hb with hb|⟨i,r,hr,hb⟩|hb
  ·have hb':b∈[L.p,L.lt,lg]:=hb
   simp only[Fi,Ft,F8] at hb'
   rcases hb' with rfl|rfl|rfl
   ·exact gp
   ·exact c.gn _ ZIJ
   ·rcases e with rfl|e
    ·exact gl
    ·exact c.held.free e
  ·exact ZTL
  ·exact c.gn b ZCu
 ·have hy':x∈[L.p,L.lt,lg]:=hy
  have:=c.tb i q hq x hx
  simp only[Fi,Ft,F8,IW] at hy' this
  rcases hy' with z|z|z
  ·exact this.1 z
  ·exact this.2.1 z
  ·exact nl (LoL.f7 hq hx) this.2.2 z
end
def Bc (ths:Z9i) (h p k:Nat) (x:Int×Int):Prop:=∃ T E,ths[h]? = some T/\T.evs[p]? = some E/\E.se[k]? = some x
def Used (ths:Z9i) (h p:Nat) (n:Nm3):Prop:=∃ T E,ths[h]? = some T/\T.evs[p]? = some E/\E.u=some n
noncomputable def nm3 (h p k:Nat):Nm3:=((h:Int),(p:Int)+1,(k:Int))
structure Lk (ths:List ThA) (A:DiA):Prop where
 s1:∀ l∈A.po,∃ h p k:Nat,l.nm=nm3 h p k/\Bc ths h p k (l.to,l.wd)
 s2:∀ h p k x,Bc ths h p k x->∃ l∈A.po,l.nm=nm3 h p k/\(l.to,l.wd)=x
 u1:∀ e∈A.ta,∃ h p:Nat,e.2=(p:Int)+1/\Used ths h p e.1
 u2:∀ h p n,Used ths h p n->(n,(p:Int)+1)∈A.ta/\∃ l∈A.po,l.nm=n/\l.to=h
theorem qg {q:Z9i}{j:Nat}{T:ThA}(h:q[j]? = some T):cnt q j=T.evs.length:=by
 unfold cnt
 rw[FE,h]
theorem vi (h:ths[j]? = some T) (F:T.evs.length<=T'.evs.length) (x):cnt ths x<=cnt Z3r x:=by
 have q:j<ths.length:=Z36
 unfold cnt
 by_cases e:x.toNat=j
 ·rw[e,h,FG q]
  dsimp only
  lia
 ·rw[Z8e]
  exact ZGL
theorem eB {q:Type}{l:ZVO}{j i:Nat}{a b:q}(F:j<l.length) (h:(l.set j a)[i]? = some b):(i=j/\b=a)\/(i≠j/\l[i]? = some b):=by
 by_cases e:i=j
 ·subst e
  rw[FG F] at h;cases h
  exact ZOc
 ·rw[Z8e] at h
  exact ZMt
theorem iT (h:(l++[a])[i]? = some b):l[i]? = some b\/(i=l.length/\b=a):=by
 by_cases e:i<l.length
 ·rw[F4 e] at h;exact Z9t
 ·rw[ZL_] at h
  have:=Z36
  rw[Fy] at this
  have j:i-l.length=0:=Z2
  rw[j] at h;cases h
  exact .inr ⟨Z2,rfl⟩
theorem uY {j:Type}{l:List j}{i:Nat}{a b:j}(h:l[i]? = some b):(l++[a])[i]? = some b:=by
 rw[F4 (ZLX).1];exact h
section
variable {ths:List ThA}{j:Nat}{T T':ThA}
theorem oT {E:EvA}(hT:ths[j]? = some T) (he:T'.evs=T.evs++[E]) {h p:Nat}{Th E':_}(h1:(Z3r)[h]? = some Th) (h2:Th.evs[p]? = some E'):(∃ T0,ths[h]? = some T0/\T0.evs[p]? = some E')\/(h=j/\p=T.evs.length/\E'=E):=by
 rcases eB (Fc.mp hT).1 h1 with ⟨rfl,rfl⟩|⟨_,z⟩
 ·rw[he] at h2
  rcases iT h2 with z|⟨z,rfl⟩
  ·exact .inl ⟨_,hT,z⟩
  ·exact .inr ⟨rfl,z,rfl⟩
 ·exact .inl ⟨_,z,h2⟩
theorem u0 {E:EvA}(J:ths[j]? = some T) (O:T'.evs=T.evs++[E]) {h p:Nat}{q:ThA}{E':EvA}(h1:ths[h]? = some q) (h2:q.evs[p]? = some E'):∃ F,(Z3r)[h]? = some F/\F.evs[p]? = some E':=by
 by_cases e:h=j
 ·subst e
  rw[J] at h1;cases h1
  exact⟨T',FG (ZRz).1,by rw[O];exact uY h2⟩
 ·exact⟨q,by rw[Z8e];exact h1,h2⟩
theorem xD (q:ths[j]? = some T) (F:T'.evs=T.evs++[E]):(Z3r)[j]? = some T'/\T'.evs[T.evs.length]? = some E:=⟨ZTi,by rw[F,ZS1,G4];rfl⟩
theorem Lk.i4 {E:EvA}{A U:DiA}{xs:List (Addr×Int×Int)}(lk:ZO7) (Y:ths[j]? = some T) (Z:T'.evs=T.evs++[E]) (hx:E.se=xs.map (·.2)) (hp:U.po=A.po++lets j (T.evs.length+1) xs)
  (ht:(E.u=none/\U.ta=A.ta)\/∃ l∈A.po,E.u=some l.nm/\l.to=j/\U.ta=A.ta++[(l.nm,(T.evs.length:Int)+1)]):Lk Z3r U:=by
 have hm:∀ e,e∈A.ta->e∈U.ta:=λ e h=>by
  rcases ht with ⟨_,z⟩|⟨l,_,_,_,z⟩
  ·rw[z];exact h
  ·rw[z];exact ZVX
 have pm:∀ l,l∈A.po->l∈U.po:=λ l h=>by rw[hp];exact ZVX
 obtain⟨la,lb⟩:=xD Y Z
 refine⟨λ l J=>?_,λ h p k x hs=>?_,λ e O=>?_,λ h p n hu=>?_⟩
 ·rw[hp] at J
  rcases Fm.mp J with J|J
  ·obtain⟨h,p,k,z,V,E0,h1,h2,F⟩:=lk.s1 l J
   obtain⟨W,y1,y2⟩:=ZPs
   exact⟨h,p,k,z,W,E0,y1,y2,F⟩
  ·obtain⟨k,x,z,rfl⟩:=kE.mp J
   exact⟨j,T.evs.length,k,rfl,T',E,la,lb,by rw[hx,Ff,z];rfl⟩
 ·obtain⟨W,E1,h1,h2,F⟩:=hs
  rcases oT Y Z h1 h2 with ⟨V,z1,z2⟩|⟨rfl,rfl,rfl⟩
  ·obtain⟨l,J,y⟩:=lk.s2 h p k x ZIO
   exact⟨l,ZUW,y⟩
  ·rw[hx,Ff] at F
   obtain⟨x',e,rfl⟩:=GL.mp F
   exact⟨_,by rw[hp];exact FP _ (kE.mpr ⟨k,x',e,rfl⟩),rfl,rfl⟩
 ·have a1:e∈A.ta->∃ h p:Nat,e.2=(p:Int)+1/\Used Z3r h p e.1:=λ q=>by
   obtain⟨h,p,z,V,E0,h1,h2,F⟩:=lk.u1 e q
   obtain⟨W,y1,y2⟩:=ZPs
   exact⟨h,p,z,W,E0,y1,y2,F⟩
  rcases ht with ⟨_,z⟩|⟨l,_,hu,_,z⟩
  ·rw[z] at O;exact a1 O
  ·rw[z] at O
   rcases Fm.mp O with q|q
   ·exact a1 q
   ·rw[Fd] at q
    subst q
    exact⟨j,T.evs.length,rfl,T',E,la,lb,hu⟩
 ·obtain⟨W,E1,h1,h2,F⟩:=hu
  rcases oT Y Z h1 h2 with ⟨V,z1,z2⟩|⟨rfl,rfl,rfl⟩
  ·obtain⟨y1,l,J,y2⟩:=lk.u2 h p n ZIO
   exact⟨hm _ y1,l,ZUW,y2⟩
  ·rcases ht with ⟨z,_⟩|⟨l,J,hu,to,z⟩
   ·rw[z] at F;cases F
   ·rw[hu] at F;cases F
    exact⟨by rw[z];exact ZX9,l,ZUW,rfl,to⟩
theorem Lk.evs (W:ZO7) (h:∀ i:Nat,(ths'[i]?).map (·.evs)=(ths[i]?).map (·.evs)):Lk ths' A:=by
 have F:∀ {a b:List ThA},(∀ i:Nat,(a[i]?).map (·.evs)=(b[i]?).map (·.evs))->∀ {i:Nat} {T:ThA},a[i]? = some T->∃ q,b[i]? = some q/\q.evs=T.evs:=λ{a b} h {i T} e=>by
  have:=h i
  rw[e] at this
  obtain⟨q,y,z⟩:=GL.mp this.symm
  exact⟨q,y,z⟩
 refine⟨λ l Z=>?_,λ h' p k x hs=>?_,λ e hm=>?_,λ h' p n hu=>?_⟩
 ·obtain⟨h',p,k,z,Y,J,h1,h2,O⟩:=W.s1 l Z
  obtain⟨q,U,V⟩:=ZEy
  exact⟨h',p,k,z,q,J,U,by rw[V];exact h2,O⟩
 ·obtain⟨Y,J,h1,h2,O⟩:=hs
  obtain⟨q,U,V⟩:=F h h1
  exact W.s2 h' p k x ⟨q,J,U,by rw[V];exact h2,O⟩
 ·obtain⟨h',p,z,Y,J,h1,h2,O⟩:=W.u1 e hm
  obtain⟨q,U,V⟩:=ZEy
  exact⟨h',p,z,q,J,U,by rw[V];exact h2,O⟩
 ·obtain⟨Y,J,h1,h2,O⟩:=hu
  obtain⟨q,U,V⟩:=F h h1
  exact W.u2 h' p n ⟨q,J,U,by rw[V];exact h2,O⟩
end
theorem wK {ths:Z9i}{j:Nat}{T T':ThA}(h:ths[j]? = some T) (e:T'.evs=T.evs) (i:Nat):((Z3r)[i]?).map (·.evs)=(ths[i]?).map (·.evs):=by
 by_cases z:i=j
 ·subst z
  rw[FG (ZLX).1,h];exact Z5b
 ·rw[ZD_]
theorem Lk.tp (F:ZO7):∀ e∈A.ta,∃ l∈A.po,l.nm=e.1/\1<=e.2/\e.2<=cnt ths l.to:=λ e J=>by
 obtain⟨h,p,z,q⟩:=F.u1 e J
 obtain⟨_,l,O,U,V⟩:=F.u2 h p e.1 q
 obtain⟨Y,W,h1,h2,Z⟩:=q
 have:=ZGp
 exact⟨l,O,U,Z2,by rw[V,qg h1];lia⟩
theorem TWf.hd (w:Z7e):∃ q F,T.ws=q::F/\∀ z∈q::F,q<=z:=by
 obtain⟨q,F,e⟩:=Hy w.ne
 have J:=w.so
 rw[e] at J
 refine⟨q,F,e,λ z U=>?_⟩
 rcases Fi.mp U with O|O
 ·lia
 ·exact Ke ((Hd.mp J).1 z O)
theorem TWf.pt (w:Z7e) (h:ZVA):0<=y/\y<=T.evs.length:=by
 obtain⟨x,q,z⟩:=h
 have:=w.rg x q
 have:=w.dn
 lia
theorem TWf.more (w:Z7e):TWf (n+1) T:=⟨w.ne,w.so,w.rg,w.dn,w.d0,by have:=w.en;lia,by have:=w.wn;lia⟩
theorem nL {h:gJ}{d l:Int}(dl:d<=l):d<=h.i4 d (l+1)/\h.i4 d (l+1)<=l+1:=by
 cases h with
 | never=>exact⟨ZGL,by show d<=_;omega⟩
 | each=>exact⟨by show d<=l+1;omega,ZGL⟩
 | bundle m=>
  show d<=(if l+1-d >= m then l+1 else d)/\(if l+1-d >= m then l+1 else d)<=l+1
  split<;>omega
theorem vg {h:gJ}{d l:Int}(dl:d<=l):d<=h.gg d l/\h.gg d l<=l:=by
 cases h with
 | never=>exact ZPp
 | each=>exact ZPp
 | bundle m=>exact⟨dl,ZGL⟩
theorem Ck {T T':ThA}(J:∀ w∈T.ws,w∈T'.ws) (F:T.down<=T'.down) {y:Int}(h:ZVA):T'.pt y:=let ⟨w,a,z⟩:=h;⟨w,J w a,z.imp id λ q=>⟨q.1,Int.le_trans q.2 F⟩⟩
theorem wC {T:ThA}{Ew:EvA}{y:Int}(dn:T.down<=T.evs.length) (h:ZVA):({ T with evs:=T.evs++[Ew],down:=T.hab.i4 T.down (T.evs.length+1) }:ThA).pt y:=let ⟨w,a,z⟩:=h;⟨w,a,z.imp id λ q=>⟨q.1,Int.le_trans q.2 (nL dn).1⟩⟩
theorem TWf.i4 {n:Nat}{T:ThA}{Ew:EvA}(w:Z7e):TWf (n+1) { T with evs:=T.evs++[Ew],down:=T.hab.i4 T.down (T.evs.length+1) }:=by
 have d0:=w.d0
 have en:=w.en
 obtain⟨h1,h2⟩:=nL (h:=T.hab) w.dn
 have len:((T.evs++[Ew]).length:Int)=T.evs.length+1:=by rw[Fh,Fy];rfl
 refine⟨w.ne,w.so,λ z hz=>?_,?_,?_,?_,by have:=w.wn;show T.ws.length<=_;omega⟩
 ·have:=w.rg z hz
  show 0<=z/\z<=((T.evs++[Ew]).length:Int)
  omega
 ·show T.hab.i4 T.down (T.evs.length+1)<=((T.evs++[Ew]).length:Int)
  omega
 ·show 0<=T.hab.i4 T.down (T.evs.length+1)
  omega
 ·show (T.evs++[Ew]).length<=n+1
  omega
theorem TWf.wrote {n:Nat}{T:ThA}(w:Z7e):TWf (n+1) T.wrote/\T.wrote.evs=T.evs/\∀ y,T.pt y->T.wrote.pt y:=by
 unfold ThA.wrote
 by_cases h:(T.evs.length:Int)∈T.ws
 ·rw[ZOL];exact⟨w.more,rfl,λ _=>id⟩
 ·rw[ZMk]
  have d0:=w.d0
  obtain⟨h1,h2⟩:=vg (h:=T.hab) w.dn
  have mem:∀ z,z∈T.ws++[(T.evs.length:Int)]->z∈T.ws\/z=T.evs.length:=λ z hz=>(Fm.mp hz).imp id Fd.mp
  refine⟨⟨by show T.ws++_≠[];simp,?_,λ z hz=>?_,h2,by show 0<=T.hab.gg T.down T.evs.length;omega,by have:=w.en;show T.evs.length<=_;omega,?_⟩,rfl,λ y hy=>Ck (λ w hw=>Ge _ hw) h1 hy⟩
  ·show (T.ws++[(T.evs.length:Int)]).Pairwise (· < ·)
   refine FU.mpr ⟨w.so,ZQO,λ a ha b hb=>?_⟩
   rw[Fd] at hb
   subst hb
   have:=w.rg a ha
   have:a≠T.evs.length:=λ z=>h (by rw[<- z];exact ha)
   omega
  ·rcases mem z hz with y|y
   ·exact w.rg z y
   ·subst y;exact⟨ZV,ZGL⟩
  ·show (T.ws++[(T.evs.length:Int)]).length<=_
   have:=w.wn
   rw[Fh,Fy];omega
def mI (b:Int->Int) (A:DiA):Prop:=∀ l∈A.po,∀ e∈A.ta,e.1=l.nm->e.2<=b l.to->l.nm.2.1<=b l.nm.1
structure Lo (K:W.Frag) (t:Adr) (G H:Hp) (L:LoL) (A:LoA) (n:Nat):Prop where
 c:Z0E
 wf:Z20
 lk:ZQM
 lg:∃ xs,H L.lg=some Zu/\xs.length<=n/\∀ x∈xs,xn A.many H x
 tw:∀ T∈A.ths,Z7e
 bn:A.A.po.length<=3*n/\A.A.wy.length<=A.A.po.length
 m2:2<=A.many/\A.many<=5
 fr:∃ c:Int,A.fr=[Z7s,.int A.many]
 pts:∀ (j:Nat) T,A.ths[j]? = some T->T.pt (A.b j)
 snd:mI A.b A.A
noncomputable def wdA (ths:Z9i) (h p:Nat):ZU:=((ths[h]?.bind λ T=>T.evs[p]?).map EvA.sa).getD []
theorem qJ (q:ths[j]? = some T0) (e:h=j->T'.evs[p]? = T0.evs[p]?):wdA Z3r h p=wdA ths h p:=by
 unfold wdA
 by_cases z:h=j
 ·subst z
  rw[ZTi,q,Option.bind_some,Option.bind_some,e rfl]
 ·rw[ZD_]
structure Stp (G G' H H':Hp) (L:LoL) (A:LoA) (L':LoL) (A':LoA):Prop where
 p:L'.p=L.p
 bt:But ZGm H H'
 em:A'.many=A.many
 eo:A'.ord=A.ord
 eb:∀ i:Nat,i<A.many->A'.b i=A.b i
 fr:∀ b∈L'.own A',b∈L.own A\/H b=none
 ev:∀ h p:Nat,h<A.many->(p:Int)<A.b h->wdA A'.ths h p=wdA A.ths h p
 gk:∀ b o,b∉L.own A->H b=some o->Big o->G b=none->G' b=none
theorem Stp.trans (a:Stp G G' H H' L A L' A') (b:Stp G' G'' H' H'' L' A' L'' A''):Stp G G'' H H'' L A L'' A'':=by
 refine⟨b.p.trans a.p,λ x o n e=>b.bt x o Z5X (a.bt x o n e),b.em.trans a.em,b.eo.trans a.eo,λ i h=>(b.eb i (by rw[a.em];exact h)).trans (a.eb i h),λ x O=>?_,λ h p F J=>(b.ev h p (by rw[a.em];exact F) (by rw[a.eb h F];exact J)).trans (a.ev h p F J),λ c o n e g z=>b.gk c o (λ y=>(a.fr c y).elim n λ y=>by rw[y] at e;cases e) (a.bt c o n e) g (a.gk c o n e g z)⟩
 ·rcases a.fr x z with y|y
  ·exact n y
  ·rw[y] at e;cases e
 ·rcases b.fr x O with y|y
  ·exact a.fr x y
  ·by_cases z:x∈L.own A
   ·exact ZB1
   ·cases q:H x with
    | none=>exact Z9s
    | some o=>rw[a.bt x o z q] at y;cases y
theorem Stp.of (s:Z4h):Stp G G H H' L A L A:=⟨rfl,But.of s,rfl,rfl,λ _ _=>rfl,λ _ h=>Z9t,λ _ _ _ _=>rfl,λ _ _ _ _ _ z=>z⟩
theorem LoC.stp {G H H':Hp}{L:LoL}{A:LoA}(c:Z0E) {j:Nat}{q q':ThL}{T0 T':ThA}(hq:L.ths[j]? = some q) (hT:A.ths[j]? = some T0) (bt:ZF1) (fr:∀ b∈q'.ad,b∈q.ad\/H b=none) (ev:∀ p:Nat,(p:Int)<A.b j->T'.evs[p]? = T0.evs[p]?):Stp G G H H' L A { L with ths:=Z7g} { A with ths:=Z5k}:=by
 refine⟨rfl,bt.mono λ b hb=>Z7f,rfl,rfl,λ _ _=>rfl,λ b hb=>?_,λ h p _ lt=>qJ hT λ e=>ev p (by rw[<- e];exact lt),λ _ _ _ _ _ z=>z⟩
 rcases LoL.dS hb with y|⟨i,r,hr,y⟩|y
 ·exact ZLk
 ·rcases eB (Fc.mp hq).1 hr with ⟨rfl,rfl⟩|⟨_,hr⟩
  ·exact(fr b y).imp (λ z=>ZRm) id
  ·exact ZIt
 ·exact .inl (LoL.kR y)
theorem Lo.same (lo:Z07) (s:Z4h):Lo K t G H' L A n:=
 let ⟨xs,h,F,r⟩:=lo.lg
 ⟨lo.c.frame Z7x (lo.c.held.trans s) ZJp lo.c.gn,lo.wf,lo.lk,⟨xs,s _ _ h,F,λ x q=>(r x q).keep λ b xs e=>ZEo⟩,lo.tw,lo.bn,lo.m2,lo.fr,lo.pts,lo.snd⟩
theorem mC (h:∀ T∈ths,Z7e) (x):cnt ths x<=n:=by
 unfold cnt
 cases e:ths[x.toNat]? with
 | none=>dsimp only;lia
 | some T=>
  have:=(h T (Fg e)).en
  dsimp only;lia
theorem Lo.at (lo:Z07) (F:j<A.many):∃ q T,L.ths[j]? = some q/\A.ths[j]? = some T/\Th K t G H q T/\TWf n T/\(Z29)[j]? = some (Z9m):=by
 have h1:=E9 (l:=L.ths) (i:=j) (by rw[lo.c.len1];exact F)
 have h2:=E9 (l:=A.ths) (i:=j) (by rw[lo.c.len2];exact F)
 exact⟨_,_,h1,h2,lo.c.th j _ _ h1 h2,lo.tw _ (Fg h2),by rw[Ff,h1];rfl⟩
inductive How (H:Hp) (A:LoA) (h:Int):V->V->Option Nm3->Prop
 | own:How H A h .non .non none
 | use {b:Addr} {l:cV}:H b=some ZBR->l∈A.A.po->l.nm∉A.A.ta.map (·.1)->l.to=h->How H A h Za Z9p ZUP
section
variable {G H H':Hp}{q:ThL}{T0:ThA}{Q:VK}{E:XK}{L:LoL}{A:LoA}{n j:Nat}
theorem jK (th:ZCD) (k:Q Z25 H):yg t K [Z9m] H Q E:=by
 obtain⟨es,J,F⟩:=th.done
 rw[<- F.1] at k
 exact⟨q.p,q.dx,_,q.ha,q.dn,q.wr,_,es,rfl,th.self,ZNw,k⟩
theorem vX (th:ZCD) (J:TWf n T0) (k:∀ st:Int,Q ZAX H):xQ K t [Z9m,Z25] H Q E:=by
 obtain⟨es,V,O⟩:=th.done
 obtain⟨Y,Z,U,_⟩:=J.hd
 have F:(es.length:Int)=T0.evs.length:=by rw[O.1]
 refine⟨G,q.p,q.dx,_,q.ha,q.dn,q.wr,_,Y,Z,es,T0.evs,T0.evs.length,rfl,th.held,th.self,by rw[<- U];exact th.gg,V,O,λ z W=>by rw[F];exact J.rg z (by rw[U];exact W),by rw[F];exact J.dn,.inl F.symm,k _⟩
theorem BU {e:Addr}{Ew:EvA}(th:ZCD) (ev:EvO K t G e Ew) (few:T0.evs.length<=900) (k:∀ G' H',gD H G G' H'->But [q.p,q.dn] H H'->Th K t G' H' q { T0 with evs:=T0.evs++[Ew],down:=T0.hab.i4 T0.down (T0.evs.length+1) }->Q .non H'):yo K t [Z9m,ZQZ] H Q E:=⟨G,q,T0,e,Ew,rfl,th,ev,few,k⟩
theorem jq (T:ZN) (c:Z0E) (h0:σ[0]? = some Z2G) (h1:σ[1]? = some (some Z2k)) (F:(Z29)[j]? = some Z9m):Ev (tOp ZQj (qr K ZIz "threads") ZLw) σ H (Z9m):=
 λ _ k=>⟨_,h0,L.p,_,L.dx,_,_,rfl,c.self,T.cl_Loom,T.na_bq,rfl,_,h1,L.lt,_,j,Z9m,rfl,rfl,SqL.of c.tl,cW F,k⟩
theorem jO (c:Z0E) (F:j<A.many) (k:Q .non H):xZ t [Zg,Z2k] H Q E:=⟨L.p,L.dx,L.dz,A.many,A.ord,L.lt,L.lg,L.D,j,rfl,c.self,Z2,Z2,k⟩
theorem oj (s:ZG1) (S:Z09) (O:∀ b∈S,∃ xs,H b=some Zb):∃ F,bj G F/\bj F H/\(∀ b∈S,F b=H b)/\∀ b,G b=none->(∀ xs,H b≠some Zb)->F b=none:=by
 classical
 refine⟨λ b=>if b∈S then H b else G b,λ b o e=>?_,λ b o e=>?_,λ b U=>Fl U,λ b e n=>?_⟩
 ·show (if b∈S then H b else G b)=_
  split
  ·exact ZEo
  ·exact e
 ·have J:(if b∈S then H b else G b)=some o:=e
  split at J
  ·exact J
  ·exact s _ _ J
 ·show (if b∈S then H b else G b)=_
  split
  ·next h=>
   obtain⟨xs,z⟩:=O b h
   exact absurd z (n xs)
  ·exact e
theorem lX {G7 H7:Hp}{T':ThA}{Ew:EvA}{A1:DiA}{m1:Addr}{ls:List (Addr×Int×Int)}(lo:Z07) (nn:n<30) (hT:A.ths[j]? = some T0) (he:T'.evs=T0.evs++[Ew]) (tw':TWf (n+1) T') (pt':∀ y,T0.pt y->T'.pt y)
  (c7:LoC K t G7 H7 L { A with ths:=Z1m,A:=A1 }) (wf7:WfD A.many ZRS A1) (po7:A1.po=A.A.po) (wl7:A1.wy.length=A.A.wy.length) (ow7:L.D.own A1=L.D.own A.A)
  (ht:(Ew.u=none/\A1.ta=A.A.ta)\/∃ l∈A.A.po,Ew.u=some l.nm/\l.to=j/\A1.ta=A.A.ta++[(l.nm,(T0.evs.length:Int)+1)]) (bt7:But ZGm H H7) (gk7:∀ b o,b∉L.own A->H b=some o->Big o->G b=none->G7 b=none) (lg7:∀ xs,H L.lg=some Zu->H7 L.lg=some Zu)
  (hm7:H7 m1=some ZDx) (few:ls.length<=3) (hls:∀ x∈ls,G7 x.1=some Z0_/\0<=x.2.1/\x.2.1<A.many) (hx:Ew.se=ls.map (·.2))
  (k:∀ G' H' A',Stp G G' H H' L A L A'->Lo K t G' H' L A' (n+1)->(∃ xs,H' L.lg=some Zu/\xs.length<=n)->Q .non H'):yB K t [Zg,Z2k,.int ((T'.evs.length:Nat):Int),.ref m1] H7 Q E:=by
 have hj:j<A.many:=by rw[<- lo.c.len2];exact ZR2
 have hlen:T'.evs.length=T0.evs.length+1:=by rw[he];simp
 have hTj:(Z1m)[j]? = some T':=FG (by rw[lo.c.len2];exact hj)
 have bn:=lo.bn
 refine⟨G7,L.p,L.dx,L.dz,A.many,A.ord,L.lt,L.lg,L.D,A1,m1,j,T'.evs.length,ls,A.many,ZRS,rfl,c7.self,c7.di,wf7,c7.nd1 ZA,λ z=>?_,SqL.of hm7,ZV,hls,ZV,ZV,ZV,by rw[qg hTj];exact ZGL,λ l' hl' el'=>?_,by rw[po7];omega,by rw[wl7];omega,λ H8 A8 b8 d8 w8 e1 e2 e3 fr8=>?_⟩
 ·obtain⟨kvs,y⟩:=c7.di.isd z
  rw[hm7] at y;cases y
 ·rw[po7] at hl'
  have:=(lo.wf.rg l' hl').2.2.2.1
  rw[el',qg hT] at this
  omega
 have bt8:But ZGm H H8:=λ b o nb z=>b8 b o (λ y=>nb (LoL.kR (by rw[ow7] at y;exact y))) (bt7 b o nb z)
 obtain⟨lx,lgx,lln,lrr⟩:=lo.lg
 have lg8:H8 L.lg=some ZMA:=b8 _ _ (c7.nd1 (L:=L) (b:=L.lg) ZA) (lg7 _ lgx)
 have e2':A8.po=A.A.po++lets j (T0.evs.length+1) ls:=by rw[e2,po7,hlen];rfl
 have lk8:Lk Z1m A8:=lo.lk.i4 hT he hx e2' (by rw[e1];exact ht)
 have len8:A8.po.length=A.A.po.length+ls.length:=by rw[e2',Fh];unfold lets;rw[List.length_mapIdx]
 refine k G7 H8 { A with ths:=Z1m,A:=A8 } ⟨rfl,bt8,rfl,rfl,λ _ _=>rfl,λ b hb=>?_,λ h p _ lt=>qJ hT λ e=>?_,gk7⟩ ⟨c7.yN b8 d8,w8,lk8,⟨lx,lg8,ZV,λ x hx=>(lrr x hx).keep λ b xs e=>bt8 _ _ (lo.c.wU e) e⟩,λ T1 hT1=>?_,⟨by show A8.po.length<=_;omega,by show A8.wy.length<=A8.po.length;omega⟩,lo.m2,lo.fr,λ i T1 h1=>?_,λ l hl e hm ee le=>?_⟩ ⟨lx,lg8,lln⟩
 ·rcases LoL.dS hb with y|⟨i,r,hr,y⟩|y
  ·exact ZLk
  ·exact ZIt
  ·rcases fr8 b y with y|y
   ·exact .inl (LoL.kR (by rw[ow7] at y;exact y))
   ·by_cases nb:b∈L.own A
    ·exact .inl nb
    ·cases hb':H b with
     | none=>exact Z9s
     | some o=>rw[bt7 b o nb hb'] at y;cases y
 ·have:=ZKj
  subst e
  rw[he,F4 ZV]
 ·rcases List.mem_or_eq_of_mem_set hT1 with y|y
  ·exact(ZT7).more
  ·rw[y];exact tw'
 ·rcases eB (by rw[lo.c.len2];exact hj) h1 with ⟨rfl,rfl⟩|⟨_,z⟩
  ·exact pt' _ (lo.pts i T0 hT)
  ·exact ZNW
 ·have old:∀ l'∈A.A.po,e.1=l'.nm->l=l':=λ l' hl' e'=>eC w8.nd hl (by rw[e2'];exact Ge _ hl') (ee.symm.trans e')
  have hm':e∈A8.ta:=hm
  rw[e1] at hm'
  have go:e∈A.A.ta->l.nm.2.1<=A.b l.nm.1:=λ q=>by
   obtain⟨l',hl',y,_⟩:=lo.lk.tp e q
   have:=old l' hl' y.symm
   subst this
   exact lo.snd l hl' e q ee le
  rcases ht with ⟨_,z⟩|⟨l',hl',_,to,z⟩
  ·rw[z] at hm';exact go hm'
  ·rw[z] at hm'
   rcases Fm.mp hm' with q|q
   ·exact go q
   ·rw[Fd] at q
    subst q
    have:=old l' hl' rfl
    subst this
    have:=ZKj
    rw[to] at le
    have le':(T0.evs.length:Int)+1<=A.b j:=le
    omega
end
def Av (K:W.Frag) (t:Adr):Sp:=λ vs H Q _=>∃ G L A n,∃ j:Nat,∃ v w u,vs=[Zg,Z2k,v,w]/\Lo K t G H L A n/\n<30/\j<A.many/\How H A j v w u /\
 ∀ G' H' A',Stp G G' H H' L A L A'->Lo K t G' H' L A' (n+1)->(∃ xs,H' L.lg=some Zu/\xs.length<=n)->Q .non H'
theorem xI (T:ZN):bR P w K mg base ZT 5 t.f_bi t.fd_bi Z5D (Av K t):=by
 refine T.F_bi.okN rq ZB ZJ
 ·obtain⟨G,L,A,n,j,v,w,u,rfl,_⟩:=h;rfl
 ·obtain⟨G,L,A,n,j,v,w',u,rfl,lo,nn,hj,how,k⟩:=h
  refine⟨_,(aW (bz (i:=4) rq.nd rfl Z6 Z77)
   (aW (bz (i:=5) rq.nd rfl Z6 (wb (B2 (K:=K) T) Z7 Ze T.cl_Loom T.na_da bo (bf ZQ (bf (bQ Z0C T.cl_Thread T.me_am (Ah (K:=K) T) Z7 T.b_am .nil bo (bf Z1L aZ)) Z3J))))
   (aW (bz (i:=6) rq.nd rfl Z6 (fS T.mk_Event ZOh Z7 rfl T.mg_Event T.b_cj .nil bo (bf Zj (bf Z0s ZQs))))
   (aW (bN (bQ Z0C T.cl_Thread T.me_ct (BM (K:=K) T) Z7 T.b_ct .nil bo Z0z))
   (aW (bX (bH iO Zj fX Z0F)
    (aW (jI Z1W Z4 Zj Z1L rfl)
   (bg (bN (cQ (K:=K) JB PySem.F.slot_dict_pop PySem.F.type_dict_pop (xA Z1W) (cH Z1W Z4 ZB4 ZC) Z1p))))
    bM)
   (bg (bN (bQ Ze T.cl_Loom T.me_cu (AF (K:=K) T) Z7 T.b_cu .nil bo (bf ZQ (bf Z1L (bf (bu (K:=K) Z2E rfl) aZ))))))))))),?_⟩
  refine Z37
  obtain⟨q,T0,hq,hT,th,tw,hqs⟩:=ZWa
  have m2:=lo.m2
  refine jq T lo.c rfl rfl hqs _ ?_
  refine(sn ee1 λ rr2 ee2=>?_:Z9_)
  refine⟨_,rfl,L.p,L.dx,_,L.dz,_,rfl,lo.c.self,rfl,lo.c.clo.same (λ b o u e=>lo.c.held _ _ e),?_⟩
  refine⟨_,rfl,tm Zt th.self rfl (vs:=[Z25]) (λ Q' q'=>tm Zt th.self rfl .nil (jK th q')) (vX th tw λ st=>?_)⟩
  obtain⟨fc,fe⟩:=lo.fr
  rw[fe]
  refine⟨_,rfl,ZSB,fc,A.many,Z2k,ZAX,w',rfl,rfl,fc,A.many,j,st,w',rfl,ZV,ZV,ZV,ZV,by cases how with|own=>exact .inl rfl|use _ _ _ _=>exact .inr ⟨_,rfl⟩,λ H1 r st' l1 l2 ls zs s1 hr1 h1 few hls h2 lw=>?_⟩
  refine(sn ee2 λ rr3 ee3=>?_:Z9Z)
  refine⟨_,rfl,_,rfl,r,_,0,_,rfl,rfl,ZJZ,rfl,_,rfl,r,_,1,_,rfl,rfl,ZJZ,rfl,_,rfl,r,_,2,_,rfl,rfl,ZJZ,rfl,λ e dxe ne nde nd=>?_⟩
  obtain⟨Sn,hSn,rpu⟩:∃ Sn:List Addr,(∀ b∈Sn,∃ xs,H b=some (.tup xs))/\∀ G1:Hp,(∀ b∈Sn,G1 b=H b)->UsO G1 v u:=by
   cases how with
   | own=>exact⟨[],(λ b hb=>by cases hb),λ _ _=>rfl⟩
   | @use b l hb _ _ _=>exact⟨[b],(λ c hc=>by rw[Fd] at hc;rw[hc];exact⟨_,hb⟩),λ G1 h=>⟨b,rfl,by rw[h b ZA];exact hb⟩⟩
  obtain⟨G1,z1,z2,z3,z4⟩:=oj (lo.c.held.trans s1) (Sn++ls.map (·.1)) λ b hb=>by
   rcases Fm.mp hb with hb|hb
   ·obtain⟨xs,y⟩:=hSn b hb
    exact⟨xs,ZEm⟩
   ·obtain⟨x,hx,rfl⟩:=Fw.mp hb
    exact⟨_,(ZBZ).1⟩
  have hlsG:∀ x∈ls,G1 x.1=some Z0_:=λ x hx=>by rw[z3 x.1 (FP _ (Fq hx))];exact(ZBZ).1
  have c1:LoC K t G1 H1 L A:=lo.c.frame z1 z2 (λ b o _ y=>ZEm) λ b hb=>z4 b (lo.c.gn b hb) λ xs y=>by
   obtain⟨o,e,g⟩:=lo.c.big hb
   rw[ZIS] at y
   cases y;exact g
  refine⟨e,dxe,v,st',l1,l2,_,_,rfl,aU,SqL.of (bj.ins ne nde _ _ h1),by rw[Fe];omega,λ x hx=>?_,SqL.of (bj.ins ne nde _ _ h2),λ m1 m2 H5 nm1 nm2 nm12 hH5=>Z4v⟩
  ·obtain⟨y,hy,rfl⟩:=ZOH
   exact⟨y.1,_,rfl,SqT.of (bj.ins ne nde _ _ (hls y hy).1)⟩
  refine(sn ee3 λ rr4 ee4=>?_:Z9Y)
  obtain⟨G2,g2,s5,evo,ge2,gm2⟩:=uj (K:=K) (Ew:=⟨u,st',ls.map (λ x:Addr×Int×Int=>x.2),zs⟩) z2 ne nde nm1 nm2 nm12 hH5 (rpu G1 λ b hb=>by
   rw[z3 b (Ge _ hb)]
   obtain⟨xs,y⟩:=hSn b hb
   rw[y,ZEm]) ⟨ls,rfl,rfl,hlsG⟩ (by rw[Fe];omega) ⟨rfl,lw⟩
  have c2:LoC K t G2 H5 L A:=c1.frame g2.sub g2.held (λ b o _ y=>s5 _ _ y) λ b hb=>g2.free (c1.qC b hb) (c1.gn b hb)
  refine tm Zt (ZIa).self rfl ZS (BU ZIa evo (by have:=tw.en;omega) λ G3 H6 g3 b3 th3=>?_)
  refine(sn ee4 λ rr5 ee5=>?_:ZC0)
  have c3:=c2.ri hq g3 (b3.mono λ b hb=>by unfold ThL.ad;simp only[Fi,Ft,F8] at hb ⊢;exact ZMR) th3 rfl λ b hb=>ZSJ
  have hset:L.ths.set j q=L.ths:=by
   obtain⟨lt,rfl⟩:=ZON
   exact JQ lt
  rw[hset] at c3
  obtain⟨T',hT'⟩:∃ T',T'={ T0 with evs:=T0.evs++[(⟨u,st',ls.map (λ x:Addr×Int×Int=>x.2),zs⟩:EvA)],down:=T0.hab.i4 T0.down (T0.evs.length+1) }:=Z1_
  rw[<- hT'] at th3 c3
  have c3:LoC K t G3 H6 L { A with ths:=Z5k}:=c3
  have he':T'.evs=T0.evs++[⟨u,st',ls.map (λ x:Addr×Int×Int=>x.2),zs⟩]:=by rw[hT']
  have el':T'.evs.length=T0.evs.length+1:=by rw[he'];simp
  have tw':TWf (n+1) T':=by rw[hT'];exact tw.i4
  have pt':∀ y,T0.pt y->T'.pt y:=λ y h=>by rw[hT'];exact wC tw.dn h
  have wf3:WfD A.many ZRS A.A:=lo.wf.mono λ x=>vi hT ZV x
  have qI:∀ b∈[q.p,q.dn],b∈q.ad:=λ b hb=>by
   unfold ThL.ad
   simp only[Fi,Ft,F8] at hb ⊢
   exact ZMR
  have bt6:But ZGm H H6:=λ b o nb y=>b3 b o (λ z=>nb (LoL.f7 hq (qI b z))) ZQk
  have gk6:∀ b o,b∉L.own A->H b=some o->Big o->G b=none->G3 b=none:=λ b o _ e g z=>g3.free (by rw[s5 _ _ ZIS];simp) (g2.free (by rw[s1 _ _ e];simp) (z4 b z λ xs y=>by rw[s1 _ _ e] at y;cases y;exact g))
  have lg6:∀ xs,H L.lg=some Zu->H6 L.lg=some Zu:=λ xs y=>b3 _ _ (λ z=>lo.c.tb j q hq _ (qI _ z) ZA) ZQk
  have gl3:∀ x∈ls,G3 x.1=some Z0_/\0<=x.2.1/\x.2.1<A.many:=λ x hx=>⟨g3.sub _ _ (g2.sub _ _ (hlsG x hx)),(ZBZ).2⟩
  have ge3:=g3.sub _ _ ge2
  have gm3:=g3.sub _ _ gm2
  have hTj:(Z1m)[j]? = some T':=FG (by rw[lo.c.len2];exact hj)
  cases how with
  | own=>
   refine⟨_,rfl,rfl,_,rfl,ZL6⟩
   subst ee5
   refine tm Zt c3.self rfl (vs:=ZAD) (.cons Zt (.cons (λ Q' q'=>tm Zt (Z91).self rfl .nil (jK Z91 q')) (.cons (.f Zt (c3.held _ _ ge3) T.cl_Event T.na_cq j8) .nil))) ?_
   exact lX lo nn hT he' tw' pt' c3 wf3 rfl rfl rfl ZOc bt6 gk6 lg6 (c3.held _ _ gm3) few gl3 rfl k
  | @use b l hb hl nt to=>
   refine⟨_,rfl,rfl,_,rfl,ZUx⟩
   have th6:=Z91
   have nbo:∀ c∈L.own A,b≠c:=λ c hc y=>lo.c.wU hb (by rw[y];exact hc)
   have hb6:H6 b=some (.tup ((Z0t).map kV)):=bt6 _ _ (λ y=>nbo b y rfl) hb
   have v1:cf (A.A.ta.map λ e=>(Z0p,Zw)) (Z0t)=none:=eV (λ e:Nm3×Int=>Z0p) Z3z λ e he y=>nt (by rw[<- cJ _ _ y];exact ZOK)
   have bn:=lo.bn
   have lta:A.A.ta.length<=A.A.po.length:=by
    have:=nB (b:=A.A.po.map (·.nm)) lo.wf.nt λ z hz=>by
     obtain⟨e,he,rfl⟩:=Fw.mp hz
     obtain⟨l',hl',y,_⟩:=Z6l
     rw[<- y];exact Fq hl'
    rwa [Fe,Fe] at this
   refine tm Zt th6.self rfl .nil (jK th6 ?_)
   refine⟨_,rfl,L.p,_,L.dx,_,_,rfl,c3.self,T.cl_Loom,T.na_cs,rfl,_,rfl,L.D.ta,_,rfl,.inr ⟨_,Z0t,b,c3.di.ta,rfl,hb6,bE (by rw[Fe];show A.A.ta.length<=1000;omega),rfl⟩,?_⟩
   rw[ja _ v1]
   obtain⟨e0,he0,k0⟩:=ZK9
   have taI:L.D.ta∈L.D.own A.A:=by unfold DiL.own;simp
   have wyI:L.D.wy∈L.D.own A.A:=by unfold DiL.own;simp
   have e0I:e0.2.1∈L.D.own A.A:=ZTo
   obtain⟨x1,x2,x3,x4,x5⟩:=c3.di.nes
   have pta:L.p≠L.D.ta:=λ y=>c3.nd1 (b:=L.p) ZA (by rw[y];exact taI)
   have wta:L.D.wy≠L.D.ta:=Ne.symm x3
   have eta:e0.2.1≠L.D.ta:=(x4 e0 he0).2.1
   have bta:b≠L.D.ta:=nbo _ (LoL.kR taI)
   refine⟨_,rfl,L.p,_,L.dx,_,_,rfl,by rw[aV pta];exact c3.self,T.cl_Loom,T.na_dc,rfl,_,rfl,b,nV l.nm,0,.int l.nm.1,rfl,rfl,SqT.of (by rw[aV bta];exact hb6),cp,_,rfl,by show 2<=sizeLine;decide,λ kb hkb=>?_⟩
   have v2:cf (A.A.wy.map λ e=>(Z9V,Z2X)) (wk (l.nm.1,(j:Int)))=some (ZSE):=by
    rw[<- to,<- k0]
    exact cK ZSP ZI4 (cZ (f:=λ x:(Int×Int)×Addr×List Nm3=>x.1) qo lo.wf.wn) he0
   have v3:cf (e0.2.2.map λ n=>(Z80,Z1E)) (Z0t)=some Z3O:=cK nk ZI5 (xJ cJ ZKu) ((ZGz).mpr ⟨l,hl,rfl,by rw[k0],by rw[k0],nt⟩)
   obtain⟨ot,hot⟩:∃ ot,ot=HO.dT ((A.A.ta.map λ e=>(nk e.1,V.int e.2))++[(nk l.nm,V.int T'.evs.length)]):=Z1_
   rw[<- hot] at hkb ⊢
   have up:∀ c o,c≠L.D.ta->H6 c=some o->upd ZIv kb ZEe c=some o:=λ c o nc y=>by
    rw[aV (ba (o:=o) (by rw[ZJS];exact y) hkb),ZJS];exact y
   have way6:=up _ _ eta (c3.di.ways e0 he0)
   have ta6:upd ZIv kb ZEe L.D.ta=some ot:=by rw[aV (ba aU hkb),aU]
   refine⟨L.D.wy,ZSE,rfl,.inr ⟨_,wk (l.nm.1,(j:Int)),kb,.inl (up _ _ wta c3.di.wy),rfl,aU,v2.symm⟩,.inr (.inr (.inl ⟨rfl,.inr ⟨_,way6⟩⟩)),_,rfl,e0.2.1,b,_,Z0t,ZXP,rfl,rfl,way6,up _ _ bta hb6,v3,?_⟩
   rw[pJ]
   generalize upd (upd H6 L.D.ta ot) kb (.tup [.int l.nm.1,.int j])=H7 at up ta6 way6 ⊢
   obtain⟨d7,own7⟩:=c3.di.take (l:=l) (pl:=T'.evs.length) (e0:=e0) (H':=upd H7 e0.2.1 (.dT ((e0.2.2.filter λ x=>decide (x≠l.nm)).map λ n=>(Z80,Z1E)))) lo.wf.wn he0 k0 (by rw[aV (Ne.symm eta),ta6,hot]) aU (λ c o n1 n2 _ y=>by rw[aV n2];exact up c o n1 y) (λ c o y=>by rw[aV (ba y (c3.di.gn _ e0I))];exact up c o (ba y (c3.di.gn _ taI)) (c3.di.held _ _ y))
   have b67:But ZP6 H6 (upd H7 e0.2.1 (.dT ((e0.2.2.filter λ x=>decide (x≠l.nm)).map λ n=>(Z80,Z1E)))):=λ c o nc y=>by
    rw[aV (λ z=>nc (by rw[z];exact e0I))];exact up c o (λ z=>nc (by rw[z];exact taI)) y
   generalize upd H7 e0.2.1 (.dT ((e0.2.2.filter λ x=>decide (x≠l.nm)).map λ n=>(nk n,V.bl true)))=H8 at d7 b67 ⊢
   have c7:LoC K t G3 H8 L { A with ths:=Z1m,A:=A.A.take l T'.evs.length }:=c3.yN b67 d7
   subst ee5
   refine tm Zt c7.self rfl (vs:=ZAD) (.cons Zt (.cons (λ Q' q'=>tm Zt (ZHe).self rfl .nil (jK ZHe q')) (.cons (.f Zt (c7.held _ _ ge3) T.cl_Event T.na_cq j8) .nil))) ?_
   exact lX lo nn hT he' tw' pt' c7 (wf3.take hl nt ZV) rfl (by show (ig _ _ _).length=_;unfold ig;rw[Fe]) own7 (.inr ⟨l,hl,rfl,to,by rw[show (T0.evs.length:Int)+1=(T'.evs.length:Int) from ZV];rfl⟩) (λ c o nc y=>b67 c o (λ z=>nc (LoL.kR z)) (bt6 c o nc y)) gk6 (λ xs y=>b67 _ _ (c3.nd1 (b:=L.lg) ZA) (lg6 xs y)) (c7.held _ _ gm3) few gl3 rfl k
section
variable {G H H':Hp}{L:LoL}{A:LoA}
theorem xE (lo:Lo K t G H L A (n+1)) (hn:n<30) (U:j<A.many) (J:H L.lg=some ZMA) (le:lx.length<=n) (hr:H r=some (.tup (.str s :: .int j::zs))) (sk:PyData.strOk s=true) (xo:XsO H zs) (k:∀ H',But [L.lg] H H'->Lo K t G H' L A (n+1)->Q .non H') :
  vQ t ZQG H Q E:=by
 obtain⟨q,T0,hq,hT,th,tw,O⟩:=lo.at U
 obtain⟨es,Y,W⟩:=th.done
 refine⟨L.p,L.dx,L.dz,A.many,A.ord,L.lt,L.lg,L.D,j,r,q.p,_,lx,q.dx,_,q.ha,q.dn,q.wr,_,es,rfl,lo.c.self,lo.c.tl,J,Z2,O,th.self,Y,λ e pl H' b h Z=>k H' b ?_⟩
 have tk:∀ c xs,H c=some Zb->H' c=some Zb:=λ c xs z=>b _ _ (by rw[Fd];exact eP z J ZA) z
 have V:ZHw:=b.mono λ x F=>Fo _ F
 have hp:=b _ _ (by rw[Fd];exact eP lo.c.self J ZA) lo.c.self
 refine⟨lo.c.yV V hp h Z1x,lo.wf,lo.lk,⟨_,h,by rw[Fh,Fy];lia,λ x F=>?_⟩,lo.tw,lo.bn,lo.m2,lo.fr,lo.pts,lo.snd⟩
 rcases Fm.mp F with F|F
 ·obtain⟨xs,h',_,r'⟩:=lo.lg
  rw[J] at h';cases h'
  exact(r' x F).keep tk
 ·rw[Fd] at F
  exact⟨e,r,pl,s,j,zs,F,Z,tk _ _ hr,U,sk,xo.keep tk⟩
theorem vn (hn:n<30) (hj:j<A.many) (st:Stp G G1 H H1 L A L A1) (U:Lo K t G1 H1 L A1 (n+1)) (O:∃ xs,H1 L.lg=some Zu/\xs.length<=n) (hr:H1 r=none) (sk:PyData.strOk s=true) (xo:XsO H1 zs) (k:∀ G' H' Y W,Stp G G' H H' L A Y W->Lo K t G' H' Y W (n+1)->Q .non H') :
  vQ t ZQG (upd H1 r (.tup (.str s :: .int j::zs))) Q E:=by
 obtain⟨xs,h1,h2⟩:=O
 have J:bj H1 (upd H1 r (.tup (.str s :: .int j::zs))):=bj.new hr
 refine xE (U.same J) hn (by rw[st.em];exact hj) ZOA h2 aU sk (xo.keep λ _ _ e=>ZRp) λ Z b3 V=>k G1 Z L A1 (st.trans ((Stp.of J).trans ⟨rfl,b3.mono λ b F=>?_,rfl,rfl,λ _ _=>rfl,λ b F=>.inl F,λ _ _ _ _=>rfl,λ _ _ _ _ _ z=>z⟩)) V
 rw[Fd] at F
 exact LoL.iK (by rw[F];simp)
end
def A5 (K:W.Frag) (t:Adr):Sp:=λ vs H Q _=>∃ G L A n,∃ j:Nat,vs=[Zg,Z2k]/\Lo K t G H L A n/\n<30/\j<A.many/\∀ G' H' L' A',Stp G G' H H' L A L' A'->Lo K t G' H' L' A' (n+1)->Q .non H'
theorem En (T:ZN):bR P w K mg base ZT 6 t.f_df t.fd_df Z0Q (A5 K t):=by
 refine T.F_df.okN BB ZB (λ W A outer s H vs Q E F h=>?_)
 ·obtain⟨G,L,A,n,j,rfl,_⟩:=h;rfl
 ·obtain⟨G,L,A,n,j,rfl,lo,V,O,k⟩:=h
  refine⟨_,(aW (bN (bQ Ze T.cl_Loom T.me_an ZOv Z9E T.b_an .nil bo Z0V))
   (aW (bN (bQ Ze T.cl_Loom T.me_bi ZOk Z9E T.b_bi .nil bo (bf ZQ (bf fX (bf fX aZ)))))
   (bg (bN (bQ Ze T.cl_Loom T.me_ba ZF8 Z9E T.b_ba .nil bo ZAF))))),?_⟩
  refine tm Zt lo.c.self rfl ZS (jO lo.c O ?_)
  refine tm Zt lo.c.self rfl (.cons Zt (.cons .c (.cons .c .nil))) ⟨G,L,A,n,j,.non,.non,none,rfl,lo,V,O,.own,λ G' H' Y st J U=>?_⟩
  refine⟨_,rfl,L.p,L.dx,_,rfl,J.c.self,rfl,_,rfl,_,rfl,by show 2<=sizeLine;decide,λ r F=>?_⟩
  exact vn (E:=λ _ _ _=>False) V O st J U F ZF Z1x k
def Bt (K:W.Frag) (t:Adr):Sp:=λ vs H Q _=>∃ G L A n,∃ j:Nat,∃ b l,vs=[Zg,Z2k,Za]/\Lo K t G H L A n/\n<30/\j<A.many/\H b=some ZBR/\l∈A.A.po/\l.nm∉A.A.ta.map (·.1)/\l.to=j/\(A.ord=true->∀ l'∈A.A.po,l'.nm∉A.A.ta.map (·.1)->l'.nm.1=l.nm.1->l'.to=l.to->cd3 l.nm<=cd3 l'.nm) /\
 ∀ G' H' L' A',Stp G G' H H' L A L' A'->Lo K t G' H' L' A' (n+1)->Q .non H'
theorem DE (T:ZN):bR P w K mg base ZT 6 t.f_dg t.fd_dg Z1K (Bt K t):=by
 refine T.F_dg.okN An ZB ZJ
 ·obtain⟨G,L,A,n,j,b,l,rfl,_⟩:=h;rfl
 ·obtain⟨G,L,A,n,j,b,l,rfl,lo,nn,hj,hb,hl,nt,to,od,k⟩:=h
  refine⟨_,(aW Z42
   (aW (bX (cM (cC (bQ Ze T.cl_Loom T.me_bh (Ei (K:=K) T) Z7 T.b_bh .nil bo Z6w)))
    ZIF
    bM)
   (aW (bN (bQ Ze T.cl_Loom T.me_bi ZOk Z7 T.b_bi .nil bo (bf ZQ (bf Zj (bf (bF Zp (cH Z1W Z4 Zj ZC) bh ZC) aZ)))))
   (bg (bN (bQ Ze T.cl_Loom T.me_ba ZF8 Z7 T.b_ba .nil bo (bf ZQ (bf (cE (bf gA Z6w)) aZ)))))))),?_⟩
  obtain⟨e0,he0,k0⟩:=ZK9
  have small:∀ l∈A.A.po,ZTY:=λ l hl=>by
   obtain⟨r1,r2,r3,r4,r5,r6,_⟩:=ZEp
   have:=ZC4
   exact ZAK
  refine Z7z
  refine tm Zt lo.c.self rfl Z1O ⟨G,L.p,L.dx,L.dz,A.many,A.ord,L.lt,L.lg,L.D,A.A,j,b,l.nm,e0,rfl,lo.c.self,lo.c.di,hb,he0,lo.wf.wn,by rw[k0,to],(ZGz).mpr ⟨l,hl,rfl,by rw[k0],by rw[k0],nt⟩,ZKu,λ m hm=>?_,λ ot m hm=>?_,λ H1 s1=>ZGw⟩
  ·obtain⟨l',hl',rfl,_⟩:=ZDm
   exact small l' hl'
  ·obtain⟨l',hl',rfl,z1,z2,z3⟩:=ZDm
   exact od ot l' hl' z3 (by rw[z1,k0]) (by rw[z2,k0])
  have lo1:=Z3s
  have v1:cf (A.A.po.map λ l=>(Z0t,Z04)) (Z0t)=some (Z2L):=cK (λ l:cV=>Z0t) Z5m Z1u hl
  refine tm Zt lo1.c.self rfl (vs:=[Z2k,Za,Z9p]) (.cons Zt (.cons Zt (.cons (λ Q' q'=>⟨_,rfl,L.p,_,L.dx,_,_,rfl,lo1.c.self,T.cl_Loom,T.na_cg,rfl,_,rfl,L.D.po,Z2L,rfl,.inr ⟨_,Z0t,b,.inl lo1.c.di.po,rfl,ZFr,v1.symm⟩,l.adr,_,1,Z9p,rfl,rfl,SqT.of (lo1.c.held _ _ (lo1.c.di.lets l hl)),rfl,q'⟩) .nil))) ?_
  refine⟨G,L,A,n,j,Za,Z9p,ZUP,rfl,lo1,nn,hj,.use ZFr hl nt to,λ G' H' A' st lo' lg'=>?_⟩
  refine⟨_,rfl,L.p,L.dx,_,rfl,lo'.c.self,rfl,_,rfl,_,rfl,_,rfl,by show 3<=sizeLine;decide,λ r hr=>?_⟩
  exact vn (E:=λ _ _ _=>False) nn hj ZHI lo' lg' hr ZF (.inr ⟨b,l.nm,rfl,(ZHI).bt _ _ (lo.c.wU hb) hb⟩) k
def EC (K:W.Frag) (t:Adr):Sp:=λ vs H Q _=>∃ G L A n,∃ j:Nat,vs=[Zg,Z2k]/\Lo K t G H L A n/\n<30/\j<A.many/\∀ G' H' L' A',Stp G G' H H' L A L' A'->Lo K t G' H' L' A' (n+1)->Q .non H'
theorem Lo.ri {G H H':Hp}{L:LoL}{A:LoA}{n j m:Nat}{q q':ThL}{T0 T':ThA}(lo:Z07) (hq:L.ths[j]? = some q) (hT:A.ths[j]? = some T0) (b1:ZF1) (th1:Th K t G H' q' T') (pe:q'.p=q.p) (fr:∀ b∈q'.ad,b∈q.ad\/H b=none) (nm:n<=m) (tw:∀ T,TWf n T->TWf m T) (tw1:TWf m T') (ev1:T'.evs=T0.evs) (pt1:T'.pt (A.b j)) :
  Lo K t G H' { L with ths:=Z7g} { A with ths:=Z5k} m/\Stp G G H H' L A { L with ths:=Z7g} { A with ths:=Z5k}:=by
 have hj:=ZR2
 have bn:=lo.bn
 obtain⟨lx,lgx,ll,lr⟩:=lo.lg
 refine⟨⟨lo.c.ri hq ⟨ZSB,th1.held,λ _ _ e=>ZGX⟩ b1 th1 pe fr,lo.wf.mono λ x=>vi hT (by rw[ev1];exact Z9) x,lo.lk.evs (wK hT ev1),⟨lx,b1 _ _ (λ z=>lo.c.tb j q hq _ z ZA) lgx,ZV,λ x hx=>(lr x hx).keep λ b xs e=>b1 _ _ (λ z=>lo.c.wU e ZRm) e⟩,λ T1 hT1=>?_,⟨by show A.A.po.length<=_;omega,bn.2⟩,lo.m2,lo.fr,λ i T1 h1=>?_,lo.snd⟩,lo.c.stp hq hT b1 fr λ p _=>by rw[ev1]⟩
 ·rcases List.mem_or_eq_of_mem_set hT1 with y|y
  ·exact tw _ ZT7
  ·rw[y];exact tw1
 ·rcases eB hj h1 with ⟨rfl,rfl⟩|⟨_,z⟩
  ·exact pt1
  ·exact ZNW
theorem Bf (T:ZN):bR P w K mg base ZT 3 t.f_cl t.fd_cl Z0Q (EC K t):=by
 refine T.F_cl.okN AN ZB ZJ
 ·obtain⟨G,L,A,n,j,rfl,_⟩:=h;rfl
 ·obtain⟨G,L,A,n,j,rfl,lo,nn,hj,k⟩:=h
  refine⟨_,(aW Z42
   (aW (bN (bI Z77 T.cl_Thread T.me_bf (Bs (K:=K) T) Z7 T.b_bf .nil bo))
   (bg (bN (bQ Ze T.cl_Loom T.me_ba ZF8 Z7 T.b_ba .nil bo ZAF))))),?_⟩
  obtain⟨q,T0,hq,hT,th,tw,hqs⟩:=ZWa
  refine Z7z
  refine tm (jq T lo.c rfl rfl hqs) th.self rfl .nil ⟨G,q,T0,rfl,th,by have:=tw.wn;omega,λ H1 b1 th1=>?_⟩
  obtain⟨tw1,ev1,pt1⟩:=tw.wrote
  obtain⟨lo1,st⟩:=lo.ri hq hT (b1.mono λ b hb=>by unfold ThL.ad;simp only[Fi,Ft,F8] at hb ⊢;exact hb.imp id .inr) th1 rfl (λ b hb=>ZSJ) (HF n) (λ T h=>h.more) tw1 ev1 (pt1 _ ZBN)
  have hset:L.ths.set j q=L.ths:=by
   obtain⟨lt,rfl⟩:=ZON
   exact JQ lt
  rw[hset] at lo1 st
  obtain⟨lx,lgx,ll,_⟩:=lo.lg
  have lg1:H1 L.lg=some ZMA:=b1 _ _ (λ z=>lo.c.tb j q hq L.lg (by unfold ThL.ad;simp only[Fi,Ft,F8] at z ⊢;exact z.imp id .inr) ZA) lgx
  refine⟨_,rfl,L.p,L.dx,_,rfl,lo1.c.self,rfl,_,rfl,_,rfl,by show 2<=sizeLine;decide,λ r hr=>?_⟩
  exact vn (E:=λ _ _ _=>False) nn hj st lo1 ⟨lx,lg1,ll⟩ hr ZF Z1x k
def DG (K:W.Frag) (t:Adr):Sp:=λ vs H Q _=>∃ G L A n,vs=[Zg]/\Lo K t G H L A n/\∀ l H',bj H H'->H l=none->H' l=some (.lst (iV (A.ths.map λ T=>(T.evs.length:Int))))->Q Zv H'
theorem xW (T:ZN):bR P w K mg base ZT 2 t.f_bx t.fd_bx Z0i (DG K t):=by
 refine T.F_bx.okN Cu ZB Z13
 ·obtain⟨G,L,A,n,rfl,_⟩:=h;rfl
 ·obtain⟨G,L,A,n,rfl,lo,k⟩:=h
  refine⟨_,(bg (bC (dA ["self","thread"] 1 rfl ZN1 (λ _ _ _ _ _=>⟨(bG (i:=1) (show List.Nodup (["self","thread"]:Zo) from ZF) rfl Z6),dI,(bI ZQ T.cl_Thread T.me_bw ZFE Z7 T.b_bw .nil bo)⟩)))),?_⟩
  have m2:=lo.m2
  have Z:(Z29).length=A.many:=by rw[Fe,lo.c.len1]
  refine⟨_,rfl,L.p,_,L.dx,_,_,rfl,lo.c.self,T.cl_Loom,T.na_bq,rfl,L.lt,rfl,⟨_,SqL.of lo.c.tl⟩,dE (xs:=Z29) Z2 λ acc F=>⟨λ i J ys H2=>ys=iV ((A.ths.take i).map λ T=>(T.evs.length:Int))/\H2 acc=some Z03/\bj H H2/\∃ o,J=[Z2G,o],Z2q,?_,?_,?_⟩⟩
  ·rintro i J ys H2 hi ⟨rfl,_,O,_⟩
   refine⟨SqL.of (O _ _ lo.c.tl),?_⟩
   unfold iV
   rw[Fe,Fe,F0];lia
  ·rintro i v J ys H2 hi U ⟨rfl,W,O,o,rfl⟩
   obtain⟨q,hq,rfl⟩:∃ q,L.ths[i]? = some q/\v=.ref q.p:=by
    rw[Ff] at U
    cases e:L.ths[i]? with
    | none=>rw[e] at U;cases U
    | some q=>rw[e] at U;cases U;exact Z7O
   obtain⟨T0,hT⟩:∃ T0,A.ths[i]? = some T0:=⟨_,E9 (by rw[lo.c.len2];lia)⟩
   have th:=lo.c.th i q T0 hq hT
   obtain⟨es,hd,Y⟩:=th.done
   dsimp only[dq,ki]
   refine f9 ⟨_,rfl,q.p,q.dx,_,rfl,ZO2,rfl,q.p,q.dx,_,q.ha,q.dn,q.wr,_,es,rfl,ZO2,SqL.of (O _ _ hd),W,Z0l⟩
   ·rw[GB,hT,Y.1]
    unfold iV
    simp
   ·rw[Z2w];exact O _ _ e
  ·rintro J ys H2 ⟨rfl,W,O,o,rfl⟩
   rw[Hn (by rw[Z,lo.c.len2];exact Z9)] at W
   exact k acc H2 O F W
noncomputable def eJ (H:Hp) (v:V):Nm3:=match v with
 | .ref b=>match H b with
  | some (.tup [.int x,.int y,.int z])=>(x,y,z)
  | _=>(0,0,0)
 | _=>(0,0,0)
def d6 (H:Hp) (v:V) (n:Nm3):Prop:=∃ b,v=.ref b/\H b=some Z3I
theorem d6.of (h:ZBa):eJ H v=n:=by
 obtain⟨b,rfl,e⟩:=h
 unfold eJ nV at *
 simp only[e]
theorem d6.same (s:Z4h) (h:ZBa):d6 H' v n:=let ⟨b,e,z⟩:=h;⟨b,e,ZRE⟩
theorem d6.rp (h:ZBa):Rp K H v (ZCU):=by
 obtain⟨b,rfl,e⟩:=h
 exact uR e
theorem d6.rk (h:ZBa):rk3 H v=cd3 n:=by
 obtain⟨b,rfl,e⟩:=h
 unfold rk3
 unfold nV at e
 simp only[e]
 rfl
structure NmL (H:Hp) (ls:List V) (ns:List Nm3):Prop where
 eq:ls.map (eJ H)=ns
 all:∀ v∈ls,d6 H v ZP1
theorem NmL.nil:NmL H [] []:=⟨rfl,λ v F=>by cases F⟩
theorem NmL.len (h:Z93):ls.length=ns.length:=by rw[<- h.eq,Fe]
theorem NmL.same {H H':Hp}{J:Z11}{ns:Z1w}(s:Z4h) (h:ZJc):ZRl:=by
 have e:∀ v∈J,eJ H' v=eJ H v:=λ v F=>(ZQu).of
 exact⟨by rw[<- h.eq];exact FY e,λ v F=>by rw[e v F];exact ZQu⟩
theorem NmL.keep (s:∀ b xs,H b=some Zb->H' b=some Zb) (h:ZJc):ZRl:=by
 have z:∀ v∈J,d6 H' v ZP1:=λ v F=>let ⟨b,e,z⟩:=Z6Q;⟨b,e,ZRE⟩
 have e:∀ v∈J,eJ H' v=eJ H v:=λ v F=>ZTz
 exact⟨by rw[<- h.eq];exact FY e,λ v F=>by rw[e v F];exact z v F⟩
theorem NmL.snoc (h:Z93) (i:ZBa):NmL H (ls++[v]) (ns++[n]):=by
 refine⟨by rw[FF,h.eq,He,i.of],λ u F=>?_⟩
 rcases Fm.mp F with F|F
 ·exact ZUq
 ·rw[Fd] at F
  rw[F,i.of];exact i
theorem NmL.perm (h:Z93) (p:ZHa):NmL H ls' (ZMP)/\(ZMP).Perm ns:=⟨Z70,by rw[<- h.eq];exact p.map _⟩
theorem NmL.rp:∀ {F:List V}{ns:List Nm3},NmL H F ns->dj K H F (ns.map λ n=>ZCU)
 | [],_,h=>by
  have:=h.eq
  cases this
  exact .nil
 | v::F,_,h=>by
  have e:=h.eq
  rw[<- e,FL,FL]
  exact .cons (ZTJ).rp (NmL.rp Z9G)
theorem NmL.small (h:ZJc) (O:∀ n∈ns,ZHk):∀ v∈J,Nm H v:=λ v F=>by
 obtain⟨b,e,z⟩:=Z6Q
 have:=O ZP1 (by rw[<- h.eq];exact Fq F)
 exact⟨b,_,_,_,e,z,this⟩
theorem NmL.lK (h:Z93):ls.map (rk3 H)=ns.map cd3:=by
 rw[<- h.eq,F9]
 exact FY λ v F=>(Z6Q).rk
theorem NmL.sorted (h:Z93) (p:ZHa) (V:ls'.Pairwise λ u v=>rk3 H u<rk3 H v):∃ F,NmL H ls' F/\F.Perm ns/\pk F:=by
 obtain⟨h1,h2⟩:=h.perm p
 refine⟨_,h1,h2,?_⟩
 unfold pk
 rw[Gy]
 refine V.imp_of_mem λ{a b} J O U=>?_
 rw[<- (h1.all a J).rk,<- (h1.all b O).rk];exact U
theorem dY {ns:Z1w}(F:ns.Nodup) (J:∀ n∈ns,ZHk):(ns.map cd3).Nodup:=by
 unfold List.Nodup at F ⊢
 rw[Gy]
 exact F.imp_of_mem λ{a b} O U V e=>V (qH (J a O) (J b U) e)
noncomputable def DiA.free (A:DiA):ZLO:=A.po.filter λ l=>decide (l.nm∉A.ta.map (·.1))
theorem Lo.small (lo:Z07) (J:n<=30):∀ l∈A.A.po,ZTY:=λ l F=>by
 obtain⟨O,U,V,W,Y,Z,_⟩:=ZFv
 have:=ZC4
 exact ZAK
theorem sY {ta:List (Nm3×Int)}{n:Nm3}(nt:(ta.map (·.1)).Nodup):(cf (ta.map λ e=>(Z0p,Zw)) Z80).isSome=decide (n∈ta.map (·.1)):=by
 by_cases h:n∈ta.map (·.1)
 ·obtain⟨e,he,rfl⟩:=Fw.mp h
  rw[cK (λ e:Nm3×Int=>Z0p) Z3z (cZ (f:=λ x:Nm3×Int=>x.1) cJ nt) he]
  simp[h]
 ·rw[eV (λ e:Nm3×Int=>Z0p) Z3z λ e he z=>h (by rw[<- cJ _ _ z];exact ZOK)]
  simp[h]
noncomputable def vC (n:Nat×Nat×Nat):Int:=reduceHash (Builtin.Tuple.tupleHashOf [hashInt (n.1:Int),hashInt (n.2.1:Int),hashInt (n.2.2:Int)])
noncomputable def L3:List (Nat×Nat×Nat):=(List.range 5).flatMap λ h=>(List.range 31).flatMap λ p=>(List.range 3).map λ k=>(h,p,k)
noncomputable def rL (x:Int):List Int->Bool
 | []=>true
 | y::l=>!(x == y) && rL x l
noncomputable def mG:List Int->Bool
 | []=>true
 | x::l=>rL x l && mG l
theorem vT:mG (L3.map vC)=true:=ZF
theorem oX:∀ {l:List Int},rL x l=true->x∉l
 | [],_,h=>by cases h
 | y::l,h,m=>by
  unfold rL at h
  rw[F5] at h
  rcases Fi.mp m with e|m
  ·rw[e] at h;simp at h
  ·exact oX h.2 m
theorem lE:∀ {l:List Int},mG l=true->l.Nodup
 | [],_=>.nil
 | x::l,h=>by
  unfold mG at h
  rw[F5] at h
  exact GJ.mpr ⟨oX h.1,lE h.2⟩
theorem vJ (a:h<5) (b:p<31) (c:k<3):(h,p,k)∈L3:=by
 unfold L3
 exact JE.mpr ⟨h,Hw.mpr a,JE.mpr ⟨p,Hw.mpr b,Fw.mpr ⟨k,Hw.mpr c,rfl⟩⟩⟩
theorem oY {F W:Type}{f:F->W}{l:List F}(V:ZSi) {a b:F}(J:a∈l) (O:b∈l) (e:f a=f b):a=b:=by
 obtain⟨i,hi,rfl⟩:=FQ J
 obtain⟨j,U,rfl⟩:=FQ O
 have:i=j:=(G5 (l:=ZEq) (by simpa using hi) V).mp (by rw[Ff,Ff,E9 hi,E9 U];exact Z5b)
 subst this;rfl
def InR (n:Nm3):Prop:=0<=n.1/\n.1<5/\0<=n.2.1/\n.2.1<31/\0<=n.2.2/\n.2.2<3
theorem zp {w:World}{a b:Nm3}(ha:InR a) (hb:InR b) (e:hT w (nk a)=hT w (nk b)):a=b:=by
 obtain⟨x,y,z⟩:=a
 obtain⟨Y,Z,z'⟩:=b
 obtain⟨F,a2,J,a4,O,a6⟩:=ha
 obtain⟨U,b2,V,b4,W,b6⟩:=hb
 dsimp only at F a2 J a4 O a6 U b2 V b4 W b6
 obtain⟨x,rfl⟩:=FR F
 obtain⟨y,rfl⟩:=FR J
 obtain⟨z,rfl⟩:=FR O
 obtain⟨Y,rfl⟩:=FR U
 obtain⟨Z,rfl⟩:=FR V
 obtain⟨z',rfl⟩:=FR W
 have e':vC (x,y,z)=vC (Y,Z,z'):=e
 have:=oY (lE vT) ZOm ZOm e'
 cases this
 rfl
theorem iR {w:World}{ns:Z1w}(F:ns.Nodup) (h:∀ n∈ns,InR n):(ns.map λ n=>hT w Z80).Nodup:=by
 unfold List.Nodup at F ⊢
 rw[Gy]
 exact F.imp_of_mem λ{a b} J O U e=>U (zp (h a J) (h b O) e)
theorem Lo.inR (lo:Z07) (J:n<=30):∀ l∈A.A.po,InR l.nm:=λ l F=>by
 obtain⟨O,U,V,W,Y,Z,_⟩:=ZFv
 have:=ZC4
 have:=lo.m2
 exact⟨Z2,Z2,Z2,Z2,Z2,Z2⟩
def AA (K:W.Frag) (t:Adr):Sp:=λ vs H Q _=>∃ G L A n,vs=[Zg]/\Lo K t G H L A n/\n<=30/\∀ l ls ns H',bj H H'->H l=none->H' l=some Z2P->NmL H' ls ns->pk ns->ns.Perm (A.A.free.map (·.nm))->Q Zv H'
theorem Dl (T:ZN):bR P w K mg base ZT 1 t.f_cv t.fd_cv Z0i (AA K t):=by
 refine T.F_cv.okN DL ZB ZJ
 ·obtain⟨G,L,A,n,rfl,_⟩:=h;rfl
 ·obtain⟨G,L,A,n,rfl,lo,hn,k⟩:=h
  refine⟨_,(bg (bC (bL ZSY rfl T.no_sorted eF (bf (wV (H₀:=H) (dA Z1C 1 rfl (rA Z4) (λ _ _ _ _ _=>⟨(bG (i:=1) (show List.Nodup (["self","name"]:Zo) from ZF) rfl Z6),(fW (iB (eD Z1W ZQ Z4))),ZQ⟩))) aZ)))),?_⟩
  have bn:=lo.bn
  refine⟨_,rfl,L.p,_,L.dx,_,_,rfl,lo.c.self,T.cl_Loom,T.na_cg,rfl,L.D.po,_,rfl,.inl ⟨lo.c.di.po,λ o=>?_⟩⟩
  obtain⟨x1,x2,x3,x4,x5⟩:=lo.c.di.nes
  have poI:L.D.po∈L.D.own A.A:=by unfold DiL.own;simp
  have pne:L.p≠L.D.po:=λ y=>lo.c.nd1 (b:=L.p) ZA (by rw[y];exact poI)
  refine mf (by rw[Fe];lia) λ acc hacc=>⟨λ i σ2 ys H2=>(∃ ns,NmL H2 ys ns/\ns=((A.A.po.take i).filter λ l=>decide (l.nm∉A.A.ta.map (·.1))).map (·.nm))/\H2 acc=some Z03/\(∀ b u,b≠L.D.po->H b=some u->H2 b=some u)/\H2 L.D.po=some (.frz o (.dT (A.A.po.map λ l=>(Z0t,Z04))))/\∃ ov,σ2=[Z2G,ov],?_,?_,?_,?_⟩
  ·have na:acc≠L.D.po:=λ y=>by rw[y,aU] at hacc;cases hacc
   refine⟨⟨[],.nil,rfl⟩,aU,λ b u nb e=>?_,by rw[aV ZQy,aU],_,rfl⟩
   rw[aV (ba (o:=u) (by rw[aV nb];exact e) hacc),aV nb];exact e
  ·rintro i σ2 ys H2 hi ⟨⟨ns,nl,en⟩,e2,kp,hp2,_⟩
   refine⟨hp2,?_⟩
   rw[nl.len,en,Fe]
   exact FC Z68 (by rw[F0];lia)
  ·rintro i b kk v σ2 ys H2 hi hx hb ⟨⟨ns,nl,en⟩,e2,kp,hp2,ov,rfl⟩
   obtain⟨l,hl,rfl⟩:∃ l,A.A.po[i]? = some l/\kk=nk l.nm:=by
    rw[Ff] at hx
    cases e:A.A.po[i]? with
    | none=>rw[e] at hx;cases hx
    | some l=>rw[e] at hx;cases hx;exact⟨l,rfl,rfl⟩
   have isn:d6 H2 Za l.nm:=Z6B
   refine⟨_,rfl,_,rfl,L.p,_,L.dx,_,_,rfl,kp _ _ pne lo.c.self,T.cl_Loom,T.na_cs,rfl,L.D.ta,_,rfl,.inr ⟨_,Z0t,b,.inl (kp _ _ (Ne.symm x1) lo.c.di.ta),rfl,hb,rfl⟩,_,rfl,?_⟩
   rw[sY lo.wf.nt]
   have stepE:((A.A.po.take (i+1)).filter λ l=>decide (l.nm∉A.A.ta.map (·.1))).map (·.nm)=ns++(if l.nm∈A.A.ta.map (·.1) then [] else [l.nm]):=by
    rw[GB,hl,GU,FF,<- en]
    congr 1
    by_cases z:l.nm∈A.A.ta.map (·.1)
    ·rw[ZDY]
     simp[GW,z]
    ·rw[ZFZ]
     have z':decide (l.nm∉A.A.ta.map (·.1))=true:=by simpa using z
     show List.map _ (List.filter _ [l])=_
     rw[GW,Fl z']
     rfl
   by_cases z:l.nm∈A.A.ta.map (·.1)
   ·refine cD (by simpa using z) (Nx.mk hi ⟨⟨ns,nl,by rw[stepE,Fl z,Gf]⟩,e2,kp,hp2,_,rfl⟩)
   ·refine eT (by simpa using z) ⟨_,rfl,e2,Nx.mk hi ⟨⟨ns++[l.nm],?_,by rw[stepE,Fj z]⟩,aU,λ c u nc e=>?_,?_,_,rfl⟩⟩
    ·exact(nl.snoc isn).keep λ c xs e=>by rw[aV (λ y=>by rw[y,e2] at e;cases e)];exact e
    ·have na:c≠acc:=λ y=>by
      rw[y] at e nc
      rw[ZJS] at hacc
      rw[e] at hacc;cases hacc
     rw[aV na];exact kp c u nc e
    ·rw[aV (λ y=>by rw[y,e2] at hp2;cases hp2)];exact hp2
  ·rintro σ2 ys H2 ⟨⟨ns,nl,en⟩,e2,kp,hp2,_⟩
   rw[Fe,Hb] at en
   have na:acc≠L.D.po:=λ y=>by rw[y,aU] at hacc;cases hacc
   have s3:bj H (upd H2 L.D.po (.dT (A.A.po.map λ l=>(Z0t,Z04)))):=λ b u e=>by
    by_cases y:b=L.D.po
    ·rw[y,aU]
     rw[y,lo.c.di.po] at e;exact e
    ·rw[aV y];exact kp b u y e
   have nl3:NmL (upd H2 L.D.po (.dT (A.A.po.map λ l=>(Z0t,Z04)))) ys ns:=nl.keep λ c xs e=>by rw[aV (λ y=>by rw[y,hp2] at e;cases e)];exact e
   have sub:∀ n∈ns,ZHk:=λ n hn'=>by
    rw[en] at hn'
    obtain⟨l,hl,rfl⟩:=Fw.mp hn'
    exact lo.small hn l (FN.mp hl).1
   have ndn:ns.Nodup:=by
    rw[en]
    exact lo.wf.nd.sublist ((Iu).map _)
   refine⟨L.D.po,o,_,hp2,(λ o' v' y=>by rw[lo.c.di.po] at y;cases y),acc,ys,rfl,SqL.of (by rw[aV na];exact e2),?_,nl3.small sub,by rw[nl3.lK];exact dY ndn sub,λ l ls' hl p so=>?_⟩
   ·rw[nl.len,en,Fe]
    have:=F6 (λ l:cV=>decide (l.nm∉A.A.ta.map (·.1))) A.A.po
    lia
   ·obtain⟨ns',n1,n2,n3⟩:=nl3.sorted p so
    have sl:=bj.new (o:=ZOW) hl
    exact k l ls' ns' _ (s3.trans sl) (s3.free hl) aU (n1.same sl) n3 (by rw[en] at n2;exact n2)
def CZ (K:W.Frag) (t:Adr):Sp:=λ vs H Q _=>∃ G L A n,vs=[Zg]/\Lo K t G H L A n/\n<=30/\∀ l H',bj H H'->H l=none->H' l=some (.dT (A.A.po.map λ l=>(Z0t,Z04)))->Q Zv H'
theorem mi (T:ZN):bR P w K mg base ZT 1 t.f_ag t.fd_ag Z0i (CZ K t):=by
 refine T.F_ag.okN Ed ZB (λ O A outer s H vs Q E V h=>?_)
 ·obtain⟨G,L,A,n,rfl,_⟩:=h;rfl
 ·obtain⟨G,L,A,n,rfl,lo,U,k⟩:=h
  refine Z59
  refine⟨_,rfl,L.p,_,L.dx,_,_,rfl,lo.c.self,T.cl_Loom,T.na_cg,rfl,L.D.po,_,rfl,.inl lo.c.di.po,?_,λ l F=>ZFx⟩
  rw[F9]
  have:=iR (w:=w) lo.wf.nd λ n J=>by
   obtain⟨l,F,rfl⟩:=ZRu
   exact lo.inR U l F
  rw[F9] at this
  exact this
def D0 (K:W.Frag) (t:Adr):Sp:=λ vs H Q _=>∃ G L A n,vs=[Zg]/\Lo K t G H L A n/\n<=30/\∀ l H',bj H H'->H l=none->H' l=some (.dT (A.A.ta.map λ e=>(Z0p,Zw)))->Q Zv H'
theorem oO (T:ZN):bR P w K mg base ZT 1 t.f_ah t.fd_ah Z0i (D0 K t):=by
 refine T.F_ah.okN Bz ZB (λ O A outer s H vs Q E W h=>?_)
 ·obtain⟨G,L,A,n,rfl,_⟩:=h;rfl
 ·obtain⟨G,L,A,n,rfl,lo,V,k⟩:=h
  refine Z59
  refine⟨_,rfl,L.p,_,L.dx,_,_,rfl,lo.c.self,T.cl_Loom,T.na_cs,rfl,L.D.ta,_,rfl,.inl lo.c.di.ta,?_,λ l F=>ZFx⟩
  rw[F9]
  have:=iR (w:=w) lo.wf.nt λ n J=>by
   obtain⟨e,U,rfl⟩:=ZRu
   obtain⟨l,F,z,_⟩:=ZQ2
   rw[<- z];exact lo.inR V l F
  rw[F9] at this
  exact this
def ThN (t:Adr) (H:Hp) (q:ThL) (s:ZJb):Prop:=∃ s',s=some s'/\H q.p=some (.ins t.c_Thread q.dx (thF s' q.ha q.dn q.wr 0))/\H q.dn=some (Z0H)/\H q.wr=some ZMB/\q.dn≠q.wr
theorem ThN.keep (h:ZRh) (k:∀ c u,c∈q.ad->H c=some u->H' c=some u):ThN t H' q s:=
 let ⟨s',e,h1,h2,F,n⟩:=h
 ⟨s',e,k _ _ (by unfold ThL.ad;simp) h1,k _ _ (by unfold ThL.ad;simp) h2,k _ _ (by unfold ThL.ad;simp) F,n⟩
theorem ThN.some (h:ZRh) (F:c∈q.ad):H c≠none:=by
 obtain⟨s',e,h1,h2,J,n⟩:=h
 unfold ThL.ad at F
 simp only[Fi,Ft,F8] at F
 rcases F with rfl|rfl|rfl
 ·rw[h1];simp
 ·rw[h2];simp
 ·rw[J];simp
theorem nA (J:H p=some z) (F:H l=none):(∀ c u,c≠p->H c=some u->upd ZSU p o' c=some u)/\upd ZSU p o' l=some o/\l≠p:=by
 have n:l≠p:=λ e=>by rw[e,J] at F;cases F
 exact⟨λ c u O e=>by rw[aV O,Z2w];exact e,by rw[aV n,aU],n⟩
noncomputable def uM (m:Nat) (o:Bool) (fr:Z11) (sts:ZU) (hbs:List gJ):LoA:=⟨m,o,fr,(Z8w).map λ x=>⟨x.1,x.2,[],[0],0⟩,⟨[],[],[]⟩,λ _=>0⟩
def EG (K:W.Frag) (t:Adr):Sp:=λ vs H Q _=>∃ (G:Hp) (p dx dz a b:Addr) (m:Nat) (has:List Addr) (hbs:List gJ) (o:Bool) (sts:List Int) (c':Int),vs=[Z00,ZSF,ZY,Za,.bl o]/\H p=some (ZHz)/\bj G H/\G p=none/\SqL K H a (iV sts)/\sts.length=m/\SqL K H b (Z6n)/\has.length=m/\hbs.length=m /\
 (∀ (i:Nat) ha hb,has[i]? = some ha->hbs[i]? = some hb->kB t G ha hb)/\mV G "_law_loom.<locals>.<lambda>" sV Z06 dz [.int c',Z4Q]/\2<=m/\m<=5 /\
 ∀ (H':Hp) (L:LoL),L.p=p->(∀ c∈L.own (uM m o [.int c',Z4Q] sts hbs),c=p\/H c=none)->(∀ c u,c≠p->H c=some u->H' c=some u)->Lo K t G H' L Z55 0->Q .non H'
theorem Dm (T:ZN):bR P w K mg base ZT 3 t.f_cw t.fd_cw Z1D (EG K t):=by
 refine T.F_cw.okN Ba ZB ZJ
 ·obtain⟨G,p,dx,dz,a,b,m,has,hbs,o,sts,c',rfl,_⟩:=h;rfl
 ·obtain⟨G,p,dx,dz,a,b,m,has,hbs,o,sts,c',rfl,hp,sG,gp,ha,l0,hb,l1,l2,hab,clo,m0,m1,k⟩:=h
  refine⟨_,(aW Z56
   (aW (cj (K:=K) Ze ZBq rfl)
   (aW (cj (K:=K) Ze Z0C rfl)
   (aW (cj (K:=K) Ze (dA ["self","does","starts","habits","ordered","start","habit"] 2 rfl (zg (K:=K) rfl T.no_zip ZSg) (λ _ _ _ _ _=>⟨(fb (K:=K) (n:=2) rfl (cq (bG (i:=5) (show List.Nodup (["self","does","starts","habits","ordered","start","habit"]:Zo) from ZF) rfl Z6) (cq (bG (i:=6) (show List.Nodup (["self","does","starts","habits","ordered","start","habit"]:Zo) from ZF) rfl Z6) fi))),dI,(fS T.mk_Thread (D7 (K:=K) T) Z7 rfl T.mg_Thread T.b_bv .nil bo (bf Z01 Z0z))⟩)) rfl)
   (aW ZFk
   (aW Z7v
   (aW Z7v
   (bg Z7v)))))))),?_⟩
  refine⟨_,rfl,_,rfl,p,_,dx,_,rfl,hp,T.cl_Loom,T.na_da,Z3,?_⟩
  refine⟨_,rfl,a,_,rfl,.inl ZWj,_,rfl,p,_,dx,_,rfl,aU,T.cl_Loom,T.na_db,by show 1<1000;decide,?_⟩
  rw[iI,cO,l0]
  refine⟨_,rfl,_,rfl,p,_,dx,_,rfl,aU,T.cl_Loom,T.na_bp,by show 2<1000;decide,?_⟩
  rw[iI]
  have hp3:upd H p Z4V p=some Z4V:=aU
  have ha3:=g8 (fs':=ZD) hp ha
  have hb3:=g8 (fs':=ZD) hp hb
  have k3:∀ c u,c≠p->H c=some u->upd H p Z4V c=some u:=λ c u nc e=>by rw[ZJS];exact e
  have f3':∀ c,upd H p Z4V c=none->H c=none:=λ c e=>by
   by_cases y:c=p
   ·rw[y,aU] at e;cases e
   ·rw[aV y] at e;exact e
  generalize upd H p (HO.ins t.c_Loom dx (bx "ordered" (.bl o) (bx "many" (.int m) (bx "does" (.ref dz) []))))=H3 at hp3 ha3 hb3 k3 f3' ⊢
  refine⟨_,rfl,_,rfl,a,b,_,_,rfl,ha3,hb3,uv (xs:=iV sts) (ys:=Z6n) (by rw[cO];lia) (by rw[cO,Fe,l1,l0]) λ acc hacc=>⟨λ i σ2 zs H2=>(∃ Ls:List ThL,Ls.length=i/\zs=Ls.map (λ q=>V.ref q.p)/\H2 acc=some ZGr/\bj H3 H2/\(∀ (j:Nat) q,Ls[j]? = some q->ThN t H2 q sts[j]? /\ has[j]? = some q.ha/\∀ c∈q.ad,H3 c=none/\c≠acc)/\∀ (j l:Nat) q r,Ls[j]? = some q->Ls[l]? = some r->j≠l->∀ x∈q.ad,x∉r.ad)/\∃ o1 o2,σ2=[Z5z,some ZSF,Z7S,Z6j,some (.bl o),o1,o2],?_,?_,?_,?_⟩⟩
  ·exact⟨⟨[],rfl,rfl,aU,ZRY,(λ j q e=>by simp at e),(λ j l q r e=>by simp at e)⟩,_,_,rfl⟩
  ·rintro i σ2 zs H2 hi ⟨⟨Ls,len,rfl,_,s2,_⟩,_⟩
   exact⟨s2.seq ha3,s2.seq hb3,by rw[Fe];lia⟩
  ·rintro i x y pz σ2 zs H2 hi hx hy npz ⟨⟨Ls,len,rfl,e2,s2,hth,td⟩,o1,o2,rfl⟩
   obtain⟨s0,rfl,hs0⟩:=pQ hx
   obtain⟨hx',hax,rfl⟩:∃ h',has[i]? = some h'/\y=.ref h':=by
    rw[Ff] at hy
    cases e:has[i]? with
    | none=>rw[e] at hy;cases hy
    | some h'=>rw[e] at hy;cases hy;exact⟨h',rfl,rfl⟩
   refine⟨pz,_,rfl,ZVD,rfl,_,_,rfl,_,_,rfl,rfl,?_⟩
   dsimp only[ki]
   refine f9 ⟨_,rfl,_,rfl,λ x dxx nx ndx ndd=>⟨x,dxx,s0,hx',rfl,aU,λ dn wr H5 hdn hwr ndw hH5=>Z4v⟩⟩
   have sz:bj H2 Z3R:=bj.new npz
   have si:bj Z3R (upd (upd Z3R dxx Z69) x (.ins t.c_Thread dxx [])):=bj.ins nx ndx
   have x0:H2 x=none:=sz.free nx
   have dn0:H2 dn=none:=sz.free (si.free hdn)
   have wr0:H2 wr=none:=sz.free (si.free hwr)
   have ndx':dn≠x:=λ e=>by rw[e,aU] at hdn;cases hdn
   have nwx':wr≠x:=λ e=>by rw[e,aU] at hwr;cases hwr
   have s5:bj H2 H5:=λ c u e=>by
    rw[hH5 c,Fj (ba e x0),Fj (ba e dn0),Fj (ba e wr0)]
    exact si _ _ (sz _ _ e)
   have nacc:∀ c,H2 c=none->c≠acc:=λ c e y=>by rw[y,e2] at e;cases e
   have newF:∀ c∈ThL.ad ⟨x,dxx,hx',dn,wr⟩,H2 c=none:=λ c hc=>by
    unfold ThL.ad at hc
    simp only[Fi,Ft,F8] at hc
    rcases hc with rfl|rfl|rfl
    ·exact x0
    ·exact dn0
    ·exact wr0
   refine⟨s5 _ _ e2,Nx.mk hi ⟨⟨Ls++[⟨x,dxx,hx',dn,wr⟩],by rw[Fh,len];rfl,by rw[FF];rfl,aU,λ c u e=>?_,λ j q hq=>?_,λ j l q r hq hr jl y hy hz=>?_⟩,_,_,rfl⟩⟩
   ·rw[ZMa];exact s5 _ _ Z9e
   ·rcases iT hq with hq|⟨rfl,rfl⟩
    ·obtain⟨t1,t4,t5⟩:=ZE5
     exact⟨t1.keep λ c u hc e=>by rw[aV (t5 c hc).2];exact ZNO,t4,t5⟩
    ·refine⟨⟨s0,by rw[len];exact hs0,?_,?_,?_,ndw⟩,by rw[len];exact hax,λ c hc=>⟨s2.free ZSX,nacc c ZSX⟩⟩
     ·rw[aV (nacc _ x0),hH5,Z1U]
     ·rw[aV (nacc _ dn0),hH5,Fj ndx',Z1U]
     ·rw[aV (nacc _ wr0),hH5,Fj nwx',Fj (Ne.symm ndw),Z1U]
   ·rcases iT hq with hq|⟨e1,rfl⟩<;>rcases iT hr with hr|⟨e2',rfl⟩
    ·exact td j l q r hq hr jl y hy hz
    ·exact(ZE5).1.some hy (newF y hz)
    ·exact(hth l r hr).1.some hz (newF y hy)
    ·exact jl (e1.trans e2'.symm)
  ·rintro σ2 zs H2 ⟨⟨Ls,len,rfl,e2,s2,hth,td⟩,_⟩
   rw[cO,l0] at len
   have hp4:=s2 _ _ hp3
   refine⟨_,rfl,p,_,dx,_,rfl,hp4,T.cl_Loom,T.na_bq,by show 3<1000;decide,?_⟩
   have hp4':upd H2 p Z2p p=some Z2p:=aU
   have k4:∀ c u,c≠p->H2 c=some u->upd H2 p Z2p c=some u:=λ c u nc e=>by rw[ZJS];exact e
   generalize upd H2 p (.ins t.c_Loom dx (bx "threads" (.ref acc) (bx "ordered" (.bl o) (bx "many" (.int m) (bx "does" (.ref dz) [])))))=H4 at hp4' k4 ⊢
   refine⟨Z3,λ lg hlg=>⟨_,rfl,p,_,dx,_,rfl,by rw[aV (ba hp4' hlg)];exact hp4',T.cl_Loom,T.na_dk,by show 4<1000;decide,?_⟩⟩
   obtain⟨k5,e5,ne5⟩:=nA (o:=Z0H) (o':=Z4l) hp4' hlg
   have hp5:upd (upd H4 lg Z0H) p Z4l p=some _:=aU
   generalize upd (upd H4 lg (.lst [])) p (.ins t.c_Loom dx (bx "log" (.ref lg) (bx "threads" (.ref acc) (bx "ordered" (.bl o) (bx "many" (.int m) (bx "does" (.ref dz) []))))))=H5 at k5 e5 hp5 ⊢
   refine λ po hpo=>⟨_,rfl,p,_,dx,_,rfl,by rw[aV (ba hp5 hpo)];exact hp5,T.cl_Loom,T.na_cg,by show 5<1000;decide,?_⟩
   obtain⟨k6,e6,ne6⟩:=nA (o:=ZIu) (o':=ZI0) hp5 hpo
   have hp6:upd (upd H5 po Z5T) p ZI0 p=some _:=aU
   generalize upd (upd H5 po (.dT [])) p (.ins t.c_Loom dx (bx "posted" (.ref po) (bx "log" (.ref lg) (bx "threads" (.ref acc) (bx "ordered" (.bl o) (bx "many" (.int m) (bx "does" (.ref dz) [])))))))=H6 at k6 e6 hp6 ⊢
   refine λ ta hta=>⟨_,rfl,p,_,dx,_,rfl,by rw[aV (ba hp6 hta)];exact hp6,T.cl_Loom,T.na_cs,by show 6<1000;decide,?_⟩
   obtain⟨k7,e7,ne7⟩:=nA (o:=ZIu) (o':=ZHD) hp6 hta
   have hp7:upd (upd H6 ta Z5T) p ZHD p=some _:=aU
   generalize upd (upd H6 ta (.dT [])) p (.ins t.c_Loom dx (bx "taken" (.ref ta) (bx "posted" (.ref po) (bx "log" (.ref lg) (bx "threads" (.ref acc) (bx "ordered" (.bl o) (bx "many" (.int m) (bx "does" (.ref dz) []))))))))=H7 at k7 e7 hp7 ⊢
   refine λ wy hwy=>⟨_,rfl,p,_,dx,_,rfl,by rw[aV (ba hp7 hwy)];exact hp7,T.cl_Loom,T.na_dc,by show 7<1000;decide,?_⟩
   obtain⟨k8,e8,ne8⟩:=nA (o:=ZIu) (o':=Z76) hp7 hwy
   have hp8:upd (upd H7 wy Z5T) p Z76 p=some (.ins t.c_Loom dx (loF dz m o acc lg Z6A)):=aU
   generalize upd (upd H7 wy (.dT [])) p (.ins t.c_Loom dx (bx "ways" (.ref wy) (bx "taken" (.ref ta) (bx "posted" (.ref po) (bx "log" (.ref lg) (bx "threads" (.ref acc) (bx "ordered" (.bl o) (bx "many" (.int m) (bx "does" (.ref dz) [])))))))))=H8 at k8 e8 hp8 ⊢
   have u78:=k8
   have u68:∀ c u,c≠p->H6 c=some u->H8 c=some u:=λ c u n e=>k8 c u n (k7 c u n e)
   have u58:∀ c u,c≠p->H5 c=some u->H8 c=some u:=λ c u n e=>u68 c u n (k6 c u n e)
   have u48:∀ c u,c≠p->H4 c=some u->H8 c=some u:=λ c u n e=>u58 c u n (k5 c u n e)
   have u28:∀ c u,c≠p->H2 c=some u->H8 c=some u:=λ c u n e=>u48 c u n ZTB
   have uH8:∀ c u,c≠p->H c=some u->H8 c=some u:=λ c u n e=>u28 c u n (s2 _ _ (k3 c u n e))
   have none2:∀ c,c≠p->(H4 c=none\/H5 c=none\/H6 c=none\/H7 c=none)->H2 c=none:=λ c n z=>by
    cases e:H2 c with
    | none=>rfl
    | some u=>
     have z4:=ZTB
     have z5:=k5 c u n z4
     have z6:=k6 c u n z5
     have z7:=k7 c u n z6
     rcases z with z|z|z|z
     ·rw[z4] at z;cases z
     ·rw[z5] at z;cases z
     ·rw[z6] at z;cases z
     ·rw[z7] at z;cases z
   have lg2:=none2 lg ne5 (.inl hlg)
   have po2:=none2 po ne6 (.inr (.inl hpo))
   have ta2:=none2 ta ne7 (.inr (.inr (.inl hta)))
   have wy2:=none2 wy ne8 (.inr (.inr (.inr hwy)))
   have toH:∀ c,H2 c=none->H c=none:=λ c e=>f3' c (s2.free e)
   have accP:acc≠p:=λ y=>by rw[y,hp3] at hacc;cases hacc
   have thP:∀ {j:Nat} {q:ThL},Ls[j]? = some q->∀ c∈q.ad,c≠p/\H2 c≠none:=λ hq c hc=>⟨(λ y=>by
    have:=((hth _ _ hq).2.2 c hc).1
    rw[y,hp3] at this
    cases this),(hth _ _ hq).1.some hc⟩
   have acc2:H2 acc≠none:=by rw[e2];simp
   have pt:po≠ta:=λ y=>by rw[y] at e6;rw[hta] at e6;cases e6
   have pw:po≠wy:=λ y=>by have:=k7 _ _ ne6 e6;rw[y,hwy] at this;cases this
   have tw':ta≠wy:=λ y=>by rw[y] at e7;rw[hwy] at e7;cases e7
   have nn2:∀ c,H2 c≠none->c≠lg/\c≠po/\c≠ta/\c≠wy:=λ c e=>⟨λ y=>e (by rw[y];exact lg2),λ y=>e (by rw[y];exact po2),λ y=>e (by rw[y];exact ta2),λ y=>e (by rw[y];exact wy2)⟩
   have ownI:∀ c∈LoL.own ⟨p,dx,dz,acc,lg,Z6A,Ls⟩ Z55,c=p\/H c=none:=λ c hc=>by
    rcases LoL.dS hc with hc|⟨j,q,hq,hc⟩|hc
    ·have hc':c∈[p,acc,lg]:=hc
     simp only[Fi,Ft,F8] at hc'
     rcases hc' with h|h|h
     ·exact Z9t
     ·rw[h];exact .inr (f3' _ hacc)
     ·rw[h];exact .inr (toH _ lg2)
    ·exact .inr (f3' _ ((ZE5).2.2 c hc).1)
    ·have hc':c∈[po,ta,wy]++([]:Z09):=hc
     simp only[Gf,Fi,Ft,F8] at hc'
     rcases hc' with h|h|h
     ·rw[h];exact .inr (toH _ po2)
     ·rw[h];exact .inr (toH _ ta2)
     ·rw[h];exact .inr (toH _ wy2)
   have gnI:∀ c∈LoL.own ⟨p,dx,dz,acc,lg,Z6A,Ls⟩ Z55,G c=none:=λ c hc=>by
    rcases ownI c hc with h|h
    ·rw[h];exact gp
    ·exact sG.free h
   have held:bj G H8:=λ c u e=>uH8 c u (ba e gp) (sG _ _ e)
   have evs0:∀ (i:Nat) (T:ThA),((Z8w).map λ x=>(⟨x.1,x.2,[],[0],0⟩:ThA))[i]? = some T->∃ s h,sts[i]? = some s/\hbs[i]? = some h/\T=⟨s,h,[],[0],0⟩:=λ i T hT=>by
    rw[Ff] at hT
    obtain⟨x,hx,rfl⟩:=GL.mp hT
    obtain⟨h1,h2⟩:=List.getElem?_zip_eq_some.mp hx
    exact⟨_,_,h1,h2,rfl⟩
   have noev:∀ {h q:Nat} {T:ThA} {E:EvA},((Z8w).map λ x=>(⟨x.1,x.2,[],[0],0⟩:ThA))[h]? = some T->T.evs[q]? = some E->False:=λ hT hE=>by
    obtain⟨_,_,_,_,rfl⟩:=evs0 _ _ hT
    simp at hE
   refine k H8 ZBu rfl ownI uH8 ⟨⟨hp8,u28 _ _ accP e2,λ i q T hq hT=>?_,len,by show ((Z8w).map _).length=m;rw[Fe,List.length_zip,l0,l2,Nat.min_self],⟨[],u58 _ _ ne5 e5⟩,⟨u68 _ _ ne6 e6,u78 _ _ ne7 e7,e8,(λ e he=>by cases he),(λ l hl=>by cases hl),held,?_,λ c hc=>gnI c (LoL.kR hc)⟩,clo,held,gnI,td,λ j q hq x hx hy=>?_,(nn2 acc acc2).1⟩,⟨.nil,.nil,(λ l hl=>by cases hl),.nil,(λ e he=>by cases he),(λ e he=>by cases he),(λ l hl=>by cases hl),(λ e he=>by cases he)⟩,⟨(λ l hl=>by cases hl),λ _ _ _ _ ⟨T,E,h1,h2,_⟩=>(noev h1 h2).elim,(λ e he=>by cases he),λ _ _ _ ⟨T,E,h1,h2,_⟩=>(noev h1 h2).elim⟩,⟨[],u58 _ _ ne5 e5,Nat.le_refl _,(λ x hx=>by cases hx)⟩,λ T hT=>?_,⟨Nat.le_refl _,Nat.le_refl _⟩,⟨m0,m1⟩,⟨c',rfl⟩,λ j T hT=>?_,(λ l hl=>by cases hl)⟩
   ·obtain⟨⟨s,t0,t1,t2,t3,t6⟩,t4,_⟩:=hth i q hq
    obtain⟨s',h,hs,hb',rfl⟩:=evs0 i T hT
    rw[hs] at t0;cases t0
    have gth:∀ c∈q.ad,G c=none:=λ c hc=>gnI c (LoL.f7 (L:=ZBu) hq hc)
    have pn:=λ c hc=>(thP hq c hc).1
    unfold ThL.ad at gth pn
    exact⟨u28 _ _ (pn _ ZA) t1,hab i q.ha h t4 hb',⟨[],u28 _ _ (pn _ Zq) t2,rfl,(λ j e A he=>by simp at he)⟩,u28 _ _ (pn _ (by simp)) t3,held,gth _ (by simp),gth _ (by simp),gth _ (by simp),t6⟩
   ·show ([po,ta,wy]++([]:Z09)).Nodup
    simp only[Gf,GJ,Fi,Ft,F8,IW,not_false_eq_true,Kz,and_true]
    exact⟨⟨pt,pw⟩,tw'⟩
   ·have hy':x∈[p,acc,lg]:=hy
    simp only[Fi,Ft,F8] at hy'
    rcases hy' with h|h|h
    ·exact(ZRC).1 h
    ·exact((ZE5).2.2 x hx).2 h
    ·exact(ZRC).2 (by rw[h];exact lg2)
   ·obtain⟨i,hi⟩:=HG (show T∈(Z8w).map _ from hT)
    obtain⟨s,h,_,_,rfl⟩:=evs0 i T hi
    refine⟨Zq,ZQO,λ z hz=>?_,ZGL,ZGL,ZO4,ZO4⟩
    rw[Fd] at hz
    rw[hz];exact⟨ZGL,ZGL⟩
   ·obtain⟨s,h,_,_,rfl⟩:=evs0 j T hT
    exact⟨0,ZJf,Z1x⟩
noncomputable def cw (ln:ZU) (h:Int):Int:=(ln[h.toNat]?).getD 0
theorem i9 (h0:0<=h) (h1:h<ln.length):atI ZCl h=some (.int (cw ln h)):=by
 obtain⟨i,rfl⟩:=FR h0
 have hi:i<ln.length:=Z2
 have e:(iV ln)[i]? = some (.int (cw ln i)):=by
  unfold iV cw
  rw[Ff,FE,ZDa];rfl
 exact cW e
def Dg (K:W.Frag):Sp:=λ vs H Q _=>∃ a b ln n,vs=[ZY,Za]/\SqL K H a ZCl/\H b=some Z3I/\0<=n.1/\n.1<ln.length/\Q (.bl (decide (n.2.1<=cw ln n.1))) H
theorem rh (T:ZN):bR P w K mg base ZT 1 t.f_au t.fd_au Z7d (Dg K):=by
 refine T.F_au.okN Dt ZB (λ J A outer s H vs Q E V h=>?_)
 ·obtain⟨a,b,U,n,rfl,_⟩:=h;rfl
 ·obtain⟨a,b,U,n,rfl,O,F,h0,h1,k⟩:=h
  refine⟨_,(bg (bC (cX rK ZKU (bF ZZ Ze ZKU ZC) Z0F))),?_⟩
  exact⟨_,rfl,b,nV n,1,.int n.2.1,rfl,rfl,ZWs,rfl,_,rfl,_,rfl,b,nV n,0,ZXI,rfl,rfl,ZWs,rfl,a,_,n.1,_,rfl,rfl,O,ZWd,_,_,rfl,rfl,k⟩
def Au (K:W.Frag):Sp:=λ vs H Q _=>∃ a ln u pl,vs=[ZY,ZVl,ZF5]/\SqL K H a ZCl/\0<=u/\u<ln.length/\Q (.bl (decide (pl<=cw ln u))) H
theorem vj (T:ZN):bR P w K mg base ZT 1 t.f_av t.fd_av Z4G (Au K):=by
 refine T.F_av.okN BN ZB (λ F A outer s H vs Q E V h=>?_)
 ·obtain⟨a,O,u,U,rfl,_⟩:=h;rfl
 ·obtain⟨a,O,u,U,rfl,J,h0,h1,k⟩:=h
  refine⟨_,(bg (bC (cX rK Zj ZKW Z0F))),?_⟩
  exact⟨_,rfl,_,rfl,_,rfl,a,_,u,_,rfl,rfl,J,ZWd,_,_,rfl,rfl,k⟩
theorem Lo.ta (lo:Z07) (V:n<=30):A.A.ta.length<=90/\∀ e∈A.A.ta,ZGB:=by
 have:=lo.bn
 have O:=nB (b:=A.A.po.map (·.nm)) lo.wf.nt λ z W=>by
  obtain⟨e,F,rfl⟩:=Fw.mp W
  obtain⟨Y,J,y,_⟩:=ZFw
  rw[<- y];exact Fq J
 rw[Fe,Fe] at O
 refine⟨Z2,λ e F=>?_⟩
 obtain⟨l,U,y,_⟩:=ZFw
 rw[<- y];exact lo.small V l U
def Cf (T:ThA) (ns:ZU):Prop:=ns.Pairwise (· < ·)/\∀ y,y∈ns↔T.pt y
def Dh (K:W.Frag) (t:Adr):Sp:=λ vs H Q _=>∃ G L A n,∃ j:Nat,∃ T,vs=[Zg,Z2k]/\Lo K t G H L A n/\n<=30/\A.ths[j]? = some T/\∀ l ns H',bj H H'->H l=none->H' l=some Z8G->Cf T ns->Q Zv H'
theorem yw (T:ZN):bR P w K mg base ZT 3 t.f_bz t.fd_bz Z0Q (Dh K t):=by
 refine T.F_bz.okN Ce ZB (λ a1 A outer s H vs Q E Z h=>?_)
 ·obtain⟨G,L,A,n,j,T0,rfl,_⟩:=h;rfl
 ·obtain⟨G,L,A,n,j,T0,rfl,lo,hn,W,k⟩:=h
  refine⟨_,(aW (bN (bQ Ze T.cl_Loom T.me_an ZOv ZSj T.b_an .nil bo Z0V))
   (bg (bC (bI Z77 T.cl_Thread T.me_az (D1 (K:=K) T) ZSj T.b_az .nil bo)))),?_⟩
  have Y:j<A.many:=by have:=ZSt;rw[lo.c.len2] at this;exact this
  obtain⟨q,T1,hq,J,th,F,U⟩:=lo.at Y
  rw[W] at J;cases J
  obtain⟨w0,ws,O,hw⟩:=F.hd
  have en:=F.en
  have dn:=F.dn
  have wn:=F.wn
  rw[O] at wn
  refine tm Zt lo.c.self rfl ZS (jO lo.c Y ?_)
  refine tm (jq T lo.c rfl rfl U) th.self rfl .nil ⟨q.p,q.dx,_,q.ha,q.dn,q.wr,_,w0,ws,rfl,th.self,by rw[<- O];exact th.gg,λ y hy=>?_,Z2,F.d0,Z2,λ l ns H' s nl el pw nd V=>k l ns H' s nl el ⟨(pw.and nd).imp λ h=>Z2,λ y=>?_⟩⟩
  ·have:=F.rg y (by rw[O];exact hy)
   lia
  ·rw[V,ThA.zF O hw];exact or_comm
def AlO (T:ThA) (st:Bool) (ns:ZU):Prop:=ns.Pairwise (· < ·)/\∀ y,y∈ns↔T.pt y\/(st=true/\y=T.evs.length)
structure Lls (H:Hp) (l:Addr) (qs:List Addr) (xss:List (List Int)):Prop where
 self:H l=some ZUJ
 len:qs.length=xss.length
 nd:qs.Nodup
 ne:l∉qs
 at':∀ (i:Nat) q xs,qs[i]? = some q->xss[i]? = some xs->H q=some Z8p
theorem fA:atI (xs++[x]) (-1)=some x:=by
 unfold atI ixN
 rw[ZBH,Fl (by rw[Fh,Fy];lia)]
 show (xs++[x])[((-1:Int)+((xs++[x]).length:Int)).toNat]? = some x
 rw[show ((-1:Int)+((xs++[x]).length:Int)).toNat=xs.length by rw[Fh,Fy];lia]
 rw[ZS1,G4];rfl
theorem ip:iV (xs++[x])=iV xs++[ZCc]:=iU.symm
theorem dR (h:xs≠[]):∃ ys y,xs=ys++[y]:=⟨_,_,(List.dropLast_concat_getLast h).symm⟩
theorem jN:∀ {ns:List Int}{a b:Int},ns.Pairwise (· < ·)->(∀ z∈ns,a<=z/\z<b)->(ns.length:Int)<=max 0 (b-a)
 | [],_,_,_,_=>by simp;lia
 | x::ns,a,b,p,h=>by
  have J:=Hd.mp p
  have O:=ZQ8
  have:=jN (a:=x+1) (b:=b) J.2 λ z F=>⟨by have:=J.1 z F;lia,(h z ZPA).2⟩
  rw[FV];lia
theorem Lls.snoc (h:ZO6) (hs:H' l=some (.lst ((F++[q]).map V.ref))) (U:H' q=some Z8p) (Z:q∉F) (Y:l≠q) (W:∀ c∈F,∀ u,H c=some u->H' c=some u):Lls H' l (F++[q]) (xss++[xs]):=by
 refine⟨hs,by rw[Fh,Fh,h.len];rfl,GC.mpr ⟨h.nd,ZA,λ a O b J z=>?_⟩,λ z=>?_,λ i c ys h1 h2=>?_⟩
 ·rw[Fd] at J
  exact Z (by rw[<- J,<- z];exact O)
 ·rcases Fm.mp z with z|z
  ·exact h.ne z
  ·exact Y (Fd.mp z)
 ·rcases IL i F.length with g|g|g
  ·rw[F4 g] at h1
   rw[F4 (by rw[<- h.len];exact g)] at h2
   exact W c ZM6 _ (h.at' i c ys h1 h2)
  ·rw[ZL_,g,G4] at h1
   rw[FI (by rw[<- h.len];lia),<- h.len,g,G4] at h2
   cases h1;cases h2;exact U
  ·rw[Gr (by rw[Fh,Fy];lia)] at h1;cases h1
theorem AlO.top (F:Z7e) (p:Cf T ns):∃ (ys:List Int) (y:Int),ns=ys++[y]/\y<=T.evs.length/\(∀ z∈ys,z<y):=by
 obtain⟨J,V,O,_⟩:=F.hd
 obtain⟨ys,y,rfl⟩:=dR (GS ((p.2 J).mpr ⟨J,by rw[O];exact Fn,Z1x⟩))
 exact⟨ys,y,rfl,(F.pt ((p.2 y).mp ZA)).2,λ z U=>(FU.mp p.1).2.2 z U y Zq⟩
def yn (K:W.Frag) (t:Adr):Sp:=λ vs H Q _=>∃ G L A n f fs,vs=[Zg,ZCY]/\Lo K t G H L A n/\n<=30/\SqL K H f ZAb /\
 ∀ l qs xss H',bj H H'->H l=none->(∀ q∈qs,H q=none)->Lls H' l qs xss->xss.length=A.many->(∀ (i:Nat) T xs,A.ths[i]? = some T->xss[i]? = some xs->AlO T (decide ((i:Int)∉fs)) xs)->Q Zv H'
theorem AU (T:ZN):bR P w K mg base ZT 4 t.f_aw t.fd_aw Z3B (yn K t):=by
 refine T.F_aw.okN oG ZB (λ ar A outer s H vs Q E hr h=>?_)
 ·obtain⟨G,L,A,n,f,fs,rfl,_⟩:=h;rfl
 ·obtain⟨G,L,A,n,f,fs,rfl,lo,hn,hf,k⟩:=h
  refine⟨_,(aW (bz (i:=2) oG.nd rfl Z6 Z3S)
   (aW (dD PassesOwn.never rfl (nC (K:=K) rfl T.no_enumerate (bf Z58 aZ)) (fb (K:=K) rfl (cq (bG (i:=3) oG.nd rfl Z6) (cq (bG (i:=4) oG.nd rfl Z6) fi)))
    (aW (bz (i:=5) oG.nd rfl Z6 (bQ Ze T.cl_Loom T.me_bz ZOe Z7 T.b_bz .nil bo Z3J))
   (aW (bX (PW.pt (iE (bH ZID Z1i ZQ (by with_unfolding_all rfl)) (fG (bH qM (bF (bD (K:=K)) (pv 5) (jv gM bh) (λ _ _=>rfl)) (pv 4) (bJ _)))))
    (bg (bN (cQ (K:=K) FH FK FJ bW Z01 Z2B)))
    bM)
   (bg (bN (cQ (K:=K) FH FK FJ bW Zj Z3K))))))
   Z41)),?_⟩
  refine sq λ an aj=>?_
  have m2:=lo.m2
  refine⟨Z3,λ Y a9=>?_⟩
  have s1:=ZId
  have e1:=aU (H:=H) (a:=Y) (o:=Z0H)
  generalize upd H Y (.lst [])=H1 at s1 e1 ⊢
  refine(sn aj λ au ak=>?_:an _ _ _)
  refine⟨_,rfl,L.p,L.dx,_,rfl,ZQv,rfl,G,L,A,n,rfl,Z3s,λ lp H2 s2 ae aa=>?_⟩
  have am:Y≠lp:=λ z=>by rw[<- z,e1] at ae;cases ae
  have a5:(iV (A.ths.map λ T=>(T.evs.length:Int))).length=A.many:=by unfold iV;rw[Fe,Fe,lo.c.len2]
  refine⟨lp,_,rfl,SqL.of aa,kP (xs:=iV (A.ths.map λ T=>(T.evs.length:Int)))
   (λ i σ H'=>∃ U F,U.length=i/\Lls H' Y U F/\bj H H'/\H' lp=some (.lst (iV (A.ths.map λ T=>(T.evs.length:Int))))/\(∀ q∈U,H q=none/\q≠lp)/\(∀ (j:Nat) T xs,A.ths[j]? = some T->F[j]? = some xs->AlO T (decide ((j:Int)∉fs)) xs)/\∃ o3 o4 o5,σ=[Z2G,Z38,ZEk,o3,o4,o5])
   ⟨[],[],rfl,⟨Z9X,rfl,.nil,ZA,(λ i q xs e=>by simp at e)⟩,s1.trans s2,aa,(λ q hq=>by cases hq),(λ j T xs _ e=>by simp at e),_,_,_,rfl⟩ ?_ ?_ ?_⟩
  ·rintro i σ H' _ ⟨U,F,_,_,_,e,_⟩
   exact ZNt
  ·rintro i x p σ H3 hx np ⟨U,F,a2,ls,s3,a1,fr,a6,o3,o4,o5,rfl⟩
   have hi:i<A.many:=by have:=Z43;rw[a5] at this;exact this
   obtain⟨T0,hT⟩:∃ T0,A.ths[i]? = some T0:=⟨_,E9 (by rw[lo.c.len2];exact hi)⟩
   obtain rfl:x=.int T0.evs.length:=by
    unfold iV at hx
    rw[Ff,Ff,hT] at hx
    exact(Option.some.inj hx).symm
   have tw:=Z72
   have s4:=bj.new (o:=.tup [Z2M,Z25]) np
   have a3:=Z5Z
   refine Z5o
   generalize upd H3 p (.tup [.int i,.int T0.evs.length])=H4 at s4 a3 ⊢
   have ab:=lo.same a3
   refine⟨_,rfl,L.p,L.dx,_,rfl,ab.c.self,rfl,_,rfl,G,L,A,n,i,T0,rfl,ab,hn,hT,λ O ns H5 s5 af Z po=>?_⟩
   have ai:=Z3k
   have ah:=a3.trans s5
   obtain⟨ys,y,ey,av,ap⟩:=AlO.top tw po
   have ad:H O=none:=a3.free af
   have J:H3 O=none:=s4.free af
   have ag:O∉U:=λ z=>by
    obtain⟨j,hj,e⟩:=ZVd
    have:=ls.at' j O _ (by rw[<- e];exact ZJg) (E9 (by rw[<- ls.len];exact hj))
    rw[J] at this;cases this
   have W:Y≠O:=λ z=>by rw[<- z,ls.self] at J;cases J
   have a4:O≠lp:=λ z=>by rw[z,a1] at J;cases J
   have a8:∀ (H6:Hp) (xs:List Int),(∀ c u,c≠O->H5 c=some u->H6 c=some u)->H6 O=some Z8p->AlO T0 (decide ((i:Int)∉fs)) xs ->
     iY (V.ref Y) [V.ref O] H6 λ _ H7=>∃ U F,U.length=i+1/\Lls H7 Y U F/\bj H H7/\H7 lp=some (.lst (iV (A.ths.map λ T=>(T.evs.length:Int))))/\(∀ q∈U,H q=none/\q≠lp)/\(∀ (j:Nat) T xs,A.ths[j]? = some T->F[j]? = some xs->AlO T (decide ((j:Int)∉fs)) xs) /\
       ∃ o3 o4 o5,([Z2G,Z38,ZEk,ZWM,some Z25,some ZQa]:St)=[Z2G,Z38,ZEk,o3,o4,o5]:=λ H6 xs kp e6 ok=>by
    have k6:∀ c u,c≠O->H3 c=some u->H6 c=some u:=λ c u nc e=>kp c u nc (ai _ _ e)
    refine⟨Y,Z6q,ZQa,rfl,rfl,k6 _ _ W ls.self,GH (show (Z6q).length<=5 by rw[Fe];lia) Z3,U++[O],F++[xs],by rw[Fh,a2];rfl,?_,λ c u e=>?_,?_,λ q hq=>?_,λ j T ao h1 h2=>?_,_,_,_,rfl⟩
    ·refine ls.snoc (by rw[aU,FF];rfl) (by rw[ZV6];exact e6) ag W λ c hc u e=>?_
     rw[aV (λ z=>ls.ne (by rw[<- z];exact hc))]
     exact k6 c u (λ z=>ag (by rw[<- z];exact hc)) e
    ·rw[aV ZVz]
     exact kp c u ZM2 (ah _ _ e)
    ·rw[aV ZR0]
     exact k6 _ _ (Ne.symm a4) a1
    ·rcases Fm.mp hq with hq|hq
     ·exact fr q hq
     ·rw[Fd] at hq
      rw[hq];exact⟨ad,a4⟩
    ·have lx:F.length=i:=by rw[<- ls.len,a2]
     rcases IL j i with g|g|g
     ·rw[F4 Z2] at h2
      exact a6 j T ao h1 h2
     ·rw[ZL_,g,lx,G4] at h2
      cases h2
      rw[g,hT] at h1;cases h1
      rw[g];exact ok
     ·rw[Gr (by rw[Fh,Fy];lia)] at h2;cases h2
   have fl:(ZNd).all fz=true:=by unfold iV;rw[Jj];exact Z4M
   have a7:∀ H6:Hp,(∀ c u,c≠O->H5 c=some u->H6 c=some u)->SqL K H6 Y (Z6q):=λ H6 kp=>SqL.of (kp _ _ W (ai _ _ ls.self))
   have aq:ns.length<=900:=by
    have:∀ z∈ns,0<=z/\z<31:=λ z hz=>by
     have en:=tw.en
     have:=ZFT
     lia
    have:=ZQ6
    lia
   rw[ey] at Z
   refine⟨_,rfl,_,rfl,f,ZNd,rfl,.inl (ah.seq hf),rfl,fl,_,rfl,Z0G⟩
   ·rw[Z1U,fQ] at z
    have z':(i:Int)∉fs:=by simpa using z
    refine⟨_,rfl,1,rfl,O,_,-1,ZIr,rfl,rfl,ZNu,by rw[ip];exact fA,_,rfl,rfl,_,rfl,Z3t⟩
    ·have z3:y≠T0.evs.length:=by simpa using z2
     refine⟨_,rfl,.inl ⟨rfl,_,ZNu⟩,_,rfl,O,_,Z25,rfl,rfl,Z,bE (by rw[<- ey];unfold iV;rw[Fe];lia),?_⟩
     refine⟨_,rfl,.inl ⟨rfl,_,a7 _ λ c u nc e=>by rw[ZJS];exact e⟩,_,rfl,a8 _ (ns++[(T0.evs.length:Int)]) (λ c u nc e=>by rw[ZJS];exact e) (by rw[aU,ip (xs:=ns),ey]) ⟨?_,λ v=>?_⟩⟩
     ·refine FU.mpr ⟨po.1,Zq,λ a ha b hb=>?_⟩
      rw[Fd] at hb
      rw[ey] at ha
      rcases Fm.mp ha with ha|ha
      ·have:=ap a ha;lia
      ·rw[Fd] at ha;lia
     ·rw[Fm,Fd,po.2,ZVc];simp
    ·have z3:y=T0.evs.length:=by simpa using z2
     refine⟨_,rfl,Z8k,_,rfl,a8 _ ns ZKP (by rw[ey];exact Z) ZHO⟩
     rw[ZVc]
     constructor
     ·exact λ h=>.inl ((po.2 v).mp h)
     ·rintro(h|⟨_,h⟩)
      ·exact(po.2 v).mpr h
      ·rw[h,<- z3,ey];simp
   ·rw[Z1U,fQ] at z
    have z':¬ (i:Int)∉fs:=by simpa using z
    refine cD rfl ⟨_,rfl,Z8k,_,rfl,a8 _ ns ZKP (by rw[ey];exact Z) ZHO⟩
    rw[Gm z',po.2];simp
  ·rintro σ H3 ⟨U,F,a2,ls,s3,a1,fr,a6,o3,o4,o5,rfl⟩
   subst ak
   exact⟨_,rfl,k Y U F H3 s3 a9 ZFb ls (by rw[<- ls.len,a2,a5]) a6⟩
structure DeL where
 (d dx po ta al:Addr)
 qs:Z09
noncomputable def deF (po ta al:Addr):List (Str×V):=[("posted",.ref po),("taken",.ref ta),("allowed",ZCa)]
structure De (t:Adr) (H:Hp) (D:DeL) (A:DiA) (xss:List (List Int)):Prop where
 self:H D.d=some (.ins t.c_Descent D.dx (deF D.po D.ta D.al))
 po:H D.po=some (.dT (A.po.map λ l=>(Z0t,Z04)))
 ta:H D.ta=some (.dT (A.ta.map λ e=>(Z0p,Zw)))
 lls:Lls H D.al D.qs xss
 lets:∀ l∈A.po,H l.adr=some ZKe
theorem Lls.same (h:Lls H l qs xss) (s:Z4h):Lls H' l qs xss:=⟨ZFt,h.len,h.nd,h.ne,λ i q xs a b=>s _ _ ZKB⟩
theorem De.same (h:Z8f) (s:Z4h):ZLc:=⟨ZFt,s _ _ h.po,s _ _ h.ta,h.lls.same s,λ l F=>s _ _ (h.lets l F)⟩
def BI (K:W.Frag) (t:Adr):Sp:=λ vs H Q _=>∃ H0 G L A n f fs d dx,vs=[Z9n,Zg,ZCY]/\bj H0 H/\H0 d=none/\H d=some (Z7F)/\Lo K t G H0 L A n/\n<=30/\SqL K H0 f ZAb /\
 ∀ D xss H',D.d=d->bj H0 H'->(∀ b∈D.qs,H0 b=none)->De t H' D A.A xss->xss.length=A.many->(∀ (i:Nat) T xs,A.ths[i]? = some T->xss[i]? = some xs->AlO T (decide ((i:Int)∉fs)) xs)->Q .non H'
theorem yJ (T:ZN):bR P w K mg base ZT 5 t.f_bj t.fd_bj Z3v (BI K t):=by
 refine T.F_bj.okN C7 ZB (λ ab A outer s H vs Q E hr h=>?_)
 ·obtain⟨H0,G,L,A,n,f,fs,d,dx,rfl,_⟩:=h;rfl
 ·obtain⟨H0,G,L,A,n,f,fs,d,dx,rfl,s0,nd,hd,lo,hn,hf,k⟩:=h
  refine⟨_,(aW (cj (K:=K) Ze (bI ZQ T.cl_Loom T.me_ag (mi (K:=K) T) Z7 T.b_ag .nil bo) rfl)
   (aW (cj (K:=K) Ze (bI ZQ T.cl_Loom T.me_ah (oO (K:=K) T) Z7 T.b_ah .nil bo) rfl)
   (bg (cj (K:=K) Ze (bA (AU (K:=K) T) Z7 rfl T.mg_aw T.kp_aw T.b_aw .nil bo Z6w) rfl)))),?_⟩
  refine⟨_,rfl,L.p,L.dx,_,rfl,(ZT8).c.self,rfl,G,L,A,n,rfl,ZT8,hn,λ F H1 s1 a2 a5=>?_⟩
  have a7:=s1 _ _ hd
  have Z:F≠d:=λ z=>by rw[z,hd] at a2;cases a2
  refine⟨_,rfl,d,_,dx,_,rfl,a7,T.cl_Descent,T.na_ay,Z3,?_⟩
  have s2:bj H0 (upd H1 d Z2N):=λ c u e=>by
   rw[ZG4];exact s1 _ _ (s0 _ _ e)
  have Y:=aU (H:=H1) (a:=d) (o:=Z2N)
  have O:upd H1 d Z2N F=some (.dT (A.A.po.map λ l=>(Z0t,Z04))):=by rw[aV Z];exact a5
  generalize upd H1 d (.ins t.c_Descent dx (bx "posted" (.ref F) []))=H2 at s2 Y O ⊢
  refine⟨_,rfl,L.p,L.dx,_,rfl,(ZAN).c.self,rfl,G,L,A,n,rfl,ZAN,hn,λ ta H3 s3 a3 a6=>?_⟩
  have a4:ta≠d:=λ z=>by rw[z,Y] at a3;cases a3
  refine⟨_,rfl,d,_,dx,_,rfl,s3 _ _ Y,T.cl_Descent,T.na_be,by show 1<1000;decide,?_⟩
  have s4:bj H0 (upd H3 d Z0J):=λ c u e=>by
   rw[ZG4];exact ZT4
  have J:=aU (H:=H3) (a:=d) (o:=Z0J)
  have U:upd H3 d Z0J F=some (.dT (A.A.po.map λ l=>(Z0t,Z04))):=by rw[aV Z];exact s3 _ _ O
  have W:upd H3 d Z0J ta=some (.dT (A.A.ta.map λ e=>(Z0p,Zw))):=by rw[aV a4];exact a6
  generalize upd H3 d (.ins t.c_Descent dx (bx "taken" (.ref ta) (bx "posted" (.ref F) [])))=H4 at s4 J U W ⊢
  refine⟨_,rfl,_,rfl,G,L,A,n,f,fs,rfl,lo.same s4,hn,s4.seq hf,λ al qs aa H5 s5 a1 fr ls lx ok=>?_⟩
  have a8:al≠d:=λ z=>by rw[z,J] at a1;cases a1
  have a9:∀ q∈qs,q≠d:=λ q hq z=>by have:=fr q hq;rw[z,J] at this;cases this
  refine⟨_,rfl,d,_,dx,_,rfl,s5 _ _ J,T.cl_Descent,T.na_aq,by show 2<1000;decide,?_⟩
  have s6:bj H0 (upd H5 d (.ins t.c_Descent dx (bx "allowed" ZCa (bx "taken" (.ref ta) (bx "posted" (.ref F) []))))):=λ c u e=>by
   rw[ZG4];exact s5 _ _ ZNP
  refine k ⟨d,dx,F,ta,al,qs⟩ aa _ rfl s6 (λ b hb=>s4.free (fr b hb)) ⟨aU,?_,?_,⟨?_,ls.len,ls.nd,ls.ne,λ i q xs h1 h2=>?_⟩,λ l hl=>s6 _ _ Z9A⟩ lx ok
  ·rw[aV Z];exact s5 _ _ U
  ·rw[aV a4];exact s5 _ _ W
  ·rw[aV a8];exact ls.self
  ·rw[aV (a9 q ZM6)];exact ls.at' i q xs h1 h2
noncomputable def cn (xs:ZU):Int:=(xs.getLast?).getD 0
theorem gW:cn (ys++[y])=y:=by unfold cn;simp
def A0 (K:W.Frag) (t:Adr):Sp:=λ vs H Q _=>∃ D A xss,vs=[ZF4]/\De t H D A xss/\xss.length<=5/\(∀ xs∈xss,xs≠[])/\∀ l H',bj H H'->H l=none->H' l=some ZNE->Q Zv H'
theorem lS (T:ZN):bR P w K mg base ZT 1 t.f_ao t.fd_ao Z0i (A0 K t):=by
 refine T.F_ao.okN EO ZB Z13
 ·obtain⟨D,A,J,rfl,_⟩:=h;rfl
 ·obtain⟨D,A,J,rfl,de,a2,ne,k⟩:=h
  refine⟨_,(bg (bC (dA ["self","points"] 1 rfl ZN1 (λ _ _ _ _ _=>⟨(bG (i:=1) (show List.Nodup (["self","points"]:Zo) from ZF) rfl Z6),dI,(bF ZZ ZQ Z6Y ZC)⟩)))),?_⟩
  have ll:=de.lls
  have lq:(ZDc).length=J.length:=by rw[Fe,ll.len]
  refine⟨_,rfl,D.d,_,D.dx,_,_,rfl,de.self,T.cl_Descent,T.na_aq,rfl,D.al,rfl,⟨_,ZDU⟩,dE (xs:=ZDc) Z2 λ acc F=>⟨λ i O ys H2=>ys=iV ((ZWz).map cn)/\H2 acc=some Z03/\bj H H2/\∃ o,O=[Z4D,o],Z2q,?_,?_,?_⟩⟩
  ·rintro i O ys H2 hi ⟨rfl,_,W,_⟩
   refine⟨SqL.of (W _ _ ll.self),?_⟩
   unfold iV
   rw[Fe,Fe,F0];lia
  ·rintro i v O ys H2 hi Z ⟨rfl,e2,W,o,rfl⟩
   obtain⟨q,hq,rfl⟩:∃ q,D.qs[i]? = some q/\v=.ref q:=by
    rw[Ff] at Z
    cases e:D.qs[i]? with
    | none=>rw[e] at Z;cases Z
    | some q=>rw[e] at Z;cases Z;exact Z7O
   obtain⟨xs,U⟩:∃ xs,J[i]? = some xs:=Z9T
   obtain⟨zs,z,ez⟩:=dR (ne xs (Fg U))
   have Y:=W _ _ (ll.at' i q xs hq U)
   rw[ez,ip] at Y
   dsimp only[dq,ki]
   refine f9 ⟨_,rfl,1,rfl,q,_,-1,ZVk,rfl,rfl,ZWt,fA,e2,Z0l⟩
   ·rw[GB,U,ez]
    show _=iV (((ZWz)++[zs++[z]]).map cn)
    rw[FF,He,gW,ip]
   ·rw[Z2w];exact W _ _ e
  ·rintro O ys H2 ⟨rfl,e2,W,o,rfl⟩
   rw[Hn Z2] at e2
   exact k acc H2 W F e2
structure DeB (t:Adr) (H:Hp) (D:DeL) (A:DiA) (xss:List (List Int)) (m:Nat) (b:Addr) (e:Nm3×Int) (l:cV):Prop where
 de:Z8f
 nd:(A.po.map (·.nm)).Nodup
 nt:(A.ta.map (·.1)).Nodup
 lx:xss.length=m
 m5:m<=5
 ne:∀ xs∈xss,xs≠[]
 he:e∈A.ta
 hl:l∈A.po
 el:l.nm=e.1
 r1:0<=e.1.1/\e.1.1<m
 r2:0<=l.to/\l.to<m
 hb:H b=some ZM7
section
variable {H H':Hp}{D:DeL}{A:DiA}{xss:List (List Int)}{m:Nat}{b:Addr}{e:Nm3×Int}{l:cV}
theorem DeB.same (d:Z4N) (s:Z4h):DeB t H' D A xss m b e l:=⟨d.de.same s,d.nd,d.nt,d.lx,d.m5,d.ne,d.he,d.hl,d.el,d.r1,d.r2,s _ _ d.hb⟩
theorem DeB.v1 (d:Z4N):cf (A.po.map λ l=>(Z0t,Z04)) (Z0p)=some (Z2L):=by rw[<- d.el];exact cK (λ l:cV=>Z0t) Z5m (cZ (f:=cV.nm) cJ d.nd) d.hl
theorem DeB.v2 (d:Z4N):cf (A.ta.map λ e=>(Z0p,Zw)) (Z0p)=some (ZBi):=cK (λ e:Nm3×Int=>Z0p) Z3z (cZ (f:=Prod.fst) cJ d.nt) d.he
theorem DeB.atq (d:Z4N) (F:D.qs[l.to.toNat]? = some q):atI ZDc l.to=some (Z3L):=by
 obtain⟨i,hi⟩:=FR d.r2.1
 rw[hi,FE] at F
 rw[hi]
 refine cW ?_
 rw[Ff,F];rfl
end
def Dj (K:W.Frag) (t:Adr):Sp:=λ vs H Q _=>(∃ D A xss m b e l,vs=[ZF4,Za]/\DeB t H D A xss m b e l /\
 ∀ H',bj H H'->Q (.bl (decide (e.2<=cw Zs l.to) && !decide (e.1.2.1<=cw Zs e.1.1))) H')\/∃ D A xss b n,vs=[ZF4,Za]/\De t H D A xss/\H b=some Z3I/\n∉A.ta.map (·.1)/\∀ H',bj H H'->Q ZCh H'
theorem x9 (T:ZN):bR P w K mg base ZT 3 t.f_ac t.fd_ac Z1C (Dj K t):=by
 refine T.F_ac.okN uU ZB ZJ
 ·rcases h with ⟨D,A,xss,m,b,e,l,rfl,_⟩|⟨D,A,xss,b,n,rfl,_⟩<;>rfl
 ·rcases h with ⟨D,A,xss,m,b,e,l,rfl,d,k⟩|⟨D,A,xss,b,n,rfl,de,hb,nin,k⟩
  rotate_left
  ·refine⟨_,(aW (bX Z1j
    Z2U
    bM)
   (aW Z2Q
   Z05)),?_⟩
   refine⟨_,rfl,b,n.1,n.2.1,n.2.2,rfl,hb,λ H1 s1=>Z2r⟩
   have de1:=de.same s1
   have v2:cf (A.ta.map λ e=>(Z0p,Zw)) (Z80)=none:=eV (λ e:Nm3×Int=>Z0p) Z3z λ x hx e=>nin (by rw[<- cJ _ _ e];exact Fq hx)
   exact⟨_,rfl,_,rfl,D.d,_,D.dx,_,_,rfl,de1.self,T.cl_Descent,T.na_be,rfl,D.ta,_,rfl,.inr ⟨_,Z80,b,.inl de1.ta,rfl,ZFr,v2.symm⟩,_,rfl,eT rfl (k H1 s1)⟩
  refine⟨_,(aW (bX Z1j
    Z2U
    bM)
   (aW Z2Q
   Z05)),?_⟩
  refine⟨_,rfl,b,e.1.1,e.1.2.1,e.1.2.2,rfl,d.hb,λ H1 s1=>Z2r⟩
  have d1:=d.same s1
  refine⟨_,rfl,_,rfl,D.d,_,D.dx,_,_,rfl,d1.de.self,T.cl_Descent,T.na_be,rfl,D.ta,_,rfl,.inr ⟨_,Z0p,b,.inl d1.de.ta,rfl,d1.hb,d.v2.symm⟩,_,rfl,ZL6⟩
  have few:xss.length<=5:=by rw[d.lx];exact d.m5
  refine tm Zt d1.de.self rfl .nil ⟨D,A,xss,rfl,d1.de,few,d.ne,λ ln H2 s2 nl el2=>?_⟩
  have d2:=d1.same s2
  have ll:((ZE0).length:Int)=m:=by rw[Fe,d.lx]
  have r1:=d.r1
  have r2:=d.r2
  have kk:=k H2 Z2s
  refine⟨_,rfl,_,rfl,D.d,_,D.dx,_,_,rfl,d2.de.self,T.cl_Descent,T.na_ay,rfl,_,rfl,D.po,Z2L,rfl,.inr ⟨_,Z0p,b,.inl d2.de.po,rfl,d2.hb,d.v1.symm⟩,l.adr,_,0,Z4R,rfl,rfl,SqT.of (d2.de.lets l d.hl),rfl,_,rfl,D.d,_,D.dx,_,_,rfl,d2.de.self,T.cl_Descent,T.na_be,rfl,_,rfl,D.ta,_,rfl,.inr ⟨_,Z0p,b,.inl d2.de.ta,rfl,d2.hb,d.v2.symm⟩,ln,ZE0,l.to,e.2,rfl,ZTV,r2.1,Z2,_,rfl,cU (λ z=>⟨_,rfl,_,rfl,ln,b,ZE0,e.1,rfl,ZTV,d2.hb,r1.1,Z2,_,rfl,?_⟩) λ z=>?_⟩
  ·rw[z,Jx] at kk
   exact kk
  ·rw[show decide (e.2<=cw Zs l.to)=false by simpa using z,Jn] at kk
   exact kk
def EH (K:W.Frag) (t:Adr):Sp:=λ vs H Q _=>∃ D A xss m b e l x0 xs,vs=[ZF4,Za]/\DeB t H D A xss m b e l/\xss[l.to.toNat]? = some (x0::xs)/\Q (.bl (decide (x0<e.2))) H
theorem xP (T:ZN):bR P w K mg base ZT 1 t.f_aj t.fd_aj Z1C (EH K t):=by
 refine T.F_aj.okN C2 ZB ZJ
 ·obtain⟨D,A,xss,m,b,e,l,x0,xs,rfl,_⟩:=h;rfl
 ·obtain⟨D,A,xss,m,b,e,l,x0,xs,rfl,d,hx,k⟩:=h
  refine⟨_,(bg (bC (cX jr (bF ZZ ZAe bh ZC) Z6Z Z0F))),?_⟩
  obtain⟨q,hq⟩:∃ q,D.qs[l.to.toNat]? = some q:=⟨_,E9 (by rw[d.de.lls.len];exact Z43)⟩
  exact⟨_,rfl,D.d,_,D.dx,_,_,rfl,d.de.self,T.cl_Descent,T.na_aq,rfl,_,rfl,D.d,_,D.dx,_,_,rfl,d.de.self,T.cl_Descent,T.na_ay,rfl,_,rfl,D.po,Z2L,rfl,Z5r,l.adr,_,0,Z4R,rfl,rfl,ZDT,rfl,D.al,_,_,_,rfl,rfl,ZH4,ZWl,q,_,0,.int x0,rfl,rfl,SqL.of ZE8,cp,_,rfl,D.d,_,D.dx,_,_,rfl,d.de.self,T.cl_Descent,T.na_be,rfl,_,rfl,D.ta,_,rfl,.inr ⟨_,Z0p,b,.inl d.de.ta,rfl,d.hb,d.v2.symm⟩,_,_,rfl,rfl,k⟩
def BO (K:W.Frag) (t:Adr):Sp:=λ vs H Q _=>∃ D A xss m b e l x0 xs q,vs=[ZF4,Za]/\DeB t H D A xss m b e l/\xss[l.to.toNat]? = some (x0::xs)/\D.qs[l.to.toNat]? = some q/\(x0::xs).Pairwise (· < ·)/\x0<e.2 /\
 ∀ H',But [q] H H'->H' q=some (.lst (iV ((x0::xs).filter λ y=>decide (y<e.2))))->Q .non H'
theorem yH (T:ZN):bR P w K mg base ZT 1 t.f_bk t.fd_bk Z1C (BO K t):=by
 refine T.F_bk.okN yI ZB ZJ
 ·obtain⟨D,A,xss,m,b,e,l,x0,xs,q,rfl,_⟩:=h;rfl
 ·obtain⟨D,A,xss,m,b,e,l,x0,xs,q,rfl,d,hx,hq,asc,lt,k⟩:=h
  refine⟨_,(aW (bz (i:=2) yI.nd rfl Z6 ZAe)
   (bg (i7 PassesOwn.never (bH qB (bF ZZ Zj Z6Y ZC) Z6Z Z0F)
    (bg (bN (qO (K:=K) FH PySem.F.slot_list_pop PySem.F.type_list_pop wx Zj)))))),?_⟩
  have hq':=ZE8
  refine⟨_,rfl,D.d,_,D.dx,_,_,rfl,d.de.self,T.cl_Descent,T.na_aq,rfl,_,rfl,D.d,_,D.dx,_,_,rfl,d.de.self,T.cl_Descent,T.na_ay,rfl,_,rfl,D.po,Z2L,rfl,Z5r,l.adr,_,0,Z4R,rfl,rfl,ZDT,rfl,D.al,_,_,_,rfl,rfl,ZH4,ZWl,?_⟩
  refine⟨λ m σ H'=>∃ ys zs,x0::xs=ys++zs/\(∀ z∈zs,e.2<=z)/\m=ys.length/\But [q] H H'/\H' q=some ZND/\σ=[Z4D,Z6j,ZWL],⟨_,x0::xs,[],Zq,(λ z hz=>by cases hz),rfl,(λ c u _ e=>e),hq',rfl⟩,?_⟩
  rintro m σ H' ⟨ys,zs,e1,big,rfl,bt,eq',rfl⟩
  have ny:ys≠[]:=λ z=>by
   rw[z,Kn] at e1
   have:=big x0 (by rw[<- e1];exact Fn)
   lia
  obtain⟨us,u,rfl⟩:=dR ny
  have kd:∀ c o,H c=some o->(∀ ys,o≠.lst ys)->H' c=some o:=λ c o h n=>bt c o (by rw[Fd];exact λ z=>by rw[z,hq'] at h;exact ZMN) h
  have sf:=kd _ _ d.de.self (λ _ z=>by cases z)
  have hb':=kd _ _ d.hb (λ _ z=>by cases z)
  have tk:=kd _ _ d.de.ta (λ _ z=>by cases z)
  refine⟨_,rfl,1,rfl,q,_,-1,ZVl,rfl,rfl,ZTU,by rw[ip];exact fA,_,rfl,D.d,_,D.dx,_,_,rfl,sf,T.cl_Descent,T.na_be,rfl,_,rfl,D.ta,_,rfl,.inr ⟨_,Z0p,b,.inl tk,rfl,hb',d.v2.symm⟩,_,_,rfl,rfl,_,rfl,Z0G⟩
  ·have z':e.2<=u:=Gb z
   refine⟨λ σ2 H2=>∃ m',m'<(us++[u]).length/\∃ ys zs,x0::xs=ys++zs/\(∀ z∈zs,e.2<=z)/\m'=ys.length/\But [q] H H2/\H2 q=some ZND/\σ2=[Z4D,Z6j,ZWL],λ _ _ h=>h,?_⟩
   refine⟨_,rfl,.inl ⟨rfl,_,ZTU⟩,q,_,ZVl,rfl,rfl,eq',?_,us.length,by rw[Fh,Fy];lia,us,u::zs,by rw[e1,Gd];rfl,λ z hz=>?_,rfl,λ c o n h=>?_,?_,rfl⟩
   ·rw[ip,Fh,Fy,Nat.add_sub_cancel,ZS1,G4];rfl
   ·rcases Fi.mp hz with h|h
    ·rw[h];exact z'
    ·exact big z h
   ·rw[aV (by simpa using n)];exact bt c o n h
   ·rw[aU,ip,List.dropLast_concat]
  ·have z':u<e.2:=by have:¬ e.2<=u:=λ y=>ZWB;lia
   refine k H' bt ?_
   rw[eq',e1,GU]
   rw[e1] at asc
   have a1:=(FU.mp asc).1
   have f1:(us++[u]).filter (λ y=>decide (y<e.2))=us++[u]:=List.filter_eq_self.mpr λ y hy=>by
    rw[F3]
    rcases Fm.mp hy with h|h
    ·have:=(ZOP).2.2 y h u ZA;lia
    ·rw[Fd.mp h];exact z'
   have f2:zs.filter (λ y=>decide (y<e.2))=[]:=IM.mpr λ y hy=>by
    have:=big y hy
    rw[F3];lia
   rw[f1,f2,Gf]
structure Lnm (H:Hp) (l:Addr) (qs:List Addr) (nss:List (List Nm3)):Prop where
 self:H l=some ZUJ
 len:qs.length=nss.length
 nd:qs.Nodup
 ne:l∉qs
 at':∀ (i:Nat) q ns,qs[i]? = some q->nss[i]? = some ns->∃ ls,H q=some Z2P/\NmL H ls ns
theorem Lnm.same (h:ZDV) (s:Z4h):ZLM:=⟨ZFt,h.len,h.nd,h.ne,λ i q xs a b=>let ⟨F,e,n⟩:=ZKB;⟨F,ZEo,n.same s⟩⟩
theorem oA {U:Type}{H:Hp}{es:List U}{f:U->Nm3}{g:U->V}{bs:Z09}(h:m8 H (es.map λ e=>(ZWZ,g e)) bs):NmL H ZDt (es.map f):=by
 have F:∀ (i:Nat) b e,bs[i]? = some b->es[i]? = some e->d6 H Za (f e):=λ i b e J O=>⟨b,rfl,h.2 i b ZWZ (g e) J (by rw[Ff,O];rfl)⟩
 have Z:bs.length=es.length:=by rw[h.1,Fe]
 refine⟨Z5j,λ v W=>?_⟩
 ·rw[F9,Ff,Ff]
  by_cases Y:i<bs.length
  ·have O:=ZHA
   have J:=E9 Y
   rw[O,J]
   exact congrArg some (F i _ _ J O).of
  ·rw[Gr ZV,Gr ZV];rfl
 ·obtain⟨b,J,rfl⟩:=Fw.mp W
  obtain⟨i,hi,rfl⟩:=FQ J
  have:=F i _ _ ZDa ZHA
  rw[this.of];exact this
theorem xw {H:Hp}{es:List (Nm3×Int)}{bs:Z09}(h:m8 H (es.map λ e=>(Z0p,Zw)) bs):NmL H ZDt (es.map (·.1)):=oA (f:=λ e:Nm3×Int=>e.1) (g:=λ e=>Zw) h
noncomputable def dN (m:Nat) (ns:Z1w):List (Z1w):=(ZQN).map λ h:Nat=>ns.filter λ n=>decide (n.1=(h:Int))
def Bm (K:W.Frag) (t:Adr):Sp:=λ vs H Q _=>∃ G L A n,vs=[Zg]/\Lo K t G H L A n/\n<=30/\∀ u us ns H',bj H H'->H u=none->(∀ q∈us,H q=none)->Lnm H' u us (Z7_)->pk ns->ns.Perm (A.A.ta.map (·.1))->Q (.ref u) H'
theorem Dp (T:ZN):bR P w K mg base ZT 2 t.f_bn t.fd_bn ZNq (Bm K t):=by
 refine T.F_bn.okN vh ZB (λ an A outer s H vs Q E hr h=>?_)
 ·obtain⟨G,L,A,n,rfl,_⟩:=h;rfl
 ·obtain⟨G,L,A,n,rfl,lo,hn,k⟩:=h
  refine⟨_,(aW (dP ["loom","used","name","hand"] 1 (i:=1) rfl vh.nd rfl Z6 Z57 (λ _ _ _ _ _=>⟨(bG (i:=3) (show List.Nodup (["loom","used","name","hand"]:Zo) from ZF) rfl Z6),dI,Z3S⟩))
   (aW (dD PassesOwn.never rfl (cA (K:=K) (bL ZX_ rfl T.no_sorted eF (bf Z0Z aZ))) (bG (i:=2) vh.nd rfl Z6)
    (bg (bN (cQ (K:=K) FH FK FJ bW (bF ZZ ZQ (bF Zp Zj bh ZC) ZC) Z1p))))
   Z7w)),?_⟩
  refine sq λ am af=>?_
  have m2:=lo.m2
  refine⟨_,rfl,L.p,_,L.dx,_,_,rfl,lo.c.self,T.cl_Loom,T.na_db,rfl,(A.many:Int),rfl,Z2,Z2,kh (n:=A.many) Z2 λ u hu=>⟨λ i a6 ys H2=>∃ F:List Addr,ys=F.map V.ref/\F.length=i/\F.Nodup/\(∀ q∈F,H q=none/\q≠u/\H2 q=some Z0H)/\H2 u=some Z03/\bj H H2,⟨[],rfl,rfl,.nil,(λ q O=>by cases O),aU,bj.new hu⟩,?_,?_,?_⟩⟩
  ·rintro i a6 ys H2 hi ⟨F,rfl,lu,_⟩
   rw[Fe];lia
  ·rintro i a6 ys H2 hi ⟨F,rfl,lu,nd,fr,e2,s2⟩
   dsimp only[dq,ki]
   refine f9 ⟨Z3,λ q Z=>?_⟩
   have a5:q≠u:=λ z=>by rw[z,e2] at Z;cases Z
   have ab:q∉F:=λ z=>by rw[(fr q z).2.2] at Z;cases Z
   refine⟨by rw[aV (Ne.symm a5)];exact e2,Nx.mk hi ⟨F++[q],by rw[FF];rfl,by rw[Fh,lu];rfl,GC.mpr ⟨nd,Zq,λ a ha b hb z=>ab (by rw[Fd] at hb;rw[<- hb,<- z];exact ha)⟩,λ c hc=>?_,aU,λ c o e=>?_⟩⟩
   ·rcases Fm.mp hc with hc|hc
    ·obtain⟨f1,f2,f3⟩:=fr c hc
     exact⟨f1,f2,by rw[aV f2,aV (λ z=>ab (by rw[<- z];exact hc))];exact f3⟩
    ·rw[Fd] at hc
     rw[hc]
     exact⟨s2.free Z,a5,by rw[aV a5,aU]⟩
   ·rw[aV (ba e hu),aV (ba Z9e Z)];exact Z9e
  rintro a6 ys H2 ⟨F,rfl,lu,nd,fr,e2,s2⟩
  have a8:=ZAN
  refine(sn af λ au ag=>?_:am _ _ _)
  refine⟨_,rfl,L.p,L.dx,_,rfl,a8.c.self,rfl,G,L,A,n,rfl,a8,hn,λ td H3 s3 ar ah=>?_⟩
  have tb:=ZIW
  refine⟨td,_,rfl,ah,by rw[Fe];lia,λ bs ks=>?_⟩
  have nm:=xw ks
  have sm:∀ x∈A.A.ta.map (·.1),Small x:=λ x hx=>by
   obtain⟨e,he,rfl⟩:=ZOH
   exact tb.2 e he
  refine⟨nm.small sm,by rw[nm.lK];exact dY lo.wf.nt sm,λ l J nl p so=>?_⟩
  obtain⟨ns,n1,n2,n3⟩:=nm.sorted p so
  have s4:=bj.new (o:=ZQb) nl
  have el:=aU (H:=H3) (a:=l) (o:=ZQb)
  have a9:=n1.same s4
  have a3:=Z5Z
  generalize upd H3 l (.lst J)=H4 at s4 el a9 a3 ⊢
  have ae:=a3 _ _ e2
  have aq:l≠u:=λ z=>by rw[z,ZUT] at nl;cases nl
  have aa:l∉F:=λ z=>by rw[s3 _ _ (fr l z).2.2] at nl;cases nl
  have rg:∀ x∈ns,0<=x.1/\x.1<A.many:=λ x hx=>by
   obtain⟨e,he,rfl⟩:=Fw.mp (n2.mem_iff.mp hx)
   obtain⟨y,hy,ey,_⟩:=Z6l
   have:=lo.wf.rg y hy
   rw[<- ey];exact⟨this.1,this.2.1⟩
  have gt:∀ (i:Nat) (xs:List Nm3),i<A.many->(ZQE)[i]? = some (xs.filter λ n=>decide (n.1=(i:Int))):=λ i xs hi=>by
   unfold dN
   rw[Ff,JW hi];rfl
  have bl:∀ xs,(ZQE).length=A.many:=λ xs=>by unfold dN;rw[Fe,Ih]
  refine⟨l,rfl,⟨_,ZCE⟩,i6 (xs:=J) (λ i σ H'=>Lnm H' u F (dN A.many (ns.take i))/\bj H H'/\H' l=some (ZQb)/\NmL H' J ns/\∃ o,σ=[Z2G,Z9W,o]) ⟨⟨ae,by rw[bl];exact lu,nd,(λ z=>(fr u z).2.1 rfl),λ i q xs h1 h2=>?_⟩,s2.trans a3,el,a9,_,rfl⟩ ?_ ?_ ?_⟩
  ·have hi:i<A.many:=by have:=ZGp;rw[bl] at this;exact this
   rw[gt i _ hi] at h2
   cases h2
   exact⟨[],a3 _ _ (fr q ZM6).2.2,.nil⟩
  ·rintro i σ H' _ ⟨_,_,e,_⟩
   exact ZNt
  ·rintro i x σ H' hx ⟨Y,s',a7,U,o,rfl⟩
   have hi:i<ns.length:=by have:=Z43;rw[U.len] at this;exact this
   have W:=ZDa
   obtain⟨b,rfl,hb⟩:=U.all x ZFK
   have ex:eJ H' (Za)=ns[i]:=by
    have:=congrArg (λ z=>z[i]?) U.eq
    simp only[Ff,hx,W] at this
    exact Z8N
   rw[ex] at hb
   generalize ao:ns[i]=x0 at W hb ex
   obtain⟨g0,g1⟩:=rg x0 (Fg W)
   obtain⟨h,hh⟩:=FR g0
   have ai:h<A.many:=Z2
   obtain⟨q,O⟩:∃ q,F[h]? = some q:=Z9T
   obtain⟨ls,a4,Z⟩:=Y.at' h q _ O (gt h _ ai)
   have ad:atI ZPB x0.1=some (Z3L):=by
    rw[hh];exact cW (by rw[Ff,O];rfl)
   have ap:ls.length<=90:=by
    rw[Z.len]
    refine FC Z68 (FC (by rw[F0];exact Nat.min_le_right _ _) ?_)
    rw[n2.length_eq,Fe];exact tb.1
   refine⟨_,rfl,_,rfl,b,_,0,.int x0.1,rfl,rfl,Z6R,rfl,u,_,_,_,rfl,rfl,SqL.of Y.self,ad,.inl ⟨rfl,_,ZLH⟩,_,rfl,q,ls,Za,rfl,rfl,a4,ZJR,?_⟩
   have al:u≠q:=λ z=>Y.ne (by rw[z];exact Fg O)
   have tk:∀ c xs,H' c=some Zb->upd H' q (.lst (ls++[Za])) c=some Zb:=λ c xs e=>by rw[aV (λ z=>by rw[z,a4] at e;cases e)];exact e
   refine⟨⟨by rw[aV al];exact Y.self,by rw[bl];exact lu,nd,Y.ne,λ j c xs h1 h2=>?_⟩,λ c o e=>?_,?_,U.keep tk,_,rfl⟩
   ·have hj:j<A.many:=by have:=ZGp;rw[bl] at this;exact this
    rw[ZUt,GB,W,GU] at h2
    cases h2
    by_cases z:j=h
    ·subst z
     rw[O] at h1;cases h1
     refine⟨_,aU,?_⟩
     have:([x0].filter λ n=>decide (n.1=(j:Int)))=[x0]:=by rw[GW,Fl (by rw[hh];simp)];rfl
     show NmL _ _ (_++[x0].filter _)
     rw[this]
     exact(ZTR).keep tk
    ·have:([x0].filter λ n=>decide (n.1=(j:Int)))=[]:=by rw[GW,Fj (by rw[hh];simp;lia)];rfl
     show ∃ ls,_/\NmL _ ls (_++[x0].filter _)
     rw[this,Gf]
     obtain⟨aj,a1,a2⟩:=Y.at' j c _ h1 ZUt
     have ak:c≠q:=λ y=>z ((G5 (l:=F) Z2 nd).mp (by rw[h1,O,y]))
     exact⟨aj,by rw[aV ak];exact a1,a2.keep tk⟩
   ·rw[aV (ba e (fr q ZR1).1)];exact ZNS
   ·rw[aV (λ z=>aa (by rw[z];exact Fg O))];exact a7
  ·rintro σ H' ⟨Y,s',a7,U,o,rfl⟩
   rw[n1.len,Hb] at Y
   subst ag
   exact⟨_,rfl,k u F ns H' s' hu (λ q O=>(fr q O).1) Y n3 n2⟩
def SgO (nss:List Z1w) (ln:ZU) (v:V):Prop:=(∃ (h:Nat) (ns:List Nm3) (n:Nm3),v=.int h/\nss[h]? = some (ns++[n])/\cw ln h<n.2.1)\/(v=.non/\∀ (h:Nat) ns n,nss[h]? = some (ns++[n])->n.2.1<=cw ln h)
def BE (K:W.Frag):Sp:=λ vs H Q _=>∃ u us nss l ln,vs=[.ref u,Z8g]/\Lnm H u us nss/\SqL K H l ZCl/\ln.length=nss.length/\nss.length<=5/\(∀ (h:Nat) ns,nss[h]? = some ns->∀ n∈ns,n.1=(h:Int)) /\
 ∀ v H',bj H H'->SgO nss ln v->Q v H'
theorem yc (T:ZN):bR P w K mg base ZT 2 t.f_ak t.fd_ak ZCB (BE K):=by
 refine T.F_ak.okN we ZB Z3o
 ·obtain⟨u,us,O,l,ln,rfl,_⟩:=h;rfl
 ·obtain⟨u,us,O,l,ln,rfl,ll,hl,a6,a5,a3,k⟩:=h
  refine⟨_,(aW (dD PassesOwn.never rfl (nC (K:=K) rfl T.no_enumerate ZEZ) (fb (K:=K) rfl (cq (bG (i:=2) we.nd rfl Z6) (cq (bG (i:=3) we.nd rfl Z6) fi)))
    (bg (bX (PW.pt (iE (r9 (K:=K) Z1i ZSQ) (fG (cM (cC (bA ZOu Z7 rfl T.mg_au T.kp_au T.b_au .nil bo (bf ZQ (bf (bF ZZ Z1i Z6Y ZC) aZ))))))))
    Z41
    bM)))
   ZQr),?_⟩
  have lu:(ZFp).length=O.length:=by rw[Fe,ll.len]
  refine⟨_,rfl,u,_,rfl,ZDU,kP (xs:=ZFp) (λ i σ H'=>bj H H'/\(∀ (h:Nat) Y n,h<i->O[h]? = some (Y++[n])->n.2.1<=cw ln h)/\∃ o1 o2,σ=[Z9W,ZBy,o1,o2]) ⟨ZSB,(λ h Y n lt=>absurd lt (Nat.not_lt_zero _)),_,_,rfl⟩ ?_ ?_ ?_⟩
  ·rintro i σ H' _ ⟨s',_⟩
   exact SqL.of (s' _ _ ll.self)
  ·rintro i x p σ H1 hx np ⟨s1,Z,o1,o2,rfl⟩
   have hi:i<O.length:=by have:=Z43;rw[lu] at this;exact this
   obtain⟨q,hq,rfl⟩:∃ q,us[i]? = some q/\x=.ref q:=by
    rw[Ff] at hx
    cases e:us[i]? with
    | none=>rw[e] at hx;cases hx
    | some q=>rw[e] at hx;cases hx;exact Z7O
   obtain⟨Y,J⟩:∃ Y,O[i]? = some Y:=ZHP
   obtain⟨ls,el,nm⟩:=ll.at' i q Y hq J
   have s2:=bj.new (o:=.tup [Z2M,Z3L]) np
   have F:=Z2s
   refine Z5o
   generalize upd H1 p (.tup [.int i,.ref q])=H2 at s2 F ⊢
   have a2:=F _ _ el
   have W:=nm.same F
   refine⟨_,rfl,_,.inl ⟨ls,ZLI,rfl⟩,Z0G⟩
   ·have nl:ls≠[]:=λ y=>by rw[y] at z;cases z
    obtain⟨ks,v,rfl⟩:=dR nl
    have nn:Y≠[]:=λ y=>by have:=W.len;rw[y] at this;simp at this
    obtain⟨ms,x0,rfl⟩:=dR nn
    obtain⟨b,rfl,hb⟩:=W.all v ZA
    have ex:eJ H2 (Za)=x0:=by
     have:=W.eq
     rw[FF,He] at this
     exact(Ki this rfl).2 |> λ h=>by cases h;rfl
    rw[ex] at hb
    have s0:x0.1=(i:Int):=a3 i _ J x0 ZA
    refine⟨_,rfl,_,rfl,1,rfl,q,_,-1,Za,rfl,rfl,ZLI,fA,l,b,ln,x0,rfl,F.seq hl,hb,Z2,Z2,_,rfl,ZL5⟩
    ·have y':cw ln (i:Int)<x0.2.1:=by
      rw[s0] at y
      simpa using y
     exact⟨_,rfl,k _ H2 F (.inl ⟨i,ms,x0,rfl,J,y'⟩)⟩
    ·refine Z8t
     by_cases e:h=i
     ·subst e
      rw[J] at U
      have:=Ki ZJa rfl
      have e2:x0=n':=by have:=this.2;cases this;rfl
      rw[<- e2]
      rw[s0] at y
      simpa using y
     ·exact ZMc
   ·refine cD rfl Z8t
    by_cases e:h=i
    ·subst e
     rw[J] at U
     have e1:=ZJa
     have:=W.len
     rw[e1] at this
     have:ls≠[]:=λ y=>by rw[y] at this;simp at this
     exact absurd (by cases ls with|nil=>exact absurd rfl this|cons _ _=>rfl) z
    ·exact ZMc
  ·rintro σ H' ⟨s',Z,o1,o2,rfl⟩
   exact k _ H' s' (.inr ⟨rfl,λ h Y n U=>Z h Y n (by rw[lu];exact(Fc.mp U).1) U⟩)
def AlY (T:ThA) (st:Prop) (y:Int):Prop:=T.pt y\/(st/\y=T.evs.length)
def AlW (A:LoA) (fs:ZU) (s:ZU):Prop:=s.length=A.many/\∀ (i:Nat) T y,A.ths[i]? = some T->s[i]? = some y->AlY T ((i:Int)∉fs) y
def Gl (A:LoA) (fs:ZU) (ln:ZU):Prop:=AlW A fs ln/\mI (cw ln) A.A/\∀ s,AlW A fs s->mI ZVv A.A->∀ i:Nat,i<A.many->cw s i<=cw ln i
theorem fD {ta:List (Nm3×Int)}(J:(ta.map (·.1)).Nodup) {l F:Nm3×Int}(h:l∈ta) (h':F∈ta) (e:l.1=F.1):l=F:=oY J h h' e
structure Iv (A:LoA) (fs:List Int) (xss:List (List Int)) (nss:List (List Nm3)):Prop where
 lx:xss.length=A.many
 ln:nss.length=A.many
 p1:∀ (i:Nat) xs,xss[i]? = some xs->xs≠[]/\xs.Pairwise (· < ·)
 pa:∀ (i:Nat) T xs,A.ths[i]? = some T->xss[i]? = some xs->∀ y∈xs,AlY T ((i:Int)∉fs) y
 p2:∀ s,AlW A fs s->mI ZVv A.A->∀ (i:Nat) xs,xss[i]? = some xs->cw s i∈xs
 n1:∀ (h:Nat) ns,nss[h]? = some ns->pk ns/\∀ n∈ns,n.1=(h:Int)/\n∈A.A.ta.map (·.1)
 n2:∀ e∈A.A.ta,(∃ ns,nss[e.1.1.toNat]? = some ns/\e.1∈ns)\/∀ l∈A.A.po,l.nm=e.1->cw Zs l.to<e.2
theorem gN (h:xs≠[]):cn xs∈xs:=by
 obtain⟨ys,y,rfl⟩:=dR h
 rw[gW];simp
theorem gO (p:xs.Pairwise (· < ·)) (h:y∈xs):y<=cn xs:=by
 obtain⟨ys,z,rfl⟩:=dR (xs:=xs) (λ e=>by rw[e] at h;cases h)
 rw[gW]
 rcases Fm.mp h with h|h
 ·have:=(FU.mp p).2.2 y h z ZA;lia
 ·rw[Fd] at h;lia
theorem dG {ln:ZU}{i:Nat}{y:Int}(h:ln[i]? = some y):cw ln i=y:=by
 unfold cw;rw[FE,h];rfl
theorem gm {xss:Z6T}{i:Nat}{xs:ZU}(h:xss[i]? = some xs):cw Zs i=cn xs:=dG (by rw[Ff,h];rfl)
section
variable {A:LoA}{fs:List Int}{xss:List (List Int)}{nss:List (List Nm3)}
theorem Iv.done (v:Z7j) (wf:Z20) (sm:∀ e∈A.A.ta,ZGB) (h:∀ (h:Nat) ns n,nss[h]? = some (ns++[n])->n.2.1<=cw Zs h):Gl A fs Zs:=by
 refine⟨⟨by rw[Fe];exact v.lx,λ i T y hT hy=>?_⟩,λ l hl e Z Y hu=>?_,λ s aw sd i hi=>?_⟩
 ·rw[Ff] at hy
  obtain⟨xs,e,rfl⟩:=GL.mp hy
  exact v.pa i T _ hT e _ (gN (v.p1 i xs e).1)
 ·rcases v.n2 e Z with ⟨ns,F,J⟩|V
  ·have r:=ZT3
   rw[<- Y] at r ⊢
   obtain⟨k,hk⟩:=FR r.1
   rw[hk,FE] at F
   obtain⟨a1,W⟩:=v.n1 k ns F
   obtain⟨ms,m,rfl⟩:=dR (xs:=ns) (λ z=>by rw[z] at J;cases J)
   have h1:=h k ms m F
   rw[hk]
   rcases Fm.mp J with q|q
   ·have V:=(ZOP).2.2 e.1 q m ZA
    have s1:=(W e.1 J).1
    have s2:=W m ZA
    obtain⟨e',O,em⟩:=Fw.mp s2.2
    have q1:=sm e Z
    have q2:=sm e' O
    rw[em] at q2
    have s3:=s2.1
    unfold cd3 at V
    unfold Small at q1 q2
    lia
   ·rw[Fd] at q
    rw[q];exact h1
  ·have:=V l hl Y.symm
   lia
 ·obtain⟨xs,U⟩:∃ xs,xss[i]? = some xs:=⟨_,E9 (by rw[v.lx];exact hi)⟩
  rw[gm U]
  exact gO (v.p1 i xs U).2 (v.p2 s aw sd i xs U)
theorem Iv.pop (v:Z7j) (W:nss[h]? = some (ns++[n])) (no:∀ e∈A.A.ta,e.1=n->∀ l∈A.A.po,l.nm=n->cw Zs l.to<e.2):Iv A fs xss (ZFu):=by
 have F:=ZSt
 obtain⟨a1,a2⟩:=v.n1 h _ W
 refine⟨v.lx,by rw[GK];exact v.ln,v.p1,v.pa,v.p2,λ k Y V=>?_,λ e Z=>?_⟩
 ·rcases eB F V with ⟨rfl,rfl⟩|⟨_,V⟩
  ·exact⟨(ZOP).1,λ m J=>a2 m (Ge _ J)⟩
  ·exact v.n1 k Y V
 ·by_cases U:e.1=n
  ·exact .inr (by rw[U];exact no e Z U)
  ·rcases v.n2 e Z with ⟨Y,J,O⟩|lt
   ·refine ZSL
    by_cases z:h=e.1.1.toNat
    ·rw[<- z,W] at J
     cases J
     refine⟨ns,by rw[<- z];exact FG F,?_⟩
     rcases Fm.mp O with q|q
     ·exact q
     ·exact absurd (Fd.mp q) U
    ·exact⟨Y,by rw[FZ z];exact J,O⟩
   ·exact .inr lt
theorem Iv.ahead {e:Nm3×Int}{l:cV}{k:Nat}{xs:ZU}(v:Z7j) (wf:Z20) (he:e∈A.A.ta) (Y:l∈A.A.po) (V:l.nm=e.1)
  (hk:l.to=(k:Int)) (hx:xss[k]? = some xs) (J:¬ e.1.2.1<=cw Zs e.1.1) {s:ZU} (U:AlW A fs s) (O:mI ZVv A.A):cw s k∈xs.filter λ y=>decide (y<e.2):=by
 refine FN.mpr ⟨v.p2 s U O k _ hx,?_⟩
 rw[F3]
 refine Int.lt_of_not_ge λ ge=>?_
 have s1:=O l Y e he V.symm (by rw[hk];exact ge)
 have Z:=wf.rg l Y
 rw[V] at Z s1
 obtain⟨j,W⟩:=FR Z.1
 obtain⟨zs,F⟩:∃ zs,xss[j]? = some zs:=⟨_,E9 (by rw[v.lx];omega)⟩
 have:=gO (v.p1 j zs F).2 (v.p2 s U O j zs F)
 rw[W,gm F] at J
 rw[W] at s1
 omega
theorem Iv.step {h:Nat}{ns:Z1w}{e:Nm3×Int}{l:cV}{k:Nat}{xs:ZU}(v:Z7j) (wf:Z20) (he:e∈A.A.ta) (hl:l∈A.A.po) (el:l.nm=e.1) (hn:nss[h]? = some (ns++[e.1]))
  (hk:l.to=(k:Int)) (hx:xss[k]? = some xs) (nsn:¬ e.1.2.1<=cw Zs e.1.1) {s0:ZU} (aw0:AlW A fs s0) (sd0:mI (cw s0) A.A):Iv A fs (xss.set k (xs.filter λ y=>decide (y<e.2))) (ZFu):=by
 have klt:=Z43
 obtain⟨_,asc⟩:=v.p1 k xs hx
 have ne':xs.filter (λ y=>decide (y<e.2))≠[]:=GS (v.ahead wf he hl el hk hx nsn aw0 sd0)
 have tm':=FN.mp (gN ne')
 have tle:∀ (x:Int),cw ((xss.set k (xs.filter λ y=>decide (y<e.2))).map cn) x<=cw Zs x:=λ x=>by
  by_cases z:x.toNat=k
  ·unfold cw
   rw[z,Ff,Ff,FG klt,hx]
   simp only[Hk,Option.getD_some]
   exact gO asc tm'.1
  ·unfold cw
   rw[Ff,Ff,ZD_]
   exact ZGL
 have v':Iv A fs (xss.set k (xs.filter λ y=>decide (y<e.2))) nss:=by
  refine⟨by rw[GK];exact v.lx,v.ln,λ i ys hi=>?_,λ i T ys hT hi y hy=>?_,λ s aw sd i ys hi=>?_,v.n1,λ d hd=>?_⟩
  ·rcases eB klt hi with ⟨rfl,rfl⟩|⟨_,hi⟩
   ·exact⟨ne',asc.filter _⟩
   ·exact v.p1 i ys hi
  ·rcases eB klt hi with ⟨rfl,rfl⟩|⟨_,hi⟩
   ·exact v.pa i T _ hT hx y (FN.mp hy).1
   ·exact v.pa i T ys hT hi y hy
  ·rcases eB klt hi with ⟨rfl,rfl⟩|⟨_,hi⟩
   ·exact v.ahead wf he hl el hk hx nsn aw sd
   ·exact v.p2 s aw sd i ys hi
  ·exact(v.n2 d hd).imp id λ lt l' hl' el'=>J6 (tle _) (lt l' hl' el')
 refine v'.pop hn λ d hd en l' hl' el'=>?_
 have:d=e:=fD wf.nt hd he en
 have e2:l'=l:=eC wf.nd hl' hl (el'.trans el.symm)
 rw[this,e2,hk,gm (FG klt)]
 exact Gb tm'.2
theorem sum_set:∀ {nss:List (List Nm3)}{h:Nat}{ns:List Nm3}{n:Nm3},nss[h]? = some (ns++[n])->((ZFu).map List.length).sum<(Z2V).sum
 | [],h,_,_,e=>by simp at e
 | x::r,0,ns,n,e=>by
  have F:x=ns++[n]:=by simpa using e
  rw[F]
  simp
 | x::r,h+1,ns,n,e=>by
  have:=sum_set (nss:=r) (h:=h) (by simpa using e)
  simp at this ⊢
  exact this
theorem AlO.iff {T:ThA}{fs xs:ZU}{i:Nat}(h:AlO T (decide ((i:Int)∉fs)) xs) (y:Int):y∈xs↔AlY T ((i:Int)∉fs) y:=by
 rw[h.2 y];unfold AlY;simp
theorem AlY.rg (w:Z7e) (h:AlY T st y):0<=y/\y<=T.evs.length:=by
 rcases h with h|h
 ·exact w.pt h
 ·lia
theorem Iv.start {ns:Z1w}{n:Nat}(lt:A.ths.length=A.many) (tw:∀ T∈A.ths,Z7e) (wf:Z20) (lk:ZQM) (lx:xss.length=A.many) (O:∀ (i:Nat) T xs,A.ths[i]? = some T->xss[i]? = some xs->AlO T (decide ((i:Int)∉fs)) xs) (as:pk ns) (pm:ns.Perm (A.A.ta.map (·.1))) :
  Iv A fs xss (Z7_):=by
 have th:∀ {i:Nat} {xs},xss[i]? = some xs->∃ T,A.ths[i]? = some T/\TWf n T/\AlO T (decide ((i:Int)∉fs)) xs:=λ{i xs} h=>by
  have hi:=Z36
  have e:=E9 (l:=A.ths) (i:=i) Z2
  exact⟨_,e,tw _ (Fg e),O i _ xs e h⟩
 have W:∀ (i:Nat),i<A.many->(Z7_)[i]? = some (ns.filter λ n=>decide (n.1=(i:Int))):=λ i hi=>by
  unfold dN
  rw[Ff,JW hi];rfl
 have V:(Z7_).length=A.many:=by unfold dN;rw[Fe,Ih]
 refine⟨lx,V,λ i xs h=>?_,λ i T xs J h y hy=>((ZQK).iff y).mp hy,λ s U _ i xs h=>?_,λ k ms h=>?_,λ e Y=>ZSL⟩
 ·obtain⟨T,J,w,a⟩:=th h
  obtain⟨w0,ws,ew,_⟩:=w.hd
  exact⟨GS ((a.2 w0).mpr (.inl ⟨w0,by rw[ew];exact Fn,Z1x⟩)),a.1⟩
 ·obtain⟨T,J,w,a⟩:=th h
  have hi:=Z36
  have e:=E9 (l:=s) (i:=i) (by rw[U.1];lia)
  rw[dG e]
  exact(a.iff _).mpr (U.2 i T _ J e)
 ·have F:=Z36
  rw[V] at F
  rw[W k F] at h
  cases h
  exact⟨List.Pairwise.filter _ as,λ m Z=>⟨Gb (ZS0).2,pm.mem_iff.mp (ZS0).1⟩⟩
 ·obtain⟨l,hl,el,_⟩:=lk.tp e Y
  have r:=ZT3
  rw[el] at r
  obtain⟨k,F⟩:=FR r.1
  refine⟨_,by rw[F,FE];exact W k Z2,FN.mpr ⟨pm.mem_iff.mpr (Fq Y),by rw[F];simp⟩⟩
end
theorem zv:∀ (ns:List Nm3) {k:Nat},ns.length<=k->((dN m ns).map List.length).sum<=k:=λ ns k h=>by
 refine FC ?_ h
 unfold dN
 rw[F9]
 clear h
 induction ns with
 | nil=>
  have:∀ j:Nat,((ZGJ).map (List.length ∘ λ h:Nat=>([]:Z1w).filter λ n=>decide (n.1=(h:Int)))).sum=0:=λ j=>by
   induction j with
   | zero=>rfl
   | succ j O=>rw[JM,FF,Km,O];rfl
  rw[this m];exact ZH9
 | cons x r O=>
  have J:∀ j:Nat,((ZGJ).map (List.length ∘ λ h:Nat=>(x::r).filter λ n=>decide (n.1=(h:Int)))).sum<=((ZGJ).map (List.length ∘ λ h:Nat=>r.filter λ n=>decide (n.1=(h:Int)))).sum+(if 0<=x.1/\x.1<j then 1 else 0):=λ j=>by
   induction j with
   | zero=>simp
   | succ j F=>
    rw[JM,FF,FF,Km,Km]
    simp only[FL,Kc,I0,List.sum_nil,Function.comp,Ji]
    rw[GW]
    by_cases e:x.1=(j:Int)
    ·rw[Fl (by rw[F3];exact e),FV,ZDZ]
     rw[ZBI] at F
     lia
    ·rw[Fj (by rw[F3];exact e)]
     by_cases q:0<=x.1/\x.1<j
     ·rw[ZQS] at F
      rw[ZDZ]
      lia
     ·rw[ZQT] at F
      rw[ZBI]
      lia
  refine FC (J m) ?_
  rw[FV]
  split<;>lia
theorem kept (J:H x=some Z03) (F:ZGR):∀ c o,H c=some o->(∀ zs,o≠.lst zs)->H' c=some o:=λ c o h n=>F c o (by rw[Fd];exact λ z=>by rw[z,J] at h;exact ZMN) h
theorem De.but (h:Z8f) (V:H x=some Z03) (J:ZGR) (W:x≠D.al) (Y:x∉D.qs):ZLc:=by
 have F:=kept V J
 have O:∀ c,c≠x->c∉[x]:=λ c n=>by rw[Fd];exact n
 exact⟨F _ _ h.self (λ _ z=>by cases z),F _ _ h.po (λ _ z=>by cases z),F _ _ h.ta (λ _ z=>by cases z),⟨J _ _ (O _ (Ne.symm W)) h.lls.self,h.lls.len,h.lls.nd,h.lls.ne,λ i q xs a b=>J _ _ (O _ (λ z=>Y (by rw[<- z];exact Fg a))) (h.lls.at' i q xs a b)⟩,λ l U=>F _ _ (h.lets l U) (λ _ z=>by cases z)⟩
theorem De.set (h:Z8f) (F:D.qs[k]? = some q) (U:xss[k]? = some xs) (O:ZQX) (e:H' q=some (.lst (iV xs'))):De t H' D A (xss.set k xs'):=by
 have J:=kept (h.lls.at' k q xs F U) O
 have V:∀ c,c≠q->c∉[q]:=λ c n=>by rw[Fd];exact n
 refine⟨J _ _ h.self (λ _ z=>by cases z),J _ _ h.po (λ _ z=>by cases z),J _ _ h.ta (λ _ z=>by cases z),⟨O _ _ (V _ (λ z=>h.lls.ne (by rw[z];exact Fg F))) h.lls.self,by rw[GK];exact h.lls.len,h.lls.nd,h.lls.ne,λ i c ys a b=>?_⟩,λ l W=>J _ _ (h.lets l W) (λ _ z=>by cases z)⟩
 by_cases z:k=i
 ·subst z
  rw[FG (Fc.mp U).1] at b
  cases b
  rw[F] at a;cases a
  exact e
 ·rw[FZ z] at b
  refine O _ _ (V _ λ y=>z ?_) (h.lls.at' i c ys a b)
  exact(G5 (l:=D.qs) (ZLY).1 h.lls.nd).mp (by rw[F,a,y])
theorem Lnm.but (h:ZDV) (O:H x=some Z03) (F:ZGR) (W:x≠l) (Y:x∉qs):ZLM:=by
 have U:=kept O F
 have J:∀ c,c≠x->c∉[x]:=λ c n=>by rw[Fd];exact n
 refine⟨F _ _ (J _ ZCt) h.self,h.len,h.nd,h.ne,λ i q Z a b=>?_⟩
 obtain⟨V,e,nm⟩:=h.at' i q Z a b
 exact⟨V,F _ _ (J _ (λ z=>Y (by rw[<- z];exact Fg a))) e,nm.keep λ c xs e=>U _ _ e (λ _ z=>by cases z)⟩
theorem NmL.last (h:NmL H (ls++[v]) (ns++[n])):NmL H ls ns/\d6 H v n:=by
 have e:=h.eq
 rw[FF,He] at e
 have F:=Ki e rfl
 have J:eJ H v=n:=by have:=F.2;cases this;rfl
 exact⟨⟨F.1,λ u O=>h.all u (Ge _ O)⟩,by rw[<- J];exact h.all v ZA⟩
theorem Lnm.pop (h:ZDV) (F:qs[k]? = some q) (Y:nss[k]? = some (ns++[n])) (Z:H q=some (.lst (ls++[v]))) (nm:NmL H (ls++[v]) (ns++[n])) (J:ZQX) (e:H' q=some Z2P):Lnm H' l qs (nss.set k ns):=by
 have kd:=kept Z J
 have U:∀ c,c≠q->c∉[q]:=λ c n=>by rw[Fd];exact n
 have tk:∀ c xs,H c=some Zb->H' c=some Zb:=λ c xs e=>kd _ _ e (λ _ z=>by cases z)
 refine⟨J _ _ (U _ (λ z=>h.ne (by rw[z];exact Fg F))) h.self,by rw[GK];exact h.len,h.nd,h.ne,λ i c ms a b=>?_⟩
 by_cases z:k=i
 ·subst z
  rw[FG (Fc.mp Y).1] at b
  cases b
  rw[F] at a;cases a
  exact⟨ls,e,nm.last.1.keep tk⟩
 ·rw[FZ z] at b
  obtain⟨O,V,W⟩:=h.at' i c ms a b
  refine⟨O,J _ _ (U _ λ y=>z ?_) V,W.keep tk⟩
  exact(G5 (l:=qs) (ZLY).1 h.nd).mp (by rw[F,a,y])
noncomputable def bsL (A:LoA):ZU:=(List.range A.many).map λ i:Nat=>A.b i
theorem vE {A:LoA}{i:Nat}(h:i<A.many):(bsL A)[i]? = some (A.b i):=by
 unfold bsL
 rw[Ff,JW h];rfl
theorem Lo.bsl {G H:Hp}{L:LoL}{A:LoA}{n:Nat}(lo:Z07) (fs:ZU):AlW A fs ZSe/\mI (cw ZSe) A.A:=by
 have F:∀ x:Int,0<=x->x<A.many->cw ZSe x=A.b x:=λ x h0 h1=>by
  obtain⟨i,rfl⟩:=FR h0
  exact dG (vE ZV)
 refine⟨⟨by unfold bsL;rw[Fe,Ih],λ i T y J U=>?_⟩,λ l O e Y W V=>?_⟩
 ·have hi:=(ZRz).1
  rw[lo.c.len2] at hi
  rw[vE hi] at U;cases U
  exact .inl ZQ1
 ·have r:=ZPz
  rw[F _ r.2.2.2.2.2.2.1 r.2.2.2.2.2.2.2] at V
  rw[F _ r.1 r.2.1]
  exact lo.snd l O e Y W V
def Bg (K:W.Frag) (t:Adr):Sp:=λ vs H Q _=>∃ G L A n f fs,vs=[Zg,ZCY]/\Lo K t G H L A n/\n<=30/\SqL K H f ZAb /\
 ∀ p l pa ln ls ns H',bj H H'->H l=none->H' p=some (.tup [Z8g,ZLg])->H' l=some Z1n->H' pa=some Z2P->NmL H' ls ns->Gl A fs ln->Q Z00 H'
theorem AJ (T:ZN):bR P w K mg base ZT 7 t.f_bc t.fd_bc Z3B (Bg K t):=by
 refine T.F_bc.okN kJ ZB ZJ
 ·obtain⟨G,L,A,n,f,fs,rfl,_⟩:=h;rfl
 ·obtain⟨G,L,A,n,f,fs,rfl,lo,hn,hf,k⟩:=h
  refine⟨_,(aW (bz (i:=2) kJ.nd rfl Z6 (fS T.mk_Descent ZOf Z7 rfl T.mg_Descent T.b_bj .nil bo ZIG))
   (aW (bz (i:=3) kJ.nd rfl Z6 (bA (Dp (K:=K) T) Z7 rfl T.mg_bn T.kp_bn T.b_bn .nil bo ZEZ))
   (aW (bz (i:=4) kJ.nd rfl Z6 Z3S)
   (aW Z0b
   (aW (i7 PassesOwn.never (bH iO Z01 fX Z0F)
    (aW (bz (i:=6) kJ.nd rfl Z6 (qO (K:=K) FH PySem.F.slot_list_pop PySem.F.type_list_pop wx (bF ZZ Z1i Z01 ZC)))
   (aW (bX (cC (bQ Zj T.cl_Descent T.me_ac ZOl Z7 T.b_ac .nil bo Z0z))
    (aW (bX (cM (cC (bQ Zj T.cl_Descent T.me_aj ZOj Z7 T.b_aj .nil bo Z0z)))
    ZIF
    bM)
   (aW (bN (bQ Zj T.cl_Descent T.me_bk ZOg Z7 T.b_bk .nil bo Z0z))
   (bg Z8m)))
    bM)
   (bg Z0b))))
   (bg (bC (cE (bf (bI Zj T.cl_Descent T.me_ao ZOx Z7 T.b_ao .nil bo) Z2B))))))))),?_⟩
  refine Z37
  have m2:=lo.m2
  have tb:=ZIW
  have sm:=tb.2
  obtain⟨aw0,sd0⟩:=lo.bsl fs
  refine⟨_,rfl,_,rfl,λ d dx nd ndx nex=>?_⟩
  have s1:=bj.ins (o:=Z7F) nd ndx
  refine⟨H,G,L,A,n,f,fs,d,dx,rfl,s1,nd,aU,lo,hn,hf,λ D xss H2 ed s2 fq de lx al=>Z4v⟩
  refine(sn ee1 λ rr2 ee2=>?_:Z9_)
  subst ed
  refine⟨_,rfl,G,L,A,n,rfl,ZAN,hn,λ u us ns H3 s3 nu fus ll as pm=>?_⟩
  refine(sn ee2 λ rr3 ee3=>?_:Z9Z)
  have iv:=Iv.start lo.c.len2 lo.tw lo.wf lo.lk lx al as pm
  have l90:((Z7_).map List.length).sum<=90:=zv ns (by rw[pm.length_eq,Fe];have:=tb.1;omega)
  have de3:=de.same s3
  refine⟨Z3,λ pa npa=>?_⟩
  have s4:=bj.new (o:=Z0H) npa
  have epa:=aU (H:=H3) (a:=pa) (o:=Z0H)
  generalize upd H3 pa (.lst [])=H4 at s4 epa ⊢
  have de4:=de3.same s4
  have ll4:=ZT9
  have s04:=(ZHX).trans s4
  have npa0:H pa=none:=(ZHX).free npa
  have nus:∀ q∈us,q∉D.qs/\q≠D.al/\H q=none:=λ q hq=>by
   have h:=fus q hq
   refine⟨λ z=>?_,λ z=>?_,s2.free h⟩
   ·obtain⟨j,hj,e⟩:=ZVd
    have:=de.lls.at' j q _ (by rw[<- e];exact ZJg) (E9 (by rw[<- de.lls.len];exact hj))
    rw[h] at this;cases this
   ·rw[z,de.lls.self] at h;cases h
  have uqs:u∉D.qs/\u≠D.al:=by
   refine⟨λ z=>?_,λ z=>?_⟩
   ·obtain⟨j,hj,e⟩:=ZVd
    have:=de.lls.at' j u _ (by rw[<- e];exact ZJg) (E9 (by rw[<- de.lls.len];exact hj))
    rw[nu] at this;cases this
   ·rw[z,de.lls.self] at nu;cases nu
  have paq:pa∉D.qs/\pa≠D.al/\pa∉us/\pa≠u:=by
   refine⟨λ z=>?_,λ z=>?_,λ z=>?_,λ z=>?_⟩
   ·obtain⟨j,hj,e⟩:=ZVd
    have:=de3.lls.at' j pa _ (by rw[<- e];exact ZJg) (E9 (by rw[<- de.lls.len];exact hj))
    rw[npa] at this;cases this
   ·rw[z,de3.lls.self] at npa;cases npa
   ·obtain⟨j,hj,e⟩:=ZVd
    obtain⟨ls,this,_⟩:=ll.at' j pa _ (by rw[<- e];exact ZJg) (E9 (by rw[<- ll.len];exact hj))
    rw[npa] at this;cases this
   ·rw[z,ll.self] at npa;cases npa
  have nex':∀ {xss:List (List Int)} {nss:List (List Nm3)},Iv A fs xss nss->∀ xs∈xss,xs≠[]:=λ{xss nss} v xs hx=>by
   obtain⟨i,hi,e⟩:=FQ hx
   exact(v.p1 i xs (by rw[<- e];exact ZDa)).1
  have snd:∀ {xss:List (List Int)} {nss:List (List Nm3)},Iv A fs xss nss->∀ (h:Nat) ns,nss[h]? = some ns->∀ n∈ns,n.1=(h:Int):=λ{xss nss} v h ns e n hn=>((v.n1 h ns e).2 n hn).1
  refine(sn ee3 λ rr4 ee4=>?_:Z9Y)
  refine⟨_,rfl,_,rfl,D.d,D.dx,_,rfl,de4.self,rfl,D,A.A,xss,rfl,de4,ZV,ZRG,λ l5 H5 s5 nl5 el5=>?_⟩
  refine⟨u,us,_,l5,ZE0,rfl,ll4.same s5,SqL.of el5,by rw[Fe,iv.lx,iv.ln],by rw[iv.ln];omega,snd iv,λ sv H6 s6 sg=>?_⟩
  have s46:=ZBz
  refine(sn ee4 λ rr5 ee5=>?_:ZC0)
  refine⟨λ m σ H'=>∃ xss nss ls ns' v o,m=(Z2V).sum/\Iv A fs xss nss/\De t H' D A.A xss/\Lnm H' u us nss/\H' pa=some Z2P/\NmL H' ls ns'/\ls.length+(Z2V).sum<=90/\bj H H'/\SgO nss Zs v/\σ=[Z2G,Z38,Z4D,Z9W,ZWI,Z4c,o],⟨_,xss,_,[],[],sv,_,rfl,iv,de4.same s46,ll4.same s46,s46 _ _ epa,.nil,by simpa using l90,s04.trans s46,sg,rfl⟩,?_⟩
  rintro m σ H7 ⟨xss,nss,ls,ns',v,o,rfl,iv,de,ll,hpa,nmp,l90,s7,sg,rfl⟩
  refine⟨_,rfl,rfl,_,rfl,Z0G⟩
  ·rcases sg with ⟨h,ms,x,rfl,hh,lt⟩|⟨rfl,_⟩
   rotate_left
   ·exact absurd z Z3
   have hlt:h<A.many:=by have:=(Fc.mp hh).1;rw[iv.ln] at this;exact this
   obtain⟨q,hq⟩:∃ q,us[h]? = some q:=⟨_,E9 (by rw[ll.len,iv.ln];exact hlt)⟩
   obtain⟨ls1,eq1,nm1⟩:=ll.at' h q _ hq hh
   have nl1:ls1≠[]:=λ y=>by have:=nm1.len;rw[y] at this;simp at this
   obtain⟨ks,w0,rfl⟩:=dR nl1
   obtain⟨b,rfl,hb⟩:=nm1.last.2
   obtain⟨e,he,ee⟩:=Fw.mp ((iv.n1 h _ hh).2 x ZA).2
   have xh:x.1=(h:Int):=snd iv h _ hh x ZA
   have qin:=Fg hq
   have atq:atI ZFp (h:Int)=some (Z3L):=cW (by rw[Ff,hq];rfl)
   refine⟨λ σ2 H2=>∃ m',m'<(Z2V).sum/\∃ xss nss ls ns' v o,m'=(Z2V).sum/\Iv A fs xss nss/\De t H2 D A.A xss/\Lnm H2 u us nss/\H2 pa=some Z2P/\NmL H2 ls ns'/\ls.length+(Z2V).sum<=90/\bj H H2/\SgO nss Zs v/\σ2=[Z2G,Z38,Z4D,Z9W,ZWI,Z4c,o],λ _ _ h=>h,?_⟩
   refine⟨_,rfl,_,rfl,u,_,_,_,rfl,rfl,ZDU,atq,.inl ⟨rfl,_,SqL.of eq1⟩,q,_,Za,rfl,rfl,eq1,by rw[Fh,Fy,Nat.add_sub_cancel,ZS1,G4];rfl,?_⟩
   rw[List.dropLast_concat]
   have b8:But [q] H7 (upd H7 q (.lst ks)):=λ c o n e=>by rw[aV (by simpa using n)];exact e
   have eq8:=aU (H:=H7) (a:=q) (o:=.lst ks)
   generalize upd H7 q (.lst ks)=H8 at b8 eq8 ⊢
   have kd8:=kept eq1 b8
   have tk8:∀ c xs,H7 c=some Zb->H8 c=some Zb:=λ c xs e=>kd8 _ _ e (λ _ z=>by cases z)
   have de8:=de.but eq1 b8 (ZKq).2.1 (ZKq).1
   have ll8:=ll.pop hq hh eq1 nm1 b8 eq8
   have hpa8:H8 pa=some Z2P:=b8 _ _ (by rw[Fd];exact λ z=>paq.2.2.1 (by rw[z];exact qin)) hpa
   have nmp8:=nmp.keep tk8
   have hb8:=tk8 _ _ hb
   have s8:bj H H8:=λ c o e=>b8 _ _ (by rw[Fd];exact ba e (ZKq).2.2) ZBX
   have sms:=sum_set hh
   rw[<- ee] at hb8
   have few:xss.length<=5:=by rw[iv.lx];omega
   obtain⟨l,hl,el,_⟩:=Z6l
   have r:=ZEp
   have db8:DeB t H8 D A.A xss A.many b e l:=⟨de8,lo.wf.nd,lo.wf.nt,iv.lx,m2.2,ZRG,he,hl,el,by rw[<- el];exact⟨r.1,r.2.1⟩,r.2.2.2.2.2.2,hb8⟩
   refine tm Zt de8.self rfl ZS (.inl ⟨D,A.A,xss,A.many,b,e,l,rfl,db8,λ H9 s9=>⟨_,rfl,Z3t⟩⟩)
   ·have us':e.2<=cw Zs l.to/\¬ e.1.2.1<=cw Zs e.1.1:=by
     rw[F5,Hi,HY,Gs] at z2;exact z2
    obtain⟨j,hj⟩:=FR r.2.2.2.2.2.2.1
    have jlt:j<A.many:=ZV
    obtain⟨xs,hx⟩:∃ xs,xss[j]? = some xs:=⟨_,E9 (by rw[iv.lx];exact jlt)⟩
    obtain⟨ne0,asc⟩:=iv.p1 j xs hx
    have ah:=iv.ahead lo.wf he hl el hj hx us'.2 aw0 sd0
    have iv11:=iv.step lo.wf he hl el (by rw[ee];exact hh) hj hx us'.2 aw0 sd0
    obtain⟨x0,r0,rfl⟩:=Hy ne0
    have x0lt:x0<e.2:=by
     have h1:=(FN.mp ah)
     have h2:=Gb h1.2
     rcases Fi.mp h1.1 with y|y
     ·omega
     ·have:=(Hd.mp asc).1 _ y;omega
    obtain⟨qk,hqk⟩:∃ q,D.qs[j]? = some q:=⟨_,E9 (by rw[de8.lls.len,iv.lx];exact jlt)⟩
    have tj:l.to.toNat=j:=by rw[hj,FE]
    have db9:=db8.same s9
    have de9:=db9.de
    have hb9:=db9.hb
    have qkin:=Fg hqk
    refine tm Zt de9.self rfl ZS ⟨D,A.A,xss,A.many,b,e,l,x0,r0,rfl,db9,by rw[tj];exact hx,_,rfl,cD (by rw[FX x0lt];rfl) ?_⟩
    refine tm Zt de9.self rfl ZS ⟨D,A.A,xss,A.many,b,e,l,x0,r0,qk,rfl,db9,by rw[tj];exact hx,by rw[tj];exact hqk,asc,x0lt,λ H10 b10 e10=>?_⟩
    have hqk9:=de9.lls.at' j qk _ hqk hx
    have kd10:=kept hqk9 b10
    have tk10:∀ c xs,H9 c=some Zb->H10 c=some Zb:=λ c xs e=>kd10 _ _ e (λ _ z=>by cases z)
    have de10:=de9.set hqk hx b10 e10
    have ll10:=(ZRI).but hqk9 b10 (λ z=>uqs.1 (by rw[<- z];exact qkin)) (λ z=>(nus qk z).1 qkin)
    have hpa10:H10 pa=some Z2P:=b10 _ _ (by rw[Fd];exact λ z=>paq.1 (by rw[z];exact qkin)) (s9 _ _ hpa8)
    have nmp10:=(nmp8.same s9).keep tk10
    have s10:bj H H10:=λ c o e=>b10 _ _ (by rw[Fd];exact ba e (fq qk qkin)) (s9 _ _ ZU3)
    refine⟨_,rfl,.inl ⟨rfl,_,SqL.of hpa10⟩,_,rfl,pa,ls,Za,rfl,rfl,hpa10,ZRZ,?_⟩
    have b11:But [pa] H10 (upd H10 pa (.lst (ls++[Za]))):=λ c o n e=>by rw[aV (by simpa using n)];exact e
    have epa11:=aU (H:=H10) (a:=pa) (o:=.lst (ls++[Za]))
    generalize upd H10 pa (.lst (ls++[.ref b]))=H11 at b11 epa11 ⊢
    have kd11:=kept hpa10 b11
    have tk11:∀ c xs,H10 c=some Zb->H11 c=some Zb:=λ c xs e=>kd11 _ _ e (λ _ z=>by cases z)
    have de11:=de10.but hpa10 b11 paq.2.1 paq.1
    have ll11:=ll10.but hpa10 b11 paq.2.2.2 paq.2.2.1
    have nmp11:=(nmp10.snoc ⟨b,rfl,tk10 _ _ hb9⟩).keep tk11
    have s11:bj H H11:=λ c o e=>b11 _ _ (by rw[Fd];exact ba e npa0) (s10 _ _ e)
    refine⟨_,rfl,_,rfl,D.d,D.dx,_,rfl,de11.self,rfl,D,A.A,_,rfl,de11,by rw[GK];exact few,nex' iv11,λ l12 H12 s12 nl12 el12=>?_⟩
    refine⟨u,us,_,l12,_,rfl,ll11.same s12,ZRj,by rw[Fe,iv11.lx,iv11.ln],by rw[iv11.ln];omega,snd iv11,λ sv H13 s13 sg=>?_⟩
    have s1113:=ZEl
    exact⟨_,sms,_,_,_,_,_,_,rfl,iv11,de11.same s1113,ll11.same s1113,s1113 _ _ epa11,nmp11.same s1113,by rw[Fh,Fy];omega,s11.trans s1113,sg,rfl⟩
   ·have sf:¬ e.1.2.1<=cw Zs e.1.1:=by
     rw[ee,xh]
     omega
    have uf:cw Zs l.to<e.2:=by
     rw[F5,Hi,HY,Gs] at z2
     exact Int.lt_of_not_ge λ y=>z2 ⟨y,sf⟩
    have iv9:=iv.pop hh λ d hd ed l' hl' el'=>by
     have:d=e:=fD lo.wf.nt hd he (ed.trans ee.symm)
     have e2:l'=l:=eC lo.wf.nd hl' hl (el'.trans (ee.symm.trans el.symm))
     rw[this,e2];exact uf
    have de9:=de8.same s9
    refine⟨_,rfl,_,rfl,D.d,D.dx,_,rfl,de9.self,rfl,D,A.A,_,rfl,de9,few,nex' iv9,λ l12 H12 s12 nl12 el12=>?_⟩
    refine⟨u,us,_,l12,_,rfl,(ZRI).same s12,ZRj,by rw[Fe,iv9.lx,iv9.ln],by rw[iv9.ln];omega,snd iv9,λ sv H13 s13 sg=>?_⟩
    have s913:=ZEl
    have s813:=s9.trans s913
    exact⟨_,sms,_,_,_,_,_,_,rfl,iv9,de9.same s913,ll8.same s813,s813 _ _ hpa8,nmp8.same s813,ZV,s8.trans s813,sg,rfl⟩
  ·rcases sg with ⟨h,ms,x,rfl,hh,lt⟩|⟨rfl,nn⟩
   ·exact absurd ZA z
   subst ee5
   refine⟨_,rfl,D.d,D.dx,_,rfl,de.self,rfl,D,A.A,xss,rfl,de,by rw[iv.lx];omega,ZRG,λ l8 H8 s8 nl8 el8=>⟨_,rfl,by show 2<=sizeLine;decide,λ p np=>?_⟩⟩
   have s9:=bj.new (o:=.tup [.ref l8,ZLg]) np
   exact k p l8 pa _ ls ns' _ ((s7.trans s8).trans s9) (s7.free nl8) aU (s9 _ _ el8) (s9 _ _ (s8 _ _ hpa)) (nmp.same ZRD) (iv.done lo.wf sm nn)
noncomputable def sy (d:Int):gJ:=if d%3=0 then .never else if d%3=1 then .each else .bundle (1+d/3%8)
noncomputable def lH (c:Int) (m:Nat):List gJ:=(ZQN).map λ k:Nat=>sy (qa c (0+((k:Nat):Int)) 24)
theorem pS:lH c (m+1)=lH c m++[sy (qa c (0+(m:Int)) 24)]:=by
 unfold lH;rw[JM,FF];rfl
def B5 (K:W.Frag) (t:Adr):Sp:=λ vs H Q _=>∃ (c:Int) (m:Nat),vs=[Z7s,Z4Q]/\m<=5 /\
 ∀ (l:Addr) (has:List Addr) (hbs:List gJ) (H':Hp),bj H H'->H l=none->H' l=some ZUK->has.length=m->hbs.length=m->hbs=lH c m->(∀ (i:Nat) ha hb,has[i]? = some ha->hbs[i]? = some hb->kB t H' ha hb)->Q Zv H'
theorem BF (T:ZN):bR P w K mg base ZT 4 t.f_ca t.fd_ca Z06 (B5 K t):=by
 refine T.F_ca.okN qE ZB ZJ
 ·obtain⟨c,m,rfl,_⟩:=h;rfl
 ·obtain⟨c,m,rfl,m1,k⟩:=h
  refine⟨_,(aW (bz (i:=2) qE.nd rfl Z6 Z3S)
   (aW (dD PassesOwn.never rfl ZFG (bG (i:=3) qE.nd rfl Z6)
    (aW (bz (i:=4) qE.nd rfl Z6 (bA Z6t Z7 rfl T.mg_ck T.kp_ck T.b_ck .nil bo (bf Ze ZGk)))
   (bg (bN (cQ (K:=K) FH FK FJ bW Zj (bf (bF ZZ (cg (bf (oH T.mk_Never rfl T.mg_Never) (bf (oH T.mk_Each rfl T.mg_Each) (bf (fS T.mk_Bundle (CI (K:=K) T) Z7 rfl T.mg_Bundle T.b_bu .nil bo (bf (bB cY bh (bB bU Z8n bh)) aZ)) aZ)))) ZN4 ZC) aZ))))))
   Z41)),?_⟩
  refine Z8J
  refine⟨_,rfl,(m:Int),rfl,Z2,Z2,dQ (lo:=0)
   (λ i σ H2=>(∃ (has:List Addr) (hbs:List gJ),has.length=i/\hbs.length=i/\hbs=lH c i/\H2 l=some ZUK/\bj H H2/\∀ (j:Nat) ha hb,has[j]? = some ha->hbs[j]? = some hb->ha≠l/\kB t H2 ha hb)/\∃ o1 o2,σ=[Z1k,ZEj,ZBy,o1,o2])
   ⟨⟨[],[],rfl,rfl,rfl,aU,ZV3,(λ j ha hb e=>by simp at e)⟩,_,_,rfl⟩ ?_ ?_⟩
  ·rintro i σ H2 hi ⟨⟨has,hbs,l1,l2,eh,el,s2,hh⟩,o1,o2,rfl⟩
   refine⟨_,rfl,_,rfl,c,_,24,rfl,Z2,Z2,Z3,Z3,λ d de d0 d1=>?_⟩
   refine Z79
   have fin:∀ (H6:Hp) (q:Addr) (hb:gJ),hb=sy d->bj H2 H6->H2 q=none->kB t H6 q hb ->
     ∃ (has':List Addr) (hbs':List gJ),has'.length=i+1/\hbs'.length=i+1/\hbs'=lH c (i+1)/\upd H6 l (.lst (has.map V.ref++[Z3L])) l=some (.lst (has'.map V.ref))/\bj H (upd H6 l (.lst (has.map V.ref++[Z3L]))) /\
      ∀ (j:Nat) ha hb,has'[j]? = some ha->hbs'[j]? = some hb->ha≠l/\kB t (upd H6 l (.lst (has.map V.ref++[Z3L]))) ha hb:=λ H6 q hb ehb s6 nq hq=>by
    have up:∀ {ha:Addr} {hb:gJ},ha≠l->kB t H6 ha hb->kB t (upd H6 l (.lst (has.map V.ref++[Z3L]))) ha hb:=λ{ha hb} n h=>by
     cases hb<;>exact let ⟨dx,z⟩:=h;⟨dx,by rw[aV n];exact z⟩
    refine⟨has++[q],hbs++[hb],by simp[l1],by simp[l2],by rw[pS,eh,ehb,de],by rw[aU,FF];rfl,λ c u e=>?_,λ j ha hb' e1 e2=>?_⟩
    ·rw[ZAs];exact s6 _ _ Z9e
    ·rcases IL j i with g|g|g
     ·rw[F4 Z2] at e1 e2
      obtain⟨n,h⟩:=hh j ha hb' e1 e2
      exact⟨n,up n (h.same s6)⟩
     ·subst g
      rw[ZL_,l1,G4] at e1
      rw[ZL_,l2,G4] at e2
      have n:q≠l:=λ z=>by rw[z,el] at nq;cases nq
      cases e1;cases e2
      exact⟨n,up n hq⟩
     ·rw[Gr (by rw[Fh,Fy];lia)] at e1;cases e1
   intro q1 x1 n1 m1' w1 q2 x2 n2 m2 w2
   have t0:=F7 (d/3) (b:=8) Z3
   have t1:=FW (d/3) (b:=8) Z3
   refine⟨_,rfl,_,_,rfl,rfl,Z0I,_,_,rfl,rfl,by show (0:Int)<8;decide,_,_,rfl,rfl,λ q3 x3 n3 m3 w3=>⟨q3,x3,_,rfl,aU,Z2,Z2,rfl,by show 3<=sizeLine;decide,λ b nb=>?_⟩⟩
   have fr:∀ {q:Addr} {H1:Hp},bj H2 H1->H1 q=none->H2 q=none:=λ{q H1} s z=>by
    cases e:H2 q with
    | none=>rfl
    | some u=>rw[ZEo] at z;cases z
   have s1:=bj.ins (o:=.ins t.c_Never x1 []) n1 m1'
   have s2':=bj.ins (o:=.ins t.c_Each x2 []) n2 m2
   have s3:=bj.ins (o:=.ins t.c_Bundle x3 []) n3 m3
   generalize e1:upd (upd H2 x1 (HO.own q1)) q1 (HO.ins t.c_Never x1 [])=J1 at *
   generalize e2:upd (upd J1 x2 (HO.own q2)) q2 (HO.ins t.c_Each x2 [])=J2 at *
   generalize e3:upd (upd J2 x3 (HO.own q3)) q3 (HO.ins t.c_Bundle x3 [])=J3 at *
   have s4:bj J2 (upd J3 q3 (.ins t.c_Bundle x3 (bx "size" (.int (1+d/3%8)) []))):=λ c u e=>by
    rw[aV (ba e n3)];exact ZIR
   have s5:=bj.new (o:=.lst [Z97,Z7r,ZSC]) nb
   have sa:bj H2 _:=s1.trans ZNQ
   have cs:d%3=0\/d%3=1\/d%3=2:=Z2
   have la:has.length<sizeLine:=GH (show has.length<=5 by rw[FE] at hi;lia) Z3
   have la':(Z6n).length<sizeLine:=by rw[Fe];exact la
   rcases cs with e|e|e
   ·exact⟨_,rfl,_,_,rfl,rfl,by show (0:Int)<3;decide,b,_,_,Z97,rfl,rfl,ZCF,(by rw[e];rfl),l,_,Z97,rfl,rfl,ZKn,la',fin _ q1 .never (by unfold sy;rw[ZVY]) sa n1 ⟨x1,(ZNQ) _ _ (by rw[<- e1];exact aU)⟩,_,_,rfl⟩
   ·exact⟨_,rfl,_,_,rfl,rfl,by show (0:Int)<3;decide,b,_,_,Z7r,rfl,rfl,ZCF,(by rw[e];rfl),l,_,Z7r,rfl,rfl,ZKn,la',fin _ q2 .each (by unfold sy;rw[ZBI,ZVY]) sa (fr s1 n2) ⟨x2,(Z3k) _ _ (by rw[<- e2];exact aU)⟩,_,_,rfl⟩
   ·exact⟨_,rfl,_,_,rfl,rfl,by show (0:Int)<3;decide,b,_,_,ZSC,rfl,rfl,ZCF,(by rw[e];rfl),l,_,ZSC,rfl,rfl,ZKn,la',fin _ q3 (.bundle (1+d/3%8)) (by unfold sy;rw[ZBI,ZBI]) sa (fr (s1.trans s2') n3) ⟨x3,s5 _ _ aU⟩,_,_,rfl⟩
  ·rintro σ H2 ⟨⟨has,hbs,l1,l2,eh,el,s2,hh⟩,o1,o2,rfl⟩
   rw[FE] at l1 l2 eh
   exact⟨_,rfl,k l has hbs H2 s2 hl el l1 l2 eh λ j ha hb e1 e2=>(hh j ha hb e1 e2).2⟩
def jb (A:LoA) (H:Hp) (v:V):Prop:=∃ b,v=.ref b/\((∃ (j:Nat),j<A.many/\H b=some (.tup [Z4k,Z2k]))\/(∃ (j:Nat),j<A.many/\H b=some (.tup [Z64,Z2k])) \/
 ∃ (j:Nat) (c:Addr) (l:cV),j<A.many/\H b=some (.tup [ZTs,Z2k,Z6X])/\H c=some ZBR/\l∈A.A.po/\l.nm∉A.A.ta.map (·.1)/\l.to=j/\(A.ord=true->∀ l'∈A.A.po,l'.nm∉A.A.ta.map (·.1)->l'.nm.1=l.nm.1->l'.to=l.to->cd3 l.nm<=cd3 l'.nm))
theorem jb.keep (s:∀ b xs,H b=some Zb->H' b=some Zb) (h:ZWc):ZUf:=by
 obtain⟨b,e,h⟩:=h
 refine⟨b,e,?_⟩
 rcases h with ⟨j,h1,h2⟩|⟨j,h1,h2⟩|⟨j,c,l,h1,h2,F,J⟩
 ·exact ZES
 ·exact .inr ZES
 ·exact .inr (.inr ⟨j,c,l,h1,ZWS,s _ _ F,J⟩)
def mX (A:LoA) (L:LoL) (H4:Hp) (l ds wd:Addr) (ns:Z1w) (i:Nat) (σ:St) (H:Hp):Prop:=∃ fs kvs o4 o5 o6,H l=some (.lst fs)/\fs.length<=i/\(∀ v∈fs,ZWc)/\H wd=some Zk/\kvs.length<=i /\
 (∀ j,j<i->∀ x∈A.A.po,ns[j]? = some x.nm->(cf kvs (wk (x.nm.1,x.to))).isSome=true)/\(∀ c u,c≠l->c≠wd->H4 c=some u->H c=some u)/\σ=[Z2G,ZBy,ZDN,ZMK,o4,o5,o6]
def DM (K:W.Frag) (t:Adr):Sp:=λ vs H Q _=>∃ G L A n,vs=[Zg]/\Lo K t G H L A n/\n<=30/\∀ l ds H',bj H H'->H l=none->H' l=some (.lst ds)->0<ds.length->ds.length<=100->(∀ v∈ds,ZUf)->Q Zv H'
theorem Bv (T:ZN):bR P w K mg base ZT 2 t.f_cm t.fd_cm Z9c (DM K t):=by
 refine T.F_cm.okN kA ZB ZJ
 ·obtain⟨G,L,A,n,rfl,_⟩:=h;rfl
 ·obtain⟨G,L,A,n,rfl,lo,hn,k⟩:=h
  refine⟨_,(aW (bz (i:=1) kA.nd rfl Z6 Z3S)
   (aW (bz (i:=2) kA.nd rfl Z6 Z08)
   (aW (bz (i:=3) kA.nd rfl Z6 gF)
   (aW (dD PassesOwn.never rfl (cA (K:=K) (bI Ze T.cl_Loom T.me_cv (Dl (K:=K) T) Z7 T.b_cv .nil bo)) (bG (i:=4) kA.nd rfl Z6)
    (aW (bz (i:=5) kA.nd rfl Z6 (cE (bf ZAd (bf Z4b aZ))))
   (aW (bX (PW.pt (eK (cM (cC Z4)) (eg (iB (eD Z1W Z01 Z1i)))))
    (bg (bN (cQ (K:=K) FH FK FJ bW ZQ (bf (cE (bf gA (bf Z0s Z2B))) aZ))))
    bM)
   (bg (jI Z1W Z1i Z01 fh rfl)))))
   (aW (dD PassesOwn.never rfl Z57 (bG (i:=6) kA.nd rfl Z6)
    (aW Z5A
   (bg Z5A)))
   Z7w))))),?_⟩
  refine Z37
  refine Z8J
  have s1:=bj.new (o:=Z0H) hl
  have lo1:=Z3s
  refine(sn ee1 λ rr2 ee2=>?_:Z9_)
  refine⟨_,rfl,L.p,L.dx,_,rfl,lo1.c.self,rfl,G,L,A,n,rfl,lo1,hn,λ ds H2 s2 nds e2=>(sn ee2 λ rr3 ee3=>λ wd nwd=>?_:Z9Z)⟩
  have el2:=s2 _ _ (aU (H:=H) (a:=l) (o:=Z0H))
  have s13:=Z2s
  generalize upd H l (.lst [])=H1 at s1 lo1 s2 nds
  have s3:=bj.new (o:=ZIu) nwd
  have s03:=s13.trans s3
  have lo3:=lo.same s03
  refine(sn ee3 λ rr4 ee4=>?_:Z9Y)
  refine⟨_,rfl,L.p,L.dx,_,rfl,lo3.c.self,rfl,G,L,A,n,rfl,lo3,hn,λ r ls ns H4 s4 nr er nl as pm=>?_⟩
  have s04:=s03.trans s4
  have el4:=(Z5Z) _ _ el2
  have ew4:=s4 _ _ (aU (H:=H2) (a:=wd) (o:=ZIu))
  have ed4:=(Z5Z) _ _ e2
  have lw:l≠wd:=λ z=>by rw[z,ew4] at el4;cases el4
  have rl:r≠l:=λ z=>by rw[z,(s3 _ _ el2)] at nr;cases nr
  have rw':r≠wd:=λ z=>by rw[z,aU] at nr;cases nr
  have dl:ds≠l:=λ z=>by rw[z,el4] at ed4;cases ed4
  have dw:ds≠wd:=λ z=>by rw[z,nwd] at e2;cases e2
  have lo4:=lo.same s04
  have nsl:ns.length<=90:=by
   rw[pm.length_eq,Fe]
   have:=F6 (λ l:cV=>decide (l.nm∉A.A.ta.map (·.1))) A.A.po
   have:=lo.bn
   unfold DiA.free;lia
  have lsl:=nl.len
  have pl:∀ {c:Addr},c=l\/c=wd->H c=none:=λ{c} z=>by
   rcases z with rfl|rfl
   ·exact hl
   ·exact ZPu
  have frame:∀ {H5:Hp},(∀ c u,c≠l->c≠wd->H4 c=some u->H5 c=some u)->bj H H5:=λ{H5} h c u e=>h c u (ba e hl) (ba e ZPu) (s04 _ _ e)
  refine⟨r,rfl,⟨_,ZVF⟩,i6 (xs:=ls) (mX A L H4 l ds wd ns) ⟨[],[],_,_,_,el4,Z9,(λ v hv=>by cases hv),ew4,Nat.le_refl _,(λ j hj=>absurd hj (Nat.not_lt_zero _)),λ c u _ _ e=>e,rfl⟩ ?_ ?_ ?_⟩
  ·rintro i σ2 H5 _ ⟨fs,kvs,o4,o5,o6,_,_,_,_,_,_,fr,_⟩
   exact SqL.of (fr _ _ rl rw' er)
  ·rintro i x σ2 H5 hx ⟨fs,kvs,o4,o5,o6,f1,f2,f3,f4,f5,f6,fr,rfl⟩
   have i90:i<90:=by have:=Z43;lia
   obtain⟨n0,b,rfl,hb⟩:∃ n0,d6 H4 x n0:=⟨_,nl.all x ZFK⟩
   have hn0:ns[i]? = some n0:=by
    rw[<- nl.eq,Ff,hx]
    exact congrArg some (d6.of Z6B)
   obtain⟨l0,hl0,rfl⟩:=Fw.mp (pm.mem_iff.mp (Fg hn0))
   obtain⟨hp0,ht0⟩:=FN.mp hl0
   have ht0:l0.nm∉A.A.ta.map (·.1):=Gb ht0
   have v1:cf (A.A.po.map λ l=>(Z0t,Z04)) (ZWY)=some (ZSD):=cK (λ l:cV=>Z0t) Z5m Z1u hp0
   have rg:=lo.wf.rg l0 hp0
   have tup5:∀ {c xs},H4 c=some Zb->H5 c=some Zb:=λ{c xs} e=>fr _ _ (λ z=>by rw[z,el4] at e;cases e) (λ z=>by rw[z,ew4] at e;cases e) e
   have hb5:=tup5 hb
   have ha5:=tup5 (s04 _ _ (lo.c.held _ _ (lo.c.di.lets l0 hp0)))
   refine⟨_,rfl,b,_,0,.int l0.nm.1,rfl,rfl,SqT.of hb5,cp,_,rfl,_,rfl,ds,ZSD,rfl,.inr ⟨_,ZWY,b,.inl (fr _ _ dl dw ed4),rfl,hb5,v1.symm⟩,l0.adr,_,0,ZJl,rfl,rfl,SqT.of ha5,cp,by show 2<=sizeLine;decide,λ kb hkb=>?_⟩
   have s6:=bj.new (o:=Z2T) hkb
   have hb6:=s6 _ _ hb5
   have g1:=ZUQ
   have g3:∀ v∈fs,jb A _ v:=λ v hv=>(f3 v hv).keep λ c xs e=>ZIQ
   have g4:=s6 _ _ f4
   have gk:=aU (H:=H5) (a:=kb) (o:=Z2T)
   have g7:∀ c u,c≠l->c≠wd->H4 c=some u->upd H5 kb Z2T c=some u:=λ c u n1 n2 e=>s6 _ _ (fr c u n1 n2 e)
   generalize upd H5 kb (.tup [.int l0.nm.1,.int l0.to])=H6 at s6 hb6 g1 g3 g4 gk g7 ⊢
   have fin:∀ (H7:Hp) (fs':List V),H7 l=some ZUI->fs'.length<=i+1->(∀ v∈fs',jb A H7 v)->H7 wd=some Zk->(∀ c u,c≠l->c≠wd->H4 c=some u->H7 c=some u) ->
     mX A L H4 l ds wd ns (i+1) Z0q (upd H7 wd (.dT (putK kvs (wk (l0.nm.1,l0.to)) Z3O))):=λ H7 fs' a1 a2 a3 a4 a5=>by
    refine⟨fs',_,_,_,_,by rw[aV lw];exact a1,a2,λ v hv=>(a3 v hv).keep λ c xs e=>by rw[aV (λ z=>by rw[z,a4] at e;cases e)];exact e,aU,FC (gG _ _ _) Z2,λ j hj x hx ej=>?_,λ c u n1 n2 e=>by rw[aV n2];exact a5 c u n1 n2 e,rfl⟩
    rw[tZ]
    by_cases z:wk (x.nm.1,x.to)=wk (l0.nm.1,l0.to)
    ·rw[ZDY];rfl
    ·rw[ZFZ]
     rcases Nat.lt_succ_iff_lt_or_eq.mp hj with q|q
     ·exact f6 j q x hx ej
     ·rw[q,hn0] at ej
      exact absurd (by rw[eC lo.wf.nd hx hp0 (Option.some.inj ej).symm]) z
   have kl:kvs.length<sizeLine:=ZJR
   have noUse:mX A L H4 l ds wd ns (i+1) Z0q (upd H6 wd (.dT (putK kvs (wk (l0.nm.1,l0.to)) Z3O))):=fin H6 fs g1 Z2 g3 g4 g7
   have use:∀ ub,H6 ub=none->(A.ord=true->cf kvs (wk (l0.nm.1,l0.to))=none)->∀ H7,H7=upd (upd H6 ub Z4j) l (.lst (fs++[.ref ub]))->(H7 wd=some Zk/\H7 kb=some Z2T)/\mX A L H4 l ds wd ns (i+1) Z0q (upd H7 wd (.dT (putK kvs (wk (l0.nm.1,l0.to)) Z3O))):=λ ub nub hv H7 e7=>by
    have s7:=bj.new (o:=Z4j) nub
    have tp:∀ {c xs},upd H6 ub Z4j c=some Zb->H7 c=some Zb:=λ{c xs} e=>by
     rw[e7,aV (λ z=>by rw[z,s7 _ _ g1] at e;cases e)];exact e
    have w7:H7 wd=some Zk:=by rw[e7,aV (Ne.symm lw)];exact s7 _ _ g4
    refine⟨⟨w7,tp (s7 _ _ gk)⟩,fin H7 _ (by rw[e7];exact aU) (by rw[Fh,Fy];lia) (λ v hv'=>?_) w7 λ c u n1 n2 e=>by rw[e7,aV n1];exact s7 _ _ (g7 c u n1 n2 e)⟩
    rcases Fm.mp hv' with z|z
    ·exact(g3 v z).keep λ c xs e=>tp ZBX
    ·rw[Fd] at z
     subst z
     refine⟨ub,rfl,.inr (.inr ⟨l0.to.toNat,b,l0,Z2,?_,tp (s7 _ _ hb6),hp0,ht0,Z2,λ ho l' hl' nt' e1 e2=>?_⟩)⟩
     ·rw[Int.toNat_of_nonneg rg.2.2.2.2.2.2.1];exact tp aU
     ·have hv:=hv ho
      have m':l'.nm∈ns:=pm.mem_iff.mpr (Fq (FN.mpr ⟨hl',by simpa using nt'⟩))
      obtain⟨j,hj⟩:=HG m'
      rcases IL j i with q|q|q
      ·have:=f6 j q l' hl' hj
       rw[e1,e2,hv] at this;cases this
      ·rw[q,hn0] at hj
       rw[Option.some.inj hj];exact ZGL
      ·obtain⟨b1,c1⟩:=Fc.mp hn0
       obtain⟨b2,c2⟩:=Fc.mp hj
       have:=HE.mp as i j b1 b2 q
       rw[c1,c2] at this
       lia
   refine⟨_,rfl,L.p,_,L.dx,_,_,rfl,s6 _ _ ZFW,T.cl_Loom,T.na_bp,rfl,A.ord,rfl,cU (λ z=>ZUv) λ z=>?_⟩
   ·refine⟨_,rfl,ZDD,_,rfl,kb,_,1,ZJl,rfl,rfl,ZVB,rfl,_,rfl,by show 3<=sizeLine;decide,λ ub nub=>Z5O⟩
    obtain⟨⟨u1,u2⟩,u3⟩:=use ub nub (λ h=>by rw[h] at z;cases z) _ rfl
    exact⟨_,rfl,_,rfl,wd,_,rfl,.inr ⟨kvs,wk (l0.nm.1,l0.to),kb,u1,rfl,u2,kl,rfl⟩,u3⟩
   ·refine⟨_,rfl,_,rfl,wd,_,rfl,.inr ⟨kvs,wk (l0.nm.1,l0.to),kb,.inl g4,rfl,gk,rfl⟩,_,rfl,?_⟩
    cases ev:cf kvs (wk (l0.nm.1,l0.to)) with
    | some v=>exact iy ⟨_,rfl,_,rfl,wd,_,rfl,.inr ⟨kvs,wk (l0.nm.1,l0.to),kb,g4,rfl,gk,kl,rfl⟩,noUse⟩
    | none=>
     refine f9 ⟨_,rfl,ZDD,_,rfl,kb,_,1,ZJl,rfl,rfl,ZVB,rfl,_,rfl,by show 3<=sizeLine;decide,λ ub nub=>Z5O⟩
     obtain⟨⟨u1,u2⟩,u3⟩:=use ub nub (λ h=>ev) _ rfl
     exact⟨_,rfl,_,rfl,wd,_,rfl,.inr ⟨kvs,wk (l0.nm.1,l0.to),kb,u1,rfl,u2,kl,rfl⟩,u3⟩
  ·rintro σ2 H5 ⟨fs,kvs,o4,o5,o6,f1,f2,f3,f4,f5,f6,fr,rfl⟩
   have m2:=lo.m2
   refine(sn ee4 λ rr5 ee5=>?_:ZC0)
   refine⟨_,rfl,L.p,_,L.dx,_,_,rfl,ZFW,T.cl_Loom,T.na_db,rfl,(A.many:Int),rfl,Z2,Z2,dQ (lo:=0)
    (λ i σ3 H6=>∃ fs' o6,H6 l=some ZUI/\(i≠0->0<fs'.length)/\fs'.length<=90+2*i/\(∀ v∈fs',jb A H6 v)/\bj H H6/\σ3=[Z2G,ZBy,ZDN,ZMK,o4,o5,o6])
    ⟨fs,_,f1,λ z=>absurd rfl z,Z2,f3,frame fr,rfl⟩ ?_ ?_⟩
   ·rintro i σ3 H6 hi ⟨fs',o6',a1,a2,a3,a4,a5,rfl⟩
    rw[FE] at hi
    refine⟨_,rfl,.inl ⟨rfl,_,SqL.of a1⟩,_,rfl,by show 2<=sizeLine;decide,λ b1 nb1=>⟨l,fs',ZC_,rfl,rfl,bj.new nb1 _ _ a1,ZJR,?_⟩⟩
    have s7:=bj.new (o:=.tup [Z4k,.int (0+i)]) nb1
    have t7:∀ c xs,upd H6 b1 (.tup [Z4k,.int (0+i)]) c=some Zb->upd (upd H6 b1 (.tup [Z4k,.int (0+i)])) l (.lst (fs'++[ZC_])) c=some Zb:=λ c xs e=>by
     rw[aV (λ z=>by rw[z,s7 _ _ a1] at e;cases e)];exact e
    have o7:∀ v∈fs'++[.ref b1],jb A (upd (upd H6 b1 (.tup [Z4k,.int (0+i)])) l (.lst (fs'++[ZC_]))) v:=λ v hv=>by
     rcases Fm.mp hv with z|z
     ·exact(a4 v z).keep λ c xs e=>t7 _ _ ZBX
     ·rw[Fd] at z
      subst z
      exact⟨b1,rfl,.inl ⟨i,hi,t7 _ _ (by rw[aU,Int.zero_add])⟩⟩
    have l7:upd (upd H6 b1 (.tup [Z4k,.int (0+i)])) l (.lst (fs'++[ZC_])) l=some (.lst (fs'++[ZC_])):=aU
    have sm7:bj H (upd (upd H6 b1 (.tup [Z4k,.int (0+i)])) l (.lst (fs'++[ZC_]))):=λ c u e=>by
     rw[ZAs];exact s7 _ _ (a5 _ _ e)
    generalize upd (upd H6 b1 (.tup [.str "own",.int (0+i)])) l (.lst (fs'++[.ref b1]))=H7 at o7 l7 sm7 ⊢
    have le7:(fs'++[V.ref b1]).length=fs'.length+1:=Zq
    refine⟨_,rfl,.inl ⟨rfl,_,SqL.of l7⟩,_,rfl,by show 2<=sizeLine;decide,λ b2 nb2=>⟨l,_,ZLh,rfl,rfl,bj.new nb2 _ _ l7,ZJR,?_⟩⟩
    have s8:=bj.new (o:=.tup [Z64,.int (0+i)]) nb2
    have t8:∀ c xs,upd H7 b2 (.tup [Z64,.int (0+i)]) c=some Zb->upd (upd H7 b2 (.tup [Z64,.int (0+i)])) l (.lst ((fs'++[ZC_])++[ZLh])) c=some Zb:=λ c xs e=>by
     rw[aV (λ z=>by rw[z,s8 _ _ l7] at e;cases e)];exact e
    refine⟨_,_,aU,λ _=>Zq,by rw[Fh,le7,Fy];lia,λ v hv=>?_,λ c u e=>?_,rfl⟩
    ·rcases Fm.mp hv with z|z
     ·exact(o7 v z).keep λ c xs e=>t8 _ _ ZU3
     ·rw[Fd] at z
      subst z
      exact⟨b2,rfl,.inr (.inl ⟨i,hi,t8 _ _ (by rw[aU,Int.zero_add])⟩)⟩
    ·rw[ZAs];exact s8 _ _ (sm7 _ _ e)
   ·rintro σ3 H6 ⟨fs',o6',a1,a2,a3,a4,a5,rfl⟩
    rw[FE] at a2 a3
    subst ee5
    exact⟨_,rfl,k l fs' H6 a5 hl a1 (a2 Z2) Z2 a4⟩
def Dn (K:W.Frag) (t:Adr):Sp:=λ vs H Q _=>∃ G L A,∃ c:Int,∃ m:Nat,vs=[Zg,Z7s,Z4Q]/\Lo K t G H L A 0/\m<=30/\∀ G' H' L' A',Stp G G' H H' L A L' A'->Lo K t G' H' L' A' m->Q .non H'
theorem AE (T:ZN):bR P w K mg base ZT 7 t.f_cn t.fd_cn Z2b (Dn K t):=by
 refine T.F_cn.okN qL ZB ZJ
 ·obtain⟨G,L,A,c,m,rfl,_⟩:=h;rfl
 ·obtain⟨G,L,A,c,m,rfl,lo,hm,k⟩:=h
  refine⟨_,(bg (dD PassesOwn.never rfl (c8 rfl T.no_range Z1p) (bG (i:=3) qL.nd rfl Z6)
    (aW (bz (i:=4) qL.nd rfl Z6 (bA (Bv (K:=K) T) Z7 rfl T.mg_cm T.kp_cm T.b_cm .nil bo ZEZ))
   (aW (bz (i:=5) qL.nd rfl Z6 (bF ZZ Z0C (bB bU (bA Z6t Z7 rfl T.mg_ck T.kp_ck T.b_ck .nil bo (bf ZQ ZGk)) (bL Z1t rfl T.no_len eM Z2B)) ZC))
   (bg (bX ZJ1
    (bg (bN (bQ Ze T.cl_Loom T.me_dg (DE (K:=K) T) Z7 T.b_dg .nil bo ZQs)))
    (bg (bX ZJ1
    (bg (bN (bQ Ze T.cl_Loom T.me_df (En (K:=K) T) Z7 T.b_df .nil bo Z9C)))
    (bg (bN (bQ Ze T.cl_Loom T.me_cl (Bf (K:=K) T) Z7 T.b_cl .nil bo Z9C))))))))))),?_⟩
  refine⟨_,rfl,(m:Int),rfl,Z2,Z2,dQ (lo:=0)
   (λ i σ H2=>∃ G2 L2 A2 o3 o4 o5,Stp G G2 H H2 L A L2 A2/\Lo K t G2 H2 L2 A2 i/\σ=[Z2G,Z1k,ZEj,o3,o4,o5])
   ⟨G,L,A,_,_,_,Stp.of Z4p,lo,rfl⟩ ?_ ?_⟩
  ·rintro i σ H2 hi ⟨G2,L2,A2,o3,o4,o5,st2,lo2,rfl⟩
   rw[FE] at hi
   rw[<- st2.p]
   refine⟨_,rfl,G2,L2,A2,i,rfl,lo2,Z2,λ l ds H3 s3 nl el d0 d1 al=>?_⟩
   have q0:(0:Int)<(ds.length:Int):=Z2
   refine⟨_,rfl,_,rfl,_,rfl,c,_,120,rfl,Z2,Z2,Z3,Z3,λ d _ x0 x1=>⟨_,rfl,l,_,rfl,.inl ZCE,_,_,rfl,rfl,q0,?_⟩⟩
   have y0:=F7 d (b:=(ds.length:Int)) Z2
   have y1:=FW d q0
   obtain⟨v,hv⟩:∃ v,ds[(d%(ds.length:Int)).toNat]? = some v:=⟨ds[(d%(ds.length:Int)).toNat]'(Z2),E9 _⟩
   obtain⟨b,rfl,hd⟩:=al v ZOM
   have at0:atI ds (d%(ds.length:Int))=some (Za):=by
    have e:d%(ds.length:Int)=(((d%(ds.length:Int)).toNat:Nat):Int):=Z2
    rw[e];exact ZRT
   have st3:=st2.trans (Stp.of s3)
   have lo3:=lo2.same s3
   rcases hd with ⟨j,j1,hb⟩|⟨j,j1,hb⟩|⟨j,cc,l0,j1,hb,hc,p1,p2,p3,p4⟩
   ·refine⟨l,_,_,_,rfl,rfl,ZCE,at0,_,rfl,b,_,0,Z4k,rfl,rfl,Z6R,cp,rfl,_,rfl,cD Z3 ⟨_,rfl,b,_,0,Z4k,rfl,rfl,Z6R,cp,rfl,_,rfl,ZWk⟩⟩
    refine Z0v
    exact⟨G',L',A',_,_,_,ZEh,lo',by rw[st2.p];rfl⟩
   ·refine⟨l,_,_,_,rfl,rfl,ZCE,at0,_,rfl,b,_,0,Z64,rfl,rfl,Z6R,cp,rfl,_,rfl,cD Z3 ⟨_,rfl,b,_,0,Z64,rfl,rfl,Z6R,cp,rfl,_,rfl,cD Z3 ?_⟩⟩
    refine Z0v
    exact⟨G',L',A',_,_,_,ZEh,lo',by rw[st2.p];rfl⟩
   ·refine⟨l,_,_,_,rfl,rfl,ZCE,at0,_,rfl,b,_,0,ZTs,rfl,rfl,Z6R,cp,rfl,_,rfl,ZWk⟩
    refine⟨_,rfl,L2.p,L2.dx,_,rfl,lo3.c.self,rfl,_,rfl,b,_,1,Z2k,rfl,rfl,Z6R,rfl,_,rfl,b,_,2,.ref cc,rfl,rfl,Z6R,rfl,G2,L2,A2,i,j,cc,l0,rfl,lo3,Z2,j1,hc,p1,p2,p3,p4,λ G' H' L' A' st' lo'=>?_⟩
    exact⟨G',L',A',_,_,_,ZEh,lo',by rw[st2.p];rfl⟩
  ·rintro σ H2 ⟨G2,L2,A2,o3,o4,o5,st2,lo2,rfl⟩
   rw[FE] at lo2
   exact k G2 H2 L2 A2 st2 lo2
def Cp (K:W.Frag) (t:Adr):Sp:=λ vs H Q _=>∃ a ns,vs=[ZY]/\SqL K H a Z2O/\nF H t.tb_cx (pP sV) "_law_loom.<locals>.<lambda>" /\
 ∀ G H' L A n,n<=30->Lo K t G H' L A n->(∀ i:Nat,i<A.many->A.b i=0)->SqL K H' a Z2O->Q Zg H'
theorem Dx (T:ZN) (Tb:ZQW):bR P w K mg base ZT 8 t.f_cx t.fd_cx Z4H (Cp K t):=by
 refine T.F_cx.okM T.cde_cx j0 ZB (λ A outer s H vs Q E hr h=>?_)
 ·obtain⟨a,ns,rfl,_⟩:=h;rfl
 ·obtain⟨a,ns,rfl,ha,tab,k⟩:=h
  refine⟨_,(nj (bz (i:=1) j0.nd rfl Z6 ZM)
   (nj (bz (i:=2) j0.nd rfl Z35 ZM)
   (nj (bz (i:=3) j0.nd rfl Z35 (bB cY bh (bB bU ZQ bh)))
   (zl sV (F:=Z06) (ix:=[2,3]) (i:=4) (qual:="_law_loom.<locals>.<lambda>") rfl Tb.tb_cx rfl j0.nd rfl rfl ZSQ (y8 rfl) Z3 BR vt.fre vt.isf
   (xq (aW (bz (i:=5) j0.nd rfl Z6 (bA (BF (K:=K) T) Z7 rfl T.mg_ca T.kp_ca T.b_ca .nil bo (bf ZM Z3J)))
   (aW (bz (i:=6) j0.nd rfl Z6 (fS T.mk_Loom (Dm (K:=K) T) Z7 rfl T.mg_Loom T.b_cw .nil bo (bf Z0C (bf (dA ["_law_script","_law_first","_law_cell","_law_many","_law_does","_law_habits_here","_law_loom_here","_law_k"] 1 rfl (c8 rfl T.no_range Z3J) (λ _ _ _ _ _=>⟨(bG (i:=7) (show List.Nodup (["_law_script","_law_first","_law_cell","_law_many","_law_does","_law_habits_here","_law_loom_here","_law_k"]:Zo) from ZF) rfl Z6),dI,bh⟩)) (bf Z01 (bf (cX eX ZE_ bh Z0F) aZ))))))
   (aW (bN (bA (AE (K:=K) T) Z7 rfl T.mg_cn T.kp_cn T.b_cn .nil bo (bf Z2E (bf ZM (bf ZE_ aZ)))))
   (bg (bC Z2E)))))))))),?_⟩
  refine⟨_,rfl,a,ns,0,rfl,ha,Z3,λ c0=>⟨_,rfl,a,ns,2,rfl,ha,Z3,λ c2=>⟨_,rfl,_,_,rfl,rfl,by show (0:Int)<4;decide,_,_,rfl,rfl,?_⟩⟩⟩
  have x0:=F7 c0 (b:=4) Z3
  have x1:=FW c0 (b:=4) Z3
  refine⟨tab,[.int c2,.int (2+c0%4)],rfl,λ j i e=>?_,λ f H1 nf st tab1 clo=>?_⟩
  ·match j,e with
   | 0,e=>cases e;exact ZKl
   | 1,e=>cases e;exact ZKl
   | _+2,e=>cases e
  have ha1:SqL K H1 a Z2O:=by
   have ne:∀ {u},H a=some u->(∀ ps,u≠.tbl ps)->a≠t.tb_cx:=λ{u} e nt z=>by
    obtain⟨ps,y⟩:=tab.get
    rw[z,y] at e;exact nt ps (ZAR).symm
   rcases ha with (h|⟨o,h⟩)|h
   ·exact .inl (.inl (st _ _ (ne h (λ ps z=>by cases z)) h))
   ·exact .inl (.inr ⟨o,st _ _ (ne h (λ ps z=>by cases z)) h⟩)
   ·exact ZCe
  obtain⟨m,hm⟩:∃ m:Nat,2+c0%4=(m:Int):=⟨(2+c0%4).toNat,Z2⟩
  rw[hm] at clo
  refine⟨_,rfl,a,ns,1,rfl,ha1,Z3,λ c1=>⟨_,rfl,c1,m,by show [V.int c1,V.int (2+c0%4)]=_;rw[hm],Z2,λ lh has hbs H2 s2 nlh elh len1 len2 ehb hab=>?_⟩⟩
  have ha2:=s2.seq ha1
  refine⟨_,rfl,_,rfl,2+c0%4,rfl,Z2,Z2,kh (n:=(2+c0%4).toNat) Z2 λ acc hacc=>⟨λ i σ2 ys H3=>ys=List.replicate i (V.int 0)/\H3 acc=some Z03/\bj H2 H3,⟨rfl,aU,ZRY⟩,?_,?_,?_⟩⟩
  ·rintro i σ2 ys H3 hi ⟨rfl,_,_⟩
   rw[HD];exact Z9
  ·rintro i σ2 ys H3 hi ⟨rfl,e3,s3⟩
   dsimp only[dq,ki]
   refine f9 ⟨e3,Nx.mk hi ⟨?_,aU,λ c u e=>?_⟩⟩
   ·rw[JU]
   ·rw[ZMa];exact ZIR
  ·rintro σ2 ys H3 ⟨rfl,e3,s3⟩
   have em:(2+c0%4).toNat=m:=Z2
   rw[em] at e3
   have ha3:=s3.seq ha2
   refine⟨_,rfl,_,rfl,_,_,rfl,rfl,Z0I,_,_,rfl,rfl,by show (0:Int)<2;decide,rfl,λ x dx nx ndx nex=>?_⟩
   have s4:=bj.ins (o:=ZHz) nx ndx
   refine⟨H3,x,dx,f,acc,lh,m,has,hbs,_,ZIj,c2,rfl,aU,s4,nx,SqL.of (s4 _ _ (e3.trans (by unfold iV;rw[List.map_replicate]))),HD,SqL.of (s4 _ _ (s3 _ _ elh)),len1,len2,λ i h' hb z1 z2=>(hab i h' hb z1 z2).same s3,clo.same λ b o u e=>ZT4,Z2,Z2,λ H5 L ep ow kp lo5=>Z4v⟩
   subst ep
   have ha5:SqL K H5 a Z2O:=by
    have ne:∀ {u},H3 a=some u->a≠L.p:=λ{u} e=>ba e nx
    rcases ha3 with (h|⟨o,h⟩)|h
    ·exact .inl (.inl ZE2)
    ·exact .inl (.inr ⟨o,ZE2⟩)
    ·exact ZCe
   have na:a∉L.own (uM m (decide (V.int (c0/4%2)=V.int 1)) [.int c2,Z4Q] ZIj hbs)\/∀ H',SqL K H' a Z2O:=by
    rcases ha3 with (h|⟨o,h⟩)|h
    ·refine ZOa
     rcases ow a z with y|y
     ·exact ZV4
     ·rw[ZWQ] at y;cases y
    ·refine ZOa
     rcases ow a z with y|y
     ·exact ZV4
     ·rw[ZWQ] at y;cases y
    ·exact .inr λ H'=>ZCe
   have y0:=F7 (c0/8) (b:=31) Z3
   have y1:=FW (c0/8) (b:=31) Z3
   refine⟨_,rfl,_,rfl,a,ns,3,rfl,ha5,Z3,λ c3=>⟨_,rfl,_,_,rfl,rfl,Z0I,_,_,rfl,rfl,by show (0:Int)<31;decide,H3,L,_,c3,(c0/8%31).toNat,by show [V.ref L.p,V.int c3,V.int (c0/8%31)]=_;rw[Int.toNat_of_nonneg y0],lo5,Z2,λ G' H6 L' A' st6 lo6=>?_⟩⟩
   refine Z3T
   rw[<- st6.p]
   refine k G' H6 L' A' _ Z2 lo6 (λ i hi=>by rw[st6.eb i (by rw[<- st6.em];exact hi)];rfl) ?_
   rcases na with z|z
   ·exact qX st6.bt z ha5
   ·exact z H6
def AV (K:W.Frag):Sp:=λ vs H Q _=>∃ (c:Int) (m:Nat),vs=[Z7s,Z4Q]/\0<m/\m<=5/\∀ l fs H',bj H H'->H l=none->H' l=some (ZIq)->fs.length<=7->Q Zv H'
theorem Cz (T:ZN):bR P w K mg base ZT 2 t.f_cb t.fd_cb Z06 (AV K):=by
 refine T.F_cb.okN qN ZB (λ V A outer s H vs Q E hr h=>?_)
 ·obtain⟨c,m,rfl,_⟩:=h;rfl
 ·obtain⟨c,m,rfl,m0,m1,k⟩:=h
  refine⟨_,(aW (bz (i:=2) qN.nd rfl Z6 Z3S)
   (aW (dD PassesOwn.never rfl (c8 rfl T.no_range (bf ZP4 aZ)) (bG (i:=3) qN.nd rfl Z6)
    (aW (bz (i:=4) qN.nd rfl Z6 (bB bU (bA Z6t Z7 rfl T.mg_ck T.kp_ck T.b_ck .nil bo (bf ZP3 ZGk)) ZQ))
   (bg (bX (bH ZID Z0C Zj (by with_unfolding_all rfl))
    (bg (bN (cQ (K:=K) FH FK FJ bW Zj Z2B)))
    bM))))
   Z41)),?_⟩
  refine⟨Z3,λ l J=>?_⟩
  have x0:=F7 c (b:=7) Z3
  have x1:=FW c (b:=7) Z3
  refine⟨_,rfl,_,_,rfl,rfl,by show (0:Int)<7;decide,c%7,rfl,Z2,Z2,dQ (lo:=0) (λ i σ H'=>(∃ fs:List Int,fs.length<=i/\H' l=some (ZIq)/\bj H H')/\∃ O U,σ=[Z1k,ZEj,ZBy,O,U]) ⟨⟨[],Z9,aU,ZIb⟩,_,_,rfl⟩ ?_ ?_⟩
  ·rintro i σ H' hi ⟨⟨fs,lf,F,s'⟩,O,U,rfl⟩
   have Z:i<7:=Z2
   refine⟨_,rfl,_,_,rfl,rfl,Z0I,_,rfl,c/7,_,60,rfl,Z2,Z2,Z3,Z3,λ W _ d0 d1=>?_⟩
   refine⟨_,rfl,_,_,rfl,rfl,Z2,?_⟩
   have Y:(ZNd).all fz=true:=by unfold iV;rw[Jj];exact Z4M
   refine⟨_,rfl,_,rfl,l,ZNd,rfl,.inl ZWv,rfl,Y,_,rfl,Z0G⟩
   ·refine⟨_,rfl,.inl ⟨rfl,_,ZWv⟩,_,rfl,l,_,_,rfl,rfl,F,bE (by unfold iV;rw[Fe];lia),⟨fs++[W%m],by rw[Fh,Fy];lia,by rw[aU,iU],λ c o e=>?_⟩,_,_,rfl⟩
    rw[ZHh];exact ZNS
   ·exact⟨⟨fs,Z2,F,s'⟩,_,_,rfl⟩
  ·rintro σ H' ⟨⟨fs,lf,F,s'⟩,O,U,rfl⟩
   exact⟨_,rfl,k l fs H' s' J F Z2⟩
noncomputable def DiA.eH (A:DiA) (n:Nm3):Int:=((A.po.find? λ l=>decide (l.nm=n)).map (·.to)).getD 0
theorem eU {A:DiA}(O:(A.po.map (·.nm)).Nodup) {l:cV}(F:l∈A.po):A.eH l.nm=l.to:=by
 unfold DiA.eH
 cases e:A.po.find? λ J=>decide (J.nm=l.nm) with
 | none=>
  have:=Jm.mp e l F
  simp at this
 | some J=>
  have h1:=Jo e
  have h2:=JN e
  rw[eC O h1 F (Gb h2)];rfl
noncomputable def DiA.dM (A:DiA) (ln:ZU) (e:Nm3×Int):Bool:=decide (e.2<=cw ln Z9k)
noncomputable def iA (ln:ZU) (n:Nm3):Bool:=decide (n.2.1<=cw ln n.1)
noncomputable def DiA.brk (A:DiA) (ln:ZU):Z1w:=((A.ta.filter (A.dM ln)).map (·.1)).filter λ n=>!iA ln n
theorem gK:(σ++[ov]).set σ.length v=σ++[v]:=by
 rw[List.set_append_right _ _ Z9,G4];rfl
theorem fC:(σ++[v])[σ.length]? = some v:=by
 rw[ZS1,G4];rfl
theorem uJ {α:Type}{xs:ZLN}{f:α->Nm3}{g:α->V}{d:Addr}{o:Obj}{i:Nat}{tc:TT}{σ:St}{H1:Hp}{Q:VK}(p:α->Bool) (a2:xs.length<=1000) (hd:H1 d=some (.frz o (.dT (xs.map λ x=>(nk ZVt,g x))))) (hi:i=σ.length)
  (ht:∀ b x H2,x∈xs->H2 b=some (.tup (nV ZVt))->bj H1 H2->∀ R:Bool->Hp->Prop,R (p x) H2->tc (σ++[Z6j]) H2 R)
  (hq:∀ acc ls H',H1 acc=none->bj H1 H'->H' acc=some Z2P->NmL H' ls ((xs.filter p).map f)->Q Z17 H'):fZ (Itk d o (xs.map λ x=>(nk ZVt,g x))) 1 ZEW tc ZCm σ H1 Q:=by
 subst hi
 refine mf (by rw[Fe];exact a2) λ acc F=>⟨λ j O ys H2=>NmL H2 ys ((ZN5).map f)/\H2 acc=some Z03/\bj H1 H2/\∃ ov,O=σ++[ov],ZBU,?_,?_,?_⟩
 ·rintro j O ys H2 hj ⟨U,Y,W,_⟩
  refine⟨W _ _ hd,?_⟩
  rw[U.len,Fe]
  exact FC Z68 (by rw[F0];lia)
 ·rintro j b kk v O ys H2 hj Z hb ⟨U,Y,W,ov,rfl⟩
  obtain⟨x,a1,rfl⟩:∃ x,xs[j]? = some x/\kk=nk (f x):=by
   rw[Ff] at Z
   cases e:xs[j]? with
   | none=>rw[e] at Z;cases Z
   | some x=>rw[e] at Z;cases Z;exact⟨x,rfl,rfl⟩
  show tc ((σ++[ov]).set σ.length Z6j) H2 _
  rw[gK]
  have J:((xs.take (j+1)).filter p).map f=(ZN5).map f++(if p x=true then [f x] else []):=by
   rw[GB,a1,GU,FF]
   congr 1
   show List.map f (List.filter p [x])=_
   rw[GW]
   by_cases z:p x=true
   ·rw[ZDY,ZDY];rfl
   ·rw[ZFZ,ZFZ];rfl
  refine ht b x H2 ZSs hb W _ ?_
  by_cases z:p x=true
  ·rw[ZDY]
   refine⟨_,fC,Y,ZQL⟩
   ·rw[J,ZDY]
    exact(U.snoc Z6B).keep λ c a3 e=>by rw[aV (λ y=>by rw[y,Y] at e;cases e)];exact e
   ·rw[Z2w];exact W _ _ e
  ·rw[ZFZ]
   exact Nx.mk hj ⟨by rw[J,ZFZ,Gf];exact U,Y,W,_,rfl⟩
 ·rintro O ys H2 ⟨U,Y,W,_⟩
  rw[Fe,Hb] at U
  exact hq acc ys H2 F W Y U
theorem vz {U:Z11}{F:Z1w}{a:Addr}{i:Nat}{tc:TT}{σ:St}{H1:Hp}{Q:VK}(p:Nm3->Bool) (a3:U.length<=1000) (ha:SqL K H1 a U) (a1:NmL H1 U F) (hi:i=σ.length)
  (ht:∀ b x H2,x∈F->H2 b=some ZPD->bj H1 H2->∀ R:Bool->Hp->Prop,R (p x) H2->tc (σ++[Z6j]) H2 R)
  (hq:∀ acc ls H',H1 acc=none->bj H1 H'->H' acc=some Z2P->NmL H' ls (F.filter p)->Q Z17 H'):fZ Z94 1 ZEW tc ZCm σ H1 Q:=by
 subst hi
 have a5:=a1.len
 refine dE (xs:=U) a3 λ acc J=>⟨λ j W ys H2=>NmL H2 ys ((ZXB).filter p)/\H2 acc=some Z03/\bj H1 H2/\∃ ov,W=σ++[ov],⟨.nil,aU,ZIb,_,rfl⟩,?_,?_,?_⟩
 ·rintro j W ys H2 hj ⟨Z,e2,Y,_⟩
  refine⟨Y.seq ha,?_⟩
  rw[Z.len]
  exact FC Z68 (by rw[F0];lia)
 ·rintro j v W ys H2 hj hx ⟨Z,e2,Y,ov,rfl⟩
  obtain⟨b,rfl,a2⟩:=a1.all v ZFK
  have hn:F[j]? = some (eJ H1 Za):=by rw[<- a1.eq,Ff,hx];rfl
  obtain⟨x,a4⟩:∃ x,x=eJ H1 (.ref b):=Z1_
  rw[<- a4] at hn a2
  have hb:=Y _ _ a2
  show tc ((σ++[ov]).set σ.length Z6j) H2 _
  rw[gK]
  have O:(F.take (j+1)).filter p=(ZXB).filter p++(if p x=true then [x] else []):=by
   rw[GB,hn,GU]
   congr 1
   show List.filter p [x]=_
   rw[GW]
   by_cases z:p x=true
   ·rw[ZDY,ZDY];rfl
   ·rw[ZFZ,ZFZ];rfl
  refine ht b x H2 (Fg hn) hb Y _ ?_
  by_cases z:p x=true
  ·rw[ZDY]
   refine⟨_,fC,e2,ZQL⟩
   ·rw[O,ZDY]
    exact(ZTR).keep λ c a6 e=>by rw[aV (λ y=>by rw[y,e2] at e;cases e)];exact e
   ·rw[ZHh];exact Y _ _ e
  ·rw[ZFZ]
   exact Nx.mk hj ⟨by rw[O,ZFZ,Gf];exact Z,e2,Y,_,rfl⟩
 ·rintro W ys H2 ⟨Z,e2,Y,_⟩
  rw[a5,Hb] at Z
  exact hq acc ys H2 J Y e2 Z
theorem xb {H:Hp}{p:Addr}{Y:Z11}{ns:Z1w}{Q:VK}(hp:SqL K H p Y) (O:NmL H Y ns) (U:ns.length<128) (Z:∀ n∈ns,ZHk) (nd:ns.Nodup)
  (k:∀ l J F H',bj H H'->H l=none->H' l=some (ZQb)->NmL H' J F->pk F->F.Perm ns->Q Zv H'):pC K [Z00] H Q:=by
 refine⟨p,Y,rfl,hp,by rw[O.len];exact U,O.small Z,by rw[O.lK];exact dY nd Z,λ l J W pm so=>?_⟩
 obtain⟨F,n1,n2,n3⟩:=O.sorted pm so
 exact k l J F _ ZU6 W aU (n1.same ZU6) n3 n2
theorem Lo.ta2 (lo:Z07) (J:n<=30):A.A.ta.length<=90/\∀ e∈A.A.ta,Small e.1/\∃ l∈A.A.po,l.nm=e.1:=⟨(lo.ta J).1,λ e F=>⟨(lo.ta J).2 e F,let ⟨l,O,y,_⟩:=ZFw;⟨l,O,y⟩⟩⟩
def BL (K:W.Frag) (t:Adr):Sp:=λ vs H Q _=>∃ G L A n a ln,vs=[Zg,ZY]/\Lo K t G H L A n/\n<=30/\SqL K H a ZCl/\ln.length=A.many /\
 ∀ l ls ns H',bj H H'->H l=none->H' l=some Z2P->NmL H' ls ns->pk ns->ns.Perm (ZTr)->Q Zv H'
theorem C6 (T:ZN):bR P w K mg base ZT 2 t.f_cy t.fd_cy Z2x (BL K t):=by
 refine T.F_cy.okN q8 ZB Z99
 ·obtain⟨G,L,A,n,a,O,rfl,_⟩:=h;rfl
 ·obtain⟨G,L,A,n,a,O,rfl,lo,hn,ha,hl,k⟩:=h
  refine⟨_,(aW (bz (i:=2) q8.nd rfl Z35 Z08)
   (aW (bz (i:=3) q8.nd rfl Z35 Z0Z)
   (aW (dP Z6c 1 (i:=4) rfl q8.nd rfl Z6 (rA Z1i) (λ _ _ _ _ _=>⟨(bG (i:=5) (show List.Nodup (["loom","line","sent","uses","names","name"]:Zo) from ZF) rfl Z6),(fW (cC (bA (vj (K:=K) T) Z7 rfl T.mg_av T.kp_av T.b_av .nil bo (bf ZQ (bf (bF Zp (cH Z1W Zj Z01 ZC) bh ZC) (bf (cH Z1W Z1i Z01 ZC) aZ)))))),Z01⟩))
   (bg (bC (bL ZSY rfl T.no_sorted eF (bf (dA Z6c 1 rfl (cA (K:=K) Z0C) (λ _ _ _ _ _=>⟨(bG (i:=5) (show List.Nodup (["loom","line","sent","uses","names","name"]:Zo) from ZF) rfl Z6),(fW (cM (cC (bA ZOu Z7 rfl T.mg_au T.kp_au T.b_au .nil bo (bf ZQ Z3K))))),Z01⟩)) aZ))))))),?_⟩
  refine⟨_,rfl,L.p,L.dx,_,rfl,lo.c.self,rfl,G,L,A,n,rfl,lo,hn,λ ds H1 s1 ak e1=>?_⟩
  have a3:=Z3s
  refine⟨_,rfl,L.p,L.dx,_,rfl,a3.c.self,rfl,G,L,A,n,rfl,a3,hn,λ W H2 s2 a4 e2=>?_⟩
  refine⟨_,rfl,W,_,rfl,.inl ⟨e2,λ o=>?_⟩⟩
  obtain⟨ae,a1⟩:=ZUa
  have s3:bj H (upd H2 W (.frz o (.dT (A.A.ta.map λ e=>(Z0p,Zw))))):=λ c u e=>by
   rw[aV (ba ZIS a4)];exact s2 _ _ ZIS
  have a5:bj H1 (upd H2 W (.frz o (.dT (A.A.ta.map λ e=>(Z0p,Zw))))):=λ c u e=>by
   rw[aV (ba e a4)];exact Z9e
  have Y:upd H2 W (.frz o (.dT (A.A.ta.map λ e=>(Z0p,Zw)))) W=some (.frz o (.dT (A.A.ta.map λ e=>(Z0p,Zw)))):=aU
  generalize upd H2 W (.frz o (.dT (A.A.ta.map λ e=>(nk e.1,V.int e.2))))=H3 at s3 a5 Y ⊢
  refine uJ (f:=λ e:Nm3×Int=>e.1) (g:=λ e=>Zw) (A.A.dM O) Z2 Y rfl (λ b x H4 hx a2 U R hR=>?_) λ acc ls H4 na U ea nl=>?_
  ·obtain⟨_,l,J,el⟩:=a1 x hx
   have v1:cf (A.A.po.map λ l=>(Z0t,Z04)) (ZKr)=some (Z2L):=by
    rw[<- el]
    exact cK (λ l:cV=>Z0t) Z5m Z1u J
   have v2:cf (A.A.ta.map λ e=>(Z0p,Zw)) (ZKr)=some (ZXH):=cK (λ e:Nm3×Int=>Z0p) Z3z (cZ (f:=λ x:Nm3×Int=>x.1) cJ lo.wf.nt) hx
   have rg:=ZQ0
   refine⟨_,rfl,_,rfl,_,rfl,ds,Z2L,rfl,.inr ⟨_,ZKr,b,.inl (U _ _ (a5 _ _ e1)),rfl,a2,v1.symm⟩,l.adr,_,0,Z4R,rfl,rfl,SqT.of (U _ _ (s3 _ _ (lo.c.held _ _ (lo.c.di.lets l J)))),rfl,_,rfl,_,rfl,W,ZXH,rfl,.inr ⟨_,ZKr,b,.inr ⟨o,U _ _ Y⟩,rfl,a2,v2.symm⟩,a,O,l.to,x.2,rfl,ZJX,Z2,by rw[hl];lia,_,rfl,?_⟩
   have e:A.A.dM O x=decide (x.2<=cw O l.to):=by unfold DiA.dM;rw[<- el,eU lo.wf.nd J]
   rw[<- e];exact hR
  ·have F:∀ n∈(A.A.ta.filter (A.A.dM O)).map (·.1),∃ e∈A.A.ta,e.1=n:=λ n Z=>by
    obtain⟨e,he,rfl⟩:=Fw.mp Z
    exact⟨e,(ZXA).1,rfl⟩
   have ag:((ZEQ).map (·.1)).length<=90:=by
    rw[Fe]
    exact FC Z68 ae
   refine⟨_,rfl,acc,rfl,⟨_,ZVG⟩,vz (λ n=>!iA O n) (by rw[nl.len];lia) ZVG nl rfl (λ b x H5 hx a8 s5 R hR=>?_) λ af ai H5 aj s5 a7 aa=>?_⟩
   ·obtain⟨e,he,rfl⟩:=F x hx
    obtain⟨_,l,J,el⟩:=a1 e he
    have rg:=ZQ0
    rw[el] at rg
    exact⟨_,rfl,_,rfl,a,b,O,e.1,rfl,s5.seq ZJX,a8,Z2,by rw[hl];lia,_,rfl,hR⟩
   ·refine xb (SqL.of a7) aa ?_ (λ n Z=>?_) ?_ λ l a9 ad H' s6 ab e6 n6 a6 pm=>k l a9 ad H' ((ZGc).trans s6) ((ZGc).free ab) e6 n6 a6 pm
    ·have:=F6 (λ n=>!iA O n) ((ZEQ).map (·.1))
     lia
    ·obtain⟨e,he,rfl⟩:=F n (ZS0).1
     exact(a1 e he).1
    ·exact(ZBD).sublist Iu
def EA (K:W.Frag) (t:Adr):Sp:=λ vs H Q _=>∃ G L A n a ln,vs=[Zg,ZY]/\Lo K t G H L A n/\n<=30/\SqL K H a ZCl/\ln.length=A.many/\∀ H',bj H H'->Q (.bl (ZTr).isEmpty) H'
theorem Eg (T:ZN):bR P w K mg base ZT 3 t.f_dh t.fd_dh Z2x (EA K t):=by
 refine T.F_dh.okN A6 ZB (λ O A outer s H vs Q E hr h=>?_)
 ·obtain⟨G,L,A,n,a,F,rfl,_⟩:=h;rfl
 ·obtain⟨G,L,A,n,a,F,rfl,lo,hn,Y,Z,k⟩:=h
  refine⟨_,(bg (bC (wI (K:=K) (bA (C6 (K:=K) T) Z7 rfl T.mg_cy T.kp_cy T.b_cy .nil bo ZIG)))),?_⟩
  refine⟨_,rfl,_,rfl,G,L,A,n,a,F,rfl,lo,hn,Y,Z,λ l J ns H' s1 nl U nm _ pm=>⟨_,.inl ⟨J,ZWu,rfl⟩,?_⟩⟩
  have:(!(!J.isEmpty))=(ZVg).isEmpty:=by
   rw[Bool.not_not]
   have h1:J.length=(ZVg).length:=by rw[nm.len,pm.length_eq]
   cases h2:J with
   | nil=>
    rw[h2] at h1
    have W:A.A.brk F=[]:=GO h1.symm
    rw[W]
    rfl
   | cons x r=>
    rw[h2] at h1
    cases V:A.A.brk F with
    | nil=>rw[V] at h1;cases h1
    | cons _ _=>rfl
  rw[this]
  exact k H' s1
noncomputable def DiA.brkE (A:DiA) (ln:ZU) (e:Nm3×Int):Bool:=A.dM ln e && !iA ln e.1
noncomputable def rJ (xs:ZU) (p:Int):Int:=cn (xs.filter λ y=>decide (y<p))
noncomputable def ij (A:DiA) (xss:ZHp) (ln:ZU) (n:Nm3):Option (ZU):=
 (A.ta.find? λ e=>decide (e.1=n) && A.brkE ln e).map λ e=>ln.set (A.eH n).toNat (rJ ((xss[(A.eH n).toNat]?).getD []) e.2)
noncomputable def dJ (A:DiA) (xss:ZHp):List Nm3->List Int->Option ZU
 | [],ln=>some ln
 | n::ns,ln=>(ZNa).bind (dJ A xss ns)
noncomputable def gE (A:DiA) (xss:ZHp) (ns:Z1w) (ln:ZU):Bool:=match dJ A xss ns (xss.map cn) with
 | none=>false
 | some l=>decide (l=ln) && (A.brk l).isEmpty
theorem nY {A:DiA}{xss:Z6T}{ns:Z1w}{i:Nat}{n:Nm3}{ln:ZU}(h:ns[i]? = some n):dJ A xss ZIA ln=(ZNa).bind (dJ A xss (ns.drop (i+1))):=by
 obtain⟨F,e⟩:=ZLX
 rw[Io F,e];rfl
theorem iH (h:∀ e∈A.ta,e.1=n->A.brkE ln e=false):ij A xss ln n=none:=by
 unfold ij
 rw[Jm.mpr λ e F=>?_]
 ·rfl
 ·by_cases z:e.1=n
  ·rw[h e F z,KA];exact Fv
  ·rw[Gm z,Jn];exact Fv
theorem iz (O:(A.ta.map (·.1)).Nodup) (F:e∈A.ta) (b:A.brkE ln e=true) (J:xss[(Z9k).toNat]? = some xs):ij A xss ln e.1=some (ln.set (Z9k).toNat (rJ xs e.2)):=by
 unfold ij
 cases f:A.ta.find? λ d=>decide (d.1=e.1) && A.brkE ln d with
 | none=>
  have:=Jm.mp f e F
  rw[b,ZQV] at this
  exact absurd rfl this
 | some d=>
  have h1:=Jo f
  have h2:=JN f
  rw[F5,F3] at h2
  rw[fD O h1 F h2.1,J];rfl
structure Cut (xss yss:List (List Int)):Prop where
 len:yss.length=xss.length
 asc:∀ (i:Nat) xs,xss[i]? = some xs->xs.Pairwise (· < ·)
 at':∀ (i:Nat) xs ys,xss[i]? = some xs->yss[i]? = some ys->(∃ zs,xs=ys++zs)/\0∈ys
theorem Cut.ne (c:Cut xss J):∀ xs∈J,xs≠[]:=λ xs F=>by
 obtain⟨j,O⟩:=HG F
 obtain⟨zs,U⟩:∃ zs,xss[j]? = some zs:=⟨_,E9 (by rw[<- c.len];exact ZCw)⟩
 exact GS (c.at' j zs xs U O).2
theorem eqI (J:H a=some Z8G) (O:H b=some (.lst (iV ms))) (q:Q (.bl (decide (ns=ms))) H):ZH2:=by
 have F:∀ {ns:List Int},Z2t:=ZCb
 refine⟨_,_,.lst ZNw eZ,.lst Z87 eZ,ZHu,ZHu,?_⟩
 rw[ZAU,show PyData.eqv (.list ZI9) (.list (ms.map PyData.int))=decide (ns=ms) from W.ked_eqvAll ns ms]
 exact q
theorem qR:∀ {xs:List Int}{p:Int},xs.Pairwise (· < ·)->∃ zs,xs=(xs.filter λ y=>decide (y<p))++zs
 | [],_,_=>⟨[],rfl⟩
 | x::xs,p,h=>by
  have h':=Hd.mp h
  by_cases z:x<p
  ·obtain⟨zs,e⟩:=qR (p:=p) h'.2
   exact⟨zs,by rw[HR (by simpa using z),List.cons_append,<- e]⟩
  ·refine⟨x::xs,?_⟩
   rw[IM.mpr λ y F=>?_]
   ·rfl
   ·rcases Fi.mp F with rfl|F
    ·simpa using z
    ·have:=h'.1 y F
     simp;lia
theorem p7 (F:xs.Pairwise (· < ·)) (e:xs=ys++zs) (O:ys≠[]) (U:p<=cn ys):(xs.filter λ y=>decide (y<p))=ys.filter λ y=>decide (y<p):=by
 rw[e,GU,(IM (l:=zs)).mpr λ z J=>?_,Gf]
 rw[e] at F
 have:=(FU.mp F).2.2 _ (gN O) z J
 simp;lia
theorem Cut.set (c:Cut xss yss) (F:yss[k]? = some ys) (h:0<p):Cut xss (yss.set k (ys.filter λ y=>decide (y<p))):=by
 refine⟨by rw[GK];exact c.len,c.asc,λ i xs zs h1 h2=>?_⟩
 have O:=(ZLY).1
 rcases eB O h2 with ⟨rfl,rfl⟩|⟨_,h2⟩
 ·obtain⟨⟨zs,e⟩,V⟩:=c.at' i xs ys h1 F
  have as:=c.asc i xs h1
  rw[e] at as
  obtain⟨U,J⟩:=qR (p:=p) (FU.mp as).1
  exact⟨⟨U++zs,by rw[<- Gd,<- J];exact e⟩,FN.mpr ⟨V,by simpa using h⟩⟩
 ·exact c.at' i xs zs h1 h2
theorem Cut.step {A:DiA}{xss F:Z6T}{e:Nm3×Int}{k:Nat}{ys:ZU}(c:Cut xss F) (Y:(A.ta.map (·.1)).Nodup) (W:e∈A.ta) (b:A.brkE ZIm e=true) (U:A.eH e.1=(k:Int)) (O:F[k]? = some ys) :
  ij A xss ZIm e.1=some ((F.set k (ys.filter λ y=>decide (y<e.2))).map cn):=by
 obtain⟨xs,J⟩:∃ xs,xss[k]? = some xs:=⟨_,E9 (by rw[<- c.len];exact ZCw)⟩
 obtain⟨⟨zs,V⟩,Z⟩:=c.at' k xs ys J O
 have tk:(Z9k).toNat=k:=by rw[U,FE]
 rw[iz Y W b (xs:=xs) (by rw[tk];exact J),tk,List.map_set]
 unfold rJ
 rw[p7 (c.asc k xs J) V (GS Z) ?_]
 unfold DiA.brkE DiA.dM at b
 rw[F5,F3,U,gm O] at b
 exact b.1
def Ea (K:W.Frag) (t:Adr):Sp:=λ vs H Q _=>∃ a ns,vs=[ZY]/\H a=some Z8G/\ns.length<=900/\∀ H',bj H H'->Q Z3O H'
theorem CB (T:ZN):bR P w K mg base ZT 2 t.f_ai t.fd_ai Z3X (Ea K t):=by
 refine T.F_ai.okN DA ZB (λ Z A outer s H vs Q E hr h=>?_)
 ·obtain⟨a,W,rfl,_⟩:=h;rfl
 ·obtain⟨a,W,rfl,Y,a1,k⟩:=h
  refine⟨_,(bg (bC (fL (bL Z6v rfl T.no_isinstance da (bf Ze Z5w)) (fu (bL ZLs rfl T.no_all yK (bf (dA ZKI 1 rfl (cA (K:=K) Ze) (λ _ _ _ _ _=>⟨(bG (i:=1) (show List.Nodup (["value","part"]:Zo) from ZF) rfl Z6),dI,Z4f⟩)) aZ)))))),?_⟩
  refine⟨_,rfl,_,_,.plain (.lst Y),ZL3,_,rfl,ZUv⟩
  refine⟨_,rfl,a,rfl,⟨_,ZWt⟩,dE (xs:=iV W) (by rw[cO];lia) λ acc J=>⟨λ i F ys H2=>ys=List.replicate i (Z1E)/\H2 acc=some Z03/\bj H H2/\∃ o,F=[Z7S,o],⟨rfl,aU,ZIb,_,rfl⟩,?_,?_,?_⟩⟩
  ·rintro i F ys H2 hi ⟨rfl,_,O,_⟩
   exact⟨SqL.of (O _ _ Y),by rw[HD];exact Z9⟩
  ·rintro i v F ys H2 hi hx ⟨rfl,U,O,o,rfl⟩
   obtain⟨j,rfl,_⟩:=pQ hx
   dsimp only[dq,ki]
   refine f9 ⟨_,rfl,j,rfl,U,Z0l⟩
   ·rw[JU]
   ·rw[ZHh];exact O _ _ e
  ·rintro F ys H2 ⟨rfl,U,O,o,rfl⟩
   rw[cO] at U
   refine⟨acc,ZBe,rfl,SqL.of (by rw[List.map_replicate];exact U),?_⟩
   rw[show (ZBe).all id=true by simp]
   exact k H2 O
theorem mM {A:DiA}(O:(A.po.map (·.nm)).Nodup) {l:cV}{e:Nm3×Int}{ln:ZU}(J:l∈A.po) (F:l.nm=e.1):A.brkE ln e=(decide (e.2<=cw ln l.to) && !decide (e.1.2.1<=cw ln e.1.1)):=by
 unfold DiA.brkE DiA.dM iA
 rw[<- F,eU O J]
theorem Lo.CS {G H:Hp}{L:LoL}{A:LoA}{n:Nat}{fs:ZU}{xss:Z6T}(lo:Z07) (U:∀ i:Nat,i<A.many->A.b i=0) (V:xss.length=A.many)
  (O:∀ (i:Nat) T xs,A.ths[i]? = some T->xss[i]? = some xs->AlO T (decide ((i:Int)∉fs)) xs):Cut xss xss:=by
 have F:∀ (i:Nat) xs,xss[i]? = some xs->xs.Pairwise (· < ·)/\0∈xs:=λ i xs h=>by
  have hi:i<A.many:=by rw[<- V];exact Z36
  obtain⟨T,J⟩:∃ T,A.ths[i]? = some T:=⟨_,E9 (by rw[lo.c.len2];exact hi)⟩
  have:=ZQK
  have p:=ZQ1
  rw[U i hi] at p
  exact⟨this.1,(this.2 0).mpr (.inl p)⟩
 refine⟨rfl,λ i xs h=>(F i xs h).1,λ i xs ys h1 h2=>?_⟩
 rw[h1] at h2;cases h2
 exact⟨⟨[],by rw[Gf]⟩,(F i xs h1).2⟩
def D5 (K:W.Frag) (t:Adr):Sp:=λ vs H Q _=>∃ G L A n f fs a ln p pls ns,vs=[Zg,ZCY,ZY,Z00]/\Lo K t G H L A n/\n<=30/\(∀ i:Nat,i<A.many->A.b i=0)/\SqL K H f ZAb/\H a=some Z1n/\ln.length<=900/\H p=some Z6b/\NmL H pls ns /\
 ∀ xss H',bj H H'->xss.length=A.many->(∀ (i:Nat) T xs,A.ths[i]? = some T->xss[i]? = some xs->AlO T (decide ((i:Int)∉fs)) xs)->Q (.bl (gE A.A xss ns ln)) H'
theorem D3 (T:ZN):bR P w K mg base ZT 7 t.f_dj t.fd_dj Z4Y (D5 K t):=by
 refine T.F_dj.okN wm ZB (λ ah A outer s H vs Q E W h=>?_)
 ·obtain⟨G,L,A,n,f,fs,a,ln,p,a6,ns,rfl,_⟩:=h;rfl
 ·obtain⟨G,L,A,n,f,fs,a,ln,p,a6,ns,rfl,lo,hn,b0,hf,ha,ab,hp,nm,k⟩:=h
  refine⟨_,(aW (bX (PW.pt (eK (cM (cC (bA (CB (K:=K) T) Z4s rfl T.mg_ai T.kp_ai T.b_ai .nil bo Z1p))) (eg (cM (cC (bL Z6v rfl T.no_isinstance da (bf Z1i Z5w)))))))
    Z2U
    bM)
   (aW (bz (i:=4) wm.nd rfl Z6 (fS T.mk_Descent ZOf Z4s rfl T.mg_Descent T.b_bj .nil bo ZIG))
   (aW (dD PassesOwn.never rfl ZLy (bG (i:=5) wm.nd rfl Z6)
    (aW (bX (PW.pt (eK (cM (cC (bQ Z0C T.cl_Descent T.me_ac ZOl Z4s T.b_ac .nil bo Z3K))) (eg (cM (cC (bQ Z0C T.cl_Descent T.me_aj ZOj Z4s T.b_aj .nil bo Z3K))))))
    Z2U
    bM)
   (bg (bN (bQ Z0C T.cl_Descent T.me_bk ZOg Z4s T.b_bk .nil bo Z3K)))))
   (bg (bC (fL (cX (fH (K:=K) W.units) (bI Z0C T.cl_Descent T.me_ao ZOx Z4s T.b_ao .nil bo) Zj Z0F) (fu (bA (Eg (K:=K) T) Z4s rfl T.mg_dh T.kp_dh T.b_dh .nil bo (bf Ze Z1p))))))))),?_⟩
  refine ZKm
  have m2:=lo.m2
  refine⟨_,rfl,a,ln,rfl,ha,ab,λ H1 s1=>Z2r⟩
  refine⟨_,rfl,_,_,.plain (.lst ZKo),ZL3,_,rfl,ZL6⟩
  refine(sn a8 λ af a9=>?_:ZWn)
  refine⟨_,rfl,_,rfl,λ d dx nd ad ai=>?_⟩
  have s2:=bj.ins (o:=Z7F) nd ad
  refine⟨H1,G,L,A,n,f,fs,d,dx,rfl,s2,nd,aU,Z3s,hn,s1.seq hf,λ D xss H3 ed s3 fq de V al=>Z4v⟩
  subst ed
  refine(sn a9 λ aj aa=>?_:af _ _ _)
  have a7:=s1.trans s3
  have c0:=lo.CS b0 V al
  have a4:∀ H',bj H H'->dJ A.A xss ns Zs=none->Q ZCh H':=λ H' s' e=>by
   have:=ZKA
   unfold gE at this
   rw[e] at this;exact this
  refine⟨_,rfl,p,rfl,⟨_,SqL.of (a7 _ _ hp)⟩,i6 (xs:=a6) (λ i σ H'=>(∃ F,De t H' D A.A F/\Cut xss F/\bj H H'/\dJ A.A xss ns Zs=dJ A.A xss ZIA ZIm)/\∃ o,σ=[Z2G,Z38,Z7S,Z5z,Z4D,o]) ⟨⟨xss,de,c0,a7,by rw[List.drop_zero]⟩,_,rfl⟩ ?_ ?_ ?_⟩
  ·rintro i σ H' _ ⟨⟨_,_,_,s',_⟩,_⟩
   exact ZIf
  ·rintro i x σ H' hx ⟨⟨F,J,c,s',le⟩,o,rfl⟩
   obtain⟨b,rfl,hb⟩:=ZPx
   have hi:i<ns.length:=by rw[<- nm.len];exact Z43
   have ex:ns[i]? = some ZVu:=by rw[<- nm.eq,Ff,hx];rfl
   generalize eJ H (.ref b)=y at hb ex
   have a5:=s' _ _ hb
   rw[nY ex] at le
   by_cases ty:y∈A.A.ta.map (·.1)
   ·obtain⟨e,he,rfl⟩:=ZX6
    obtain⟨l,hl,el,e1,e2⟩:=Z6l
    have rg:=ZEp
    have db:DeB t H' D A.A F A.many b e l:=⟨J,lo.wf.nd,lo.wf.nt,by rw[c.len,V],m2.2,c.ne,he,hl,el,by rw[<- el];omega,ZV,a5⟩
    have eb:=mM (ln:=ZIm) lo.wf.nd hl el
    refine tm Zt J.self rfl ZS (.inl ⟨D,A.A,F,A.many,b,e,l,rfl,db,λ H4 s4=>?_⟩)
    rw[<- eb]
    cases z:A.A.brkE (F.map cn) e with
    | false=>
     refine Z6h
     rw[le,iH λ e' Z ee=>by rw[fD lo.wf.nt Z he ee];exact z];rfl
    | true=>
     refine Z2r
     have O:=db.same s4
     obtain⟨j,hj⟩:=FR rg.2.2.2.2.2.2.1
     have a2:j<A.many:=ZV
     obtain⟨ys,hy⟩:∃ ys,F[j]? = some ys:=⟨_,E9 (by rw[c.len,V];exact a2)⟩
     obtain⟨zs,hz⟩:∃ zs,xss[j]? = some zs:=⟨_,E9 (by rw[V];exact a2)⟩
     obtain⟨⟨us,eu⟩,z0⟩:=c.at' j zs ys hz hy
     have a3:ys.Pairwise (· < ·):=by
      have:=c.asc j zs hz
      rw[eu] at this
      exact(FU.mp this).1
     obtain⟨x0,r0,rfl⟩:=Hy (GS z0)
     have Y:x0<e.2:=by
      rcases Fi.mp z0 with y|y
      ·omega
      ·have:=(Hd.mp a3).1 _ y;omega
     obtain⟨qk,a1⟩:∃ q,D.qs[j]? = some q:=⟨_,E9 (by rw[J.lls.len,c.len,V];exact a2)⟩
     have tj:l.to.toNat=j:=by rw[hj,FE]
     refine tm Zt O.de.self rfl ZS ⟨D,A.A,F,A.many,b,e,l,x0,r0,rfl,O,by rw[tj];exact hy,_,rfl,cD (by rw[FX Y];rfl) ?_⟩
     refine tm Zt O.de.self rfl ZS ⟨D,A.A,F,A.many,b,e,l,x0,r0,qk,rfl,O,by rw[tj];exact hy,by rw[tj];exact a1,a3,Y,λ H5 b5 e5=>?_⟩
     have ag:A.A.eH e.1=(j:Int):=by rw[<- el,ZMX];exact hj
     refine⟨⟨_,O.de.set a1 hy b5 e5,c.set hy ZV,λ c' o' e'=>?_,?_⟩,_,rfl⟩
     ·exact b5 _ _ (by rw[Fd];exact ba (s1 _ _ e') (fq qk ZSs)) (s4 _ _ (s' _ _ e'))
     ·rw[le,c.step lo.wf.nt he z ag hy];rfl
   ·refine tm Zt J.self rfl ZS (.inr ⟨D,A.A,F,b,y,rfl,J,a5,ty,λ H4 s4=>Z6h⟩)
    rw[le,iH λ e' Z ee=>absurd (by rw[<- ee];exact Fq Z) ty];rfl
  ·rintro σ H' ⟨⟨F,J,c,s',le⟩,o,rfl⟩
   rw[nm.len,List.drop_length] at le
   subst aa
   have kk:=λ H' s'=>ZKA
   unfold gE at kk
   rw[le] at kk
   refine tm Zt J.self rfl .nil ⟨D,A.A,F,rfl,J,by rw[c.len,V];exact m2.2,c.ne,λ lr H4 s4 nl el=>?_⟩
   have U:=ZHY
   refine⟨_,rfl,eqI el ZUA Z7P⟩
   ·have z':=Gb z
    refine tcl Z1O ⟨G,L,A,n,a,ln,rfl,lo.same U,hn,SqL.of ZUA,by rw[<- z',Fe,c.len,V],λ H5 s5=>?_⟩
    have:=kk H5 (U.trans s5)
    dsimp only[dJ] at this
    rw[ZVc,Jx,z'] at this
    exact this
   ·have:=kk H4 U
    dsimp only[dJ] at this
    rw[show decide (F.map cn=ln)=false by simpa using z,Jn] at this
    exact this
def AQ (K:W.Frag) (t:Adr):Sp:=yn K t
theorem Dr (T:ZN):bR P w K mg base ZT 4 t.f_bo t.fd_bo Z3Q (AQ K t):=by
 refine T.F_bo.okN lF ZB (λ av A outer s H vs Q E hr h=>?_)
 ·obtain⟨G,L,A,n,f,fs,rfl,_⟩:=h;rfl
 ·obtain⟨G,L,A,n,f,fs,rfl,lo,hn,hf,k⟩:=h
  refine⟨_,(aW (bz (i:=2) lF.nd rfl Z6 Z3S)
   (aW (bz (i:=3) lF.nd rfl Z6 Z58)
   (aW (dD PassesOwn.never rfl Z57 (bG (i:=4) lF.nd rfl Z6)
    (aW (bz (i:=5) lF.nd rfl Z6 (bQ Ze T.cl_Loom T.me_bz ZOe Z7 T.b_bz .nil bo Z2B))
   (aW (bX (PW.pt (iE (bH ZID Z0C ZQ (by with_unfolding_all rfl)) (fG (bH (gQ (K:=K)) (bF (bD (K:=K)) (pv 3) (pv 4) (λ _ _=>rfl)) (pv 5) (by with_unfolding_all rfl)))))
    (bg (bz (i:=5) lF.nd rfl Z6 (bB fk Z01 (cg (bf (bF ZZ Z1i Z0C ZC) aZ)))))
    bM)
   (bg (bN (cQ (K:=K) FH FK FJ bW Zj (bf (bL (pR (K:=K)) rfl T.no_sorted eF Z3K) aZ)))))))
   Z41))),?_⟩
  refine sq λ ap ag=>?_
  have m2:=lo.m2
  refine⟨Z3,λ W a9=>?_⟩
  have s1:=ZId
  have e1:=aU (H:=H) (a:=W) (o:=Z0H)
  generalize upd H W (.lst [])=H1 at s1 e1 ⊢
  refine(sn ag λ aq ah=>?_:ap _ _ _)
  refine⟨_,rfl,L.p,L.dx,_,rfl,ZQv,rfl,G,L,A,n,rfl,Z3s,λ lp H2 s2 ab aj=>?_⟩
  have am:W≠lp:=λ z=>by rw[<- z,e1] at ab;cases ab
  have ax:H lp=none:=s1.free ab
  refine(sn ah λ ay ai=>?_:aq _ _ _)
  obtain⟨Pv,a5⟩:∃ Pv:Nat->St->Hp->Prop,Pv=λ i σ H'=>(∃ qs xss,qs.length=i/\Lls H' W qs xss/\bj H H'/\H' lp=some (.lst (iV (A.ths.map λ T=>(T.evs.length:Int))))/\(∀ q∈qs,H q=none/\q≠lp)/\(∀ (j:Nat) T xs,A.ths[j]? = some T->xss[j]? = some xs->AlO T (decide ((j:Int)∉fs)) xs))/\∃ o4 o5,σ=[some (.ref L.p),some (.ref f),some (.ref W),some (.ref lp),o4,o5]:=Z1_
  have af:=Z2s
  refine⟨_,rfl,L.p,_,L.dx,_,_,rfl,(lo.same af).c.self,T.cl_Loom,T.na_db,rfl,(A.many:Int),rfl,Z2,Z2,dQ (lo:=0) Pv (by rw[a5];exact⟨⟨[],[],rfl,⟨Z9X,rfl,.nil,ZA,(λ i q xs e=>by simp at e)⟩,af,aj,(λ q hq=>by cases hq),(λ j T xs _ e=>by simp at e)⟩,_,_,rfl⟩) ?_ ?_⟩
  ·intro i σ H3 hi p3
   rw[a5] at p3
   obtain⟨⟨qs,xss,Y,Z,s3,F,fr,a6⟩,o4,o5,rfl⟩:=p3
   rw[FE] at hi
   obtain⟨T0,hT⟩:∃ T,A.ths[i]? = some T:=⟨_,E9 (by rw[lo.c.len2];exact hi)⟩
   have tw:=Z72
   have ae:=lo.same s3
   show jF _ _ _ _ _
   rw[Int.zero_add]
   refine tm Zt ae.c.self rfl ZS ⟨G,L,A,n,i,T0,rfl,ae,hn,hT,λ lq O H4 s4 aw a4 po=>?_⟩
   have en:=tw.en
   have au:O.length<=31:=by
    have:∀ z∈O,0<=z/\z<31:=λ z hz=>by
     have:=ZFT
     lia
    have:=ZQ6
    lia
   have ad:atI (iV (A.ths.map λ T=>(T.evs.length:Int))) (i:Int)=some (Z25):=cW (by unfold iV;rw[Ff,Ff,hT];rfl)
   have a8:∀ (H5:Hp) (q:Addr) (U:List Int) (o4 o5:Option V),bj H4 H5->H5 q=some ZA8->U.length<64->U.Nodup->(∀ y,y∈U↔T0.pt y\/(decide ((i:Int)∉fs)=true/\y=T0.evs.length)) ->
     qe K [Z3L] H5 λ v H6=>iY ZXh [v] H6 λ _ H7=>Pv (i+1) [Z2G,Z38,some ZXh,ZML,o4,o5] H7:=λ H5 q U o4 o5 s5 eq ak nd an=>by
    have a2:=Z3k
    have ar:=s3.trans a2
    refine⟨q,U,rfl,SqL.of eq,ak,λ l J nl pm pw=>?_⟩
    have s6:=bj.new (o:=ZSI) nl
    have a3:=a2.trans s6
    have la:W≠l:=λ z=>by rw[<- z,a2 _ _ Z.self] at nl;cases nl
    refine⟨W,_,_,rfl,rfl,a3 _ _ Z.self,bE (by rw[Fe];lia),?_⟩
    have el:=aU (H:=H5) (a:=l) (o:=ZSI)
    generalize upd H5 l (.lst (iV J))=H6 at s6 a3 el ⊢
    have bl:∀ c u,c≠W->H6 c=some u->upd H6 W (.lst (qs.map V.ref++[Z8g])) c=some u:=λ c u n e=>by rw[aV n];exact e
    have ao:H l=none:=ar.free nl
    rw[a5]
    refine⟨⟨qs++[l],xss++[J],by rw[Fh,Y];rfl,Z.snoc (by rw[aU,FF];rfl) (bl _ _ (Ne.symm la) el) Z5X la λ c hc u e=>bl _ _ (λ z=>Z.ne (by rw[<- z];exact hc)) ZWo,λ c u e=>bl _ _ ZVz (a3 _ _ ZIR),bl _ _ ZR0 (a3 _ _ F),λ c hc=>?_,λ j T1 xs h1 h2=>?_⟩,_,_,rfl⟩
    ·obtain⟨j,hj,e⟩:=ZVd
     have:=Z.at' j l _ (by rw[<- e];exact ZJg) (E9 (by rw[<- Z.len];exact hj))
     rw[a2 _ _ this] at nl;cases nl
    ·rcases Fm.mp hc with z|z
     ·exact fr c z
     ·rw[Fd] at z
      subst z
      exact⟨ao,λ z=>by rw[z,a2 _ _ F] at nl;cases nl⟩
    ·have lx:xss.length=i:=by rw[<- Z.len,Y]
     rcases IL j i with g|g|g
     ·rw[F4 Z2] at h2
      exact a6 j T1 xs h1 h2
     ·rw[ZL_,g,lx,G4] at h2
      cases h2
      rw[g,hT] at h1;cases h1
      rw[g]
      exact⟨(pw.and (pm.symm.nodup nd)).imp λ h=>Z2,λ y=>by rw[pm.mem_iff];exact an y⟩
     ·rw[Gr (by rw[Fh,Fy];lia)] at h2;cases h2
   have aa:O.Nodup:=po.1.imp λ h=>Z2
   have fl:∀ {fs:List Int},(ZNd).all fz=true:=by intro fs;unfold iV;rw[Jj];exact Z4M
   have a1:((i:Int)∈fs\/(T0.evs.length:Int)∈O)->∀ y,y∈O↔T0.pt y\/(decide ((i:Int)∉fs)=true/\y=T0.evs.length):=λ h y=>by
    rw[po.2 y]
    refine⟨.inl,λ z=>z.elim id λ z=>?_⟩
    rcases h with h|h
    ·exact absurd h (Gb z.1)
    ·rw[z.2];exact(po.2 _).mp h
   have a7:=s4 _ _ Z.self
   refine⟨_,rfl,_,rfl,f,ZNd,rfl,.inl ((Z5Z).seq hf),rfl,fl,_,rfl,Z0G⟩
   ·rw[Z1U,fQ] at z
    have z':(i:Int)∉fs:=by simpa using z
    refine⟨_,rfl,_,rfl,lp,_,i,_,rfl,rfl,ZJ_,ad,_,rfl,lq,iV O,rfl,.inl ZLH,rfl,fl,_,rfl,Z3t⟩
    ·rw[Z1U,fQ] at z2
     have z3:(T0.evs.length:Int)∉O:=by simpa using z2
     refine⟨_,rfl,_,rfl,_,rfl,lp,_,i,_,rfl,rfl,ZJ_,ad,by show 1<=sizeLine;decide,λ c nc=>⟨lq,c,_,_,rfl,rfl,bj.new nc _ _ a4,aU,?_,λ q nq=>?_⟩⟩
     ·rw[cO];show O.length+1<=sizeLine;exact FC (show O.length+1<=1000 by lia) Z3
     ·have s5:=(bj.new (o:=.lst [ZHi]) nc).trans (bj.new (o:=.lst (iV O++[ZHi])) nq)
      refine⟨_,rfl,.inl ⟨rfl,_,SqL.of (s5 _ _ a7)⟩,_,rfl,a8 _ q (O++[(T0.evs.length:Int)]) _ _ s5 (by rw[aU,iU]) (by rw[Fh,Fy];lia) ?_ λ y=>?_⟩
      ·rw[GC]
       refine⟨aa,Zq,λ a ha b hb=>?_⟩
       rw[Fd] at hb
       exact λ z=>z3 (by rw[<- hb,<- z];exact ha)
      ·rw[Fm,Fd,po.2 y,ZVc];simp
    ·rw[Z1U,fQ] at z2
     exact⟨_,rfl,ZDE,_,rfl,a8 H4 lq O _ _ Z4p a4 Z2 aa (a1 (.inr (by simpa using z2)))⟩
   ·rw[Z1U,fQ] at z
    exact iy ⟨_,rfl,ZDE,_,rfl,a8 H4 lq O _ _ Z4p a4 Z2 aa (a1 (.inl (by simpa using z)))⟩
  ·intro σ H3 p3
   rw[a5] at p3
   obtain⟨⟨qs,xss,Y,Z,s3,F,fr,a6⟩,o4,o5,rfl⟩:=p3
   rw[FE] at Y
   subst ai
   exact⟨_,rfl,k W qs xss H3 s3 a9 ZFb Z (by rw[<- Z.len,Y]) a6⟩
def BrO (A:DiA) (H:Hp) (v:V) (e:Nm3×Int):Prop:=∃ b c,v=.ref b/\H b=some (.tup [Z6X,ZXK,ZBi])/\H c=some ZM7
noncomputable def fO (H:Hp) (v:V):Nm3×Int:=match v with
 | .ref b=>match H b with
  | some (.tup [c,_,.int p])=>(eJ H c,p)
  | _=>((0,0,0),0)
 | _=>((0,0,0),0)
theorem BrO.of (h:ZSA):fO H v=e:=by
 obtain⟨b,c,rfl,h1,h2⟩:=h
 unfold fO
 simp only[h1]
 rw[d6.of ZDL]
structure BrL (A:DiA) (H:Hp) (ls:List V) (es:List (Nm3×Int)):Prop where
 eq:ls.map (fO H)=es
 all:∀ v∈ls,BrO A H v ZP0
section
variable {A:DiA}{H H':Hp}{ls:List V}{es:List (Nm3×Int)}{v:V}{e:Nm3×Int}
theorem BrL.nil:BrL A H [] []:=⟨rfl,λ v F=>by cases F⟩
theorem BrL.len (h:Z3G):ls.length=es.length:=by rw[<- h.eq,Fe]
theorem BrL.keep (h:Z3G) (s:∀ b xs,H b=some Zb->H' b=some Zb):BrL A H' ls es:=by
 have z:∀ v∈ls,BrO A H' v ZP0:=λ v F=>let ⟨b,c,e,h1,h2⟩:=Z6Q;⟨b,c,e,ZWT,ZWS⟩
 have e:∀ v∈ls,fO H' v=fO H v:=λ v F=>ZTz
 exact⟨by rw[<- h.eq];exact FY e,λ v F=>by rw[e v F];exact z v F⟩
theorem BrL.snoc (h:Z3G) (i:ZSA):BrL A H (ls++[v]) (es++[e]):=by
 refine⟨by rw[FF,h.eq,He,i.of],λ u F=>?_⟩
 rcases Fm.mp F with F|F
 ·exact ZUq
 ·rw[Fd] at F
  rw[F,i.of];exact i
theorem BrL.perm (h:Z3G) (p:ZHa):BrL A H ls' (ZMO)/\(ZMO).Perm es:=⟨Z70,by rw[<- h.eq];exact p.map _⟩
theorem BrL.small (h:Z3G) (J:∀ e∈es,ZGB):∀ v∈ls,BrN H v:=λ v F=>by
 obtain⟨b,c,e,h1,h2⟩:=Z6Q
 have:=J ZP0 (by rw[<- h.eq];exact Fq F)
 exact⟨b,c,_,_,_,_,_,e,h1,h2,this⟩
theorem BrL.lK (h:Z3G):ls.map (rkB H)=(es.map (·.1)).map cd3:=by
 rw[<- h.eq,F9,F9]
 refine FY λ v F=>?_
 obtain⟨b,c,e,h1,h2⟩:=Z6Q
 have r:rkB H v=rk3 H (Z6X):=by rw[e];unfold rkB;simp only[h1]
 rw[r,d6.rk ZDL];rfl
end
def yh (K:W.Frag) (t:Adr):Sp:=λ vs H Q _=>∃ G L A n a ln,vs=[Zg,ZY]/\Lo K t G H L A n/\n<=30/\SqL K H a ZCl/\ln.length=A.many /\
 ∀ l ls es H',bj H H'->H l=none->H' l=some Z2P->BrL A.A H' ls es->es.Perm (A.A.ta.filter Z6z)->Q Zv H'
theorem mh (T:ZN):bR P w K mg base ZT 2 t.f_cc t.fd_cc Z4z ZXQ:=by
 refine T.F_cc.okN nN ZB (λ am A outer s H vs Q E hr h=>?_)
 ·obtain⟨G,L,A,n,a,ln,rfl,_⟩:=h;rfl
 ·obtain⟨G,L,A,n,a,ln,rfl,lo,hn,ha,hl,k⟩:=h
  refine⟨_,(aW (bz (i:=2) nN.nd rfl Z6 Z08)
   (aW (bz (i:=3) nN.nd rfl Z6 Z3S)
   (aW (dD PassesOwn.never rfl (uh Z0Z) (fb (K:=K) rfl (cq (bG (i:=4) nN.nd rfl Z6) (cq (bG (i:=5) nN.nd rfl Z6) fi)))
    (bg (bX (PW.pt (iE (bH rK Z01 (bF ZZ ZQ Z4b ZC) Z0F) (fG (bH jr (bF ZZ ZQ ZAd ZC) ZAd Z0F))))
    (bg (bN (cQ (K:=K) FH FK FJ bW Z1i (bf (cE (bf Z0C (bf Z4b Z3K))) aZ))))
    bM)))
   (bg (bC (bL (pY (K:=K) hr.units) rfl T.no_sorted eF Z3J)))))),?_⟩
  refine⟨_,rfl,L.p,L.dx,_,rfl,lo.c.self,rfl,G,L,A,n,rfl,lo,hn,λ ds H1 s1 ap e1=>?_⟩
  have aj:=Z3s
  refine⟨Z3,λ U ae=>?_⟩
  have s2:=bj.new (o:=Z0H) ae
  have a1:=aU (H:=H1) (a:=U) (o:=Z0H)
  have W:=Z9X
  have a6:=aj.same s2
  have af:=Z2s
  have ad:H U=none:=s1.free ae
  generalize upd H1 U (.lst [])=H2 at s2 a1 W a6 af ⊢
  refine⟨_,rfl,L.p,L.dx,_,rfl,a6.c.self,rfl,G,L,A,n,rfl,a6,hn,λ du H3 s3 a7 e3=>⟨du,_,rfl,.inl ⟨e3,λ o=>?_⟩⟩⟩
  obtain⟨al,ah⟩:=ZUa
  have s4:bj H2 (upd H3 du (.frz o (.dT (A.A.ta.map λ e=>(Z0p,Zw))))):=λ c u e=>by
   rw[aV (ba e a7)];exact ZIR
  have aa:=aU (H:=H3) (a:=du) (o:=.frz o (.dT (A.A.ta.map λ e=>(Z0p,Zw))))
  generalize upd H3 du (.frz o (.dT (A.A.ta.map λ e=>(nk e.1,V.int e.2))))=H4 at s4 aa ⊢
  have ag:=af.trans s4
  have df:du≠U:=λ z=>by rw[z,a1] at a7;cases a7
  have sf:ds≠U:=λ z=>by rw[z,a1] at W;cases W
  have mt:(A.A.ta.map λ e=>(Z0p,Zw)).length=A.A.ta.length:=Fe _
  refine sZ (kvs:=A.A.ta.map λ e=>(Z0p,Zw)) (λ i σ H5=>(∃ ys ns,H5 U=some Z03/\BrL A.A H5 ys ns/\ns=(ZOU).filter Z6z)/\(∀ c u,c≠U->H4 c=some u->H5 c=some u)/\∃ o4 o5,σ=[Z2G,Z7S,ZDN,some ZXi,o4,o5])
   ⟨⟨[],[],s4 _ _ a1,.nil,rfl⟩,λ _ _ _ e=>e,_,_,rfl⟩ ?_ ?_ ?_
  ·rintro i σ H5 _ ⟨_,fr,_⟩
   exact fr _ _ df aa
  ·rintro i p b kk v σ H5 hx np hb ⟨⟨ys,ns,f1,f2,f3⟩,fr,o4,o5,rfl⟩
   obtain⟨x,a5,rfl,rfl⟩:∃ x,A.A.ta[i]? = some x/\kk=nk x.1/\v=.int x.2:=by
    rw[Ff] at hx
    cases e:A.A.ta[i]? with
    | none=>rw[e] at hx;cases hx
    | some x=>rw[e] at hx;cases hx;exact⟨x,rfl,rfl,rfl⟩
   have ao:i<90:=by have:=(Fc.mp a5).1;lia
   have xm:=Fg a5
   obtain⟨_,l,O,el⟩:=ah x xm
   have v1:cf (A.A.po.map λ l=>(Z0t,Z04)) (ZKr)=some (Z2L):=by
    rw[<- el]
    exact cK (λ l:cV=>Z0t) Z5m Z1u O
   have rg:=ZPz
   have s6:=bj.new (o:=Z9l) np
   have pp:=aU (H:=H5) (a:=p) (o:=Z9l)
   have a3:=s6 _ _ hb
   have J:=ZUQ
   have F:∀ c u,c≠U->H4 c=some u->upd H5 p Z9l c=some u:=λ c u nc e=>s6 _ _ (fr c u nc e)
   have a2:=f2.keep λ c xs e=>ZIQ
   generalize upd H5 p (.tup [.ref b,.int x.2])=H6 at s6 pp a3 J F a2 ⊢
   have a4:bj H H6:=λ c u e=>F c u ZM2 ZU8
   have Y:H6 b=some (.tup (nV x.1)):=a3
   have aq:ys.length<=i:=by
    rw[f2.len,f3]
    exact FC Z68 (by rw[F0];lia)
   have u1:A.A.dM ln x=decide (x.2<=cw ln l.to):=by unfold DiA.dM;rw[<- el,ZNg]
   have Z:(A.A.ta.take (i+1)).filter Z6z=(ZOU).filter Z6z++(if A.A.brkE ln x=true then [x] else []):=by
    rw[GB,a5,GU]
    congr 1
    show List.filter Z6z [x]=_
    rw[GW];rfl
   rw[el] at rg
   refine⟨p,_,rfl,SqT.of pp,rfl,_,_,rfl,_,_,rfl,rfl,?_⟩
   refine⟨_,rfl,_,rfl,_,rfl,_,rfl,ds,Z2L,rfl,Z4S,l.adr,_,0,Z4R,rfl,rfl,Z5q,rfl,a,_,_,_,rfl,rfl,ZV7,ZWe,_,_,rfl,rfl,_,rfl,Z0G⟩
   ·refine⟨_,rfl,_,rfl,b,_,0,.int x.1.1,rfl,rfl,ZWr,rfl,a,_,_,_,rfl,rfl,ZV7,ZWe,_,rfl,b,_,1,.int x.1.2.1,rfl,rfl,ZWr,rfl,_,_,rfl,rfl,_,rfl,ZL5⟩
    ·have to:A.A.eH x.1=l.to:=by rw[<- el,ZNg]
     refine⟨_,rfl,.inl ⟨rfl,_,ZNw⟩,_,rfl,_,rfl,_,rfl,ds,Z2L,rfl,Z4S,l.adr,_,0,Z4R,rfl,rfl,Z5q,rfl,_,rfl,by show 3<=sizeLine;decide,λ q nq=>⟨U,ys,Z3L,rfl,rfl,bj.new nq _ _ J,ZJR,?_⟩⟩
     have s7:=bj.new (o:=ZF_) nq
     have a8:=aU (H:=H6) (a:=q) (o:=ZF_)
     have a9:=s7 _ _ J
     generalize upd H6 q (.tup [.ref b,.int l.to,.int x.2])=H7 at s7 a8 a9 ⊢
     have tk:∀ c xs,H7 c=some Zb->upd H7 U (.lst (ys++[Z3L])) c=some Zb:=λ c xs e=>by rw[aV (λ q=>by rw[q,a9] at e;cases e)];exact e
     refine⟨⟨_,_,aU,((a2.keep λ c xs e=>ZBX).snoc ⟨q,b,rfl,by rw[to];exact a8,s7 _ _ Y⟩).keep tk,?_⟩,λ c u nc e=>by rw[ZJS];exact s7 _ _ (F c u nc e),_,_,rfl⟩
     rw[Z,f3,Fl]
     have y:=Gb y
     unfold DiA.brkE
     rw[u1,z]
     unfold iA
     simp only[Jx,Hi,Gs]
     lia
    ·refine Z8q
     rw[Z,f3,Fj,Gf]
     unfold DiA.brkE
     rw[u1,z]
     unfold iA
     have y:¬ (cw ln x.1.1<x.1.2.1):=λ q=>y (FX q)
     simp only[Jx,Hi,Gs]
     lia
   ·refine Z8q
    rw[Z,f3,Fj,Gf]
    unfold DiA.brkE
    rw[u1,Ip z]
    simp
  ·rintro σ H5 ⟨⟨ys,ns,f1,f2,f3⟩,fr,o4,o5,rfl⟩
   rw[mt,Hb] at f3
   have sm:∀ e∈ns,ZGB:=λ e he=>by
    rw[f3] at he
    exact(ah e (ZXA).1).1
   have nd:(ns.map (·.1)).Nodup:=by
    rw[f3]
    exact ZBD
   have an:ns.length<=90:=by
    rw[f3]
    exact FC Z68 al
   have ak:∀ n∈ns.map (·.1),ZHk:=λ n ai=>by
    obtain⟨e,he,rfl⟩:=Fw.mp ai
    exact sm e he
   refine⟨_,rfl,U,ys,rfl,SqL.of f1,by rw[f2.len];lia,f2.small sm,by rw[f2.lK];exact dY nd ak,λ l ab nl pm _=>?_⟩
   obtain⟨b1,b2⟩:=f2.perm pm
   have s6:=bj.new (o:=.lst ab) nl
   have s5:bj H H5:=λ c u e=>fr c u ZM2 ZU8
   exact k l ab _ _ ZBz (s5.free nl) aU (b1.keep λ c xs e=>ZIQ) (by rw[<- f3];exact b2)
def AwO (A:LoA) (xss:ZHp):Prop:=xss.length=A.many/\Cut xss xss/\∀ xs∈xss,xs.length<=900/\∀ y∈xs,0<=y/\y<=30
theorem Lo.awO {G H:Hp}{L:LoL}{A:LoA}{n:Nat}{fs:ZU}{xss:Z6T}(lo:Z07) (hn:n<=30) (Y:∀ i:Nat,i<A.many->A.b i=0) (J:xss.length=A.many)
  (O:∀ (i:Nat) T xs,A.ths[i]? = some T->xss[i]? = some xs->AlO T (decide ((i:Int)∉fs)) xs):Z7p:=by
 refine⟨J,lo.CS Y J O,λ xs Z=>?_⟩
 obtain⟨i,h⟩:=HG Z
 have hi:i<A.many:=by rw[<- J];exact Z36
 obtain⟨T,U⟩:∃ T,A.ths[i]? = some T:=⟨_,E9 (by rw[lo.c.len2];exact hi)⟩
 have W:=lo.tw T (Fg U)
 have en:=W.en
 have a:=O i T xs U h
 have V:∀ y∈xs,0<=y/\y<=30:=λ z F=>by
  have:=((a.iff z).mp F).rg W
  omega
 have:=jN (a:=0) (b:=31) a.1 λ z F=>by
  have:=V z F
  omega
 exact⟨ZV,V⟩
theorem j6 (ll:Lls H al qs xss) (a1:xss.length<=5) (ne:∀ xs∈xss,xs≠[]) (hi:i=σ.length)
  (hq:∀ acc H',H acc=none->bj H H'->H' acc=some ZNE->Q Z17 H'):fZ (Itl K al) 1 ZEW ki (tOp ZQj ZCm (tUn (rU λ i=>V.int (-i)) Z6G)) σ H Q:=by
 subst hi
 have lq:(ZAo).length=xss.length:=by rw[Fe,ll.len]
 refine dE (xs:=ZAo) Z2 λ acc F=>⟨λ i J ys H2=>ys=iV ((ZT2).map cn)/\H2 acc=some Z03/\bj H H2/\∃ o,J=σ++[o],Z2q,?_,?_,?_⟩
 ·rintro i J ys H2 hi ⟨rfl,_,U,_⟩
  refine⟨SqL.of (U _ _ ll.self),?_⟩
  rw[cO,Fe,F0];lia
 ·rintro i v J ys H2 hi Y ⟨rfl,Z,U,o,rfl⟩
  obtain⟨q,hq,rfl⟩:∃ q,qs[i]? = some q/\v=.ref q:=by
   rw[Ff] at Y
   cases e:qs[i]? with
   | none=>rw[e] at Y;cases Y
   | some q=>rw[e] at Y;cases Y;exact Z7O
  obtain⟨xs,O⟩:∃ xs,xss[i]? = some xs:=Z9T
  obtain⟨zs,z,ez⟩:=dR (ne xs ZR1)
  have W:=U _ _ (ll.at' i q xs hq O)
  rw[ez,ip] at W
  dsimp only[dq,ki]
  rw[gK]
  refine f9 ⟨_,fC,1,rfl,q,_,-1,ZVk,rfl,rfl,ZNv,fA,Z,Z0l⟩
  ·rw[GB,O,ez]
   show _=iV (((ZT2)++[zs++[z]]).map cn)
   rw[FF,He,gW,ip]
  ·rw[Z2w];exact ZRg
 ·rintro J ys H2 ⟨rfl,Z,U,o,rfl⟩
  rw[Hn Z2] at Z
  exact hq acc H2 F U Z
theorem nE (ha:SqL K H a (iV xs)) (a1:xs.length<=900) (hi:i=σ.length)
  (ht:∀ x H2,bj H H2->∀ R:Bool->Hp->Prop,R (decide (x<p)) H2->tc (σ++[ZWJ]) H2 R)
  (hq:∀ acc H',H acc=none->bj H H'->H' acc=some (.lst (iV (xs.filter λ y=>decide (y<p))))->Q Z17 H'):fZ Z94 1 ZEW tc ZCm σ H Q:=by
 subst hi
 refine dE (xs:=iV xs) (by rw[cO];lia) λ acc F=>⟨λ j O ys H2=>ys=iV ((ZFo).filter λ y=>decide (y<p))/\H2 acc=some Z03/\bj H H2/\∃ Z,O=σ++[Z],Z2q,?_,?_,?_⟩
 ·rintro j O ys H2 W ⟨rfl,V,U,_⟩
  refine⟨U.seq ha,?_⟩
  rw[cO]
  exact FC Z68 (by rw[F0];lia)
 ·rintro j v O ys H2 W hx ⟨rfl,V,U,Z,rfl⟩
  obtain⟨x,rfl,Y⟩:=pQ hx
  show tc ((σ++[Z]).set σ.length ZWJ) H2 _
  rw[gK]
  have J:(xs.take (j+1)).filter (λ y=>decide (y<p))=(ZFo).filter (λ y=>decide (y<p))++(if decide (x<p)=true then [x] else []):=by
   rw[GB,Y,GU]
   congr 1
   show List.filter _ [x]=_
   rw[GW];rfl
  refine ht x H2 U _ ?_
  cases z:decide (x<p) with
  | true=>
   rw[Z1U]
   refine⟨_,fC,V,Nx.mk W Z2S⟩
   ·rw[J,ZDY,ip]
   ·rw[Z2w];exact ZRg
  | false=>
   rw[ZV_]
   exact Nx.mk W ⟨by rw[J,Fj (by rw[z];exact Fv),Gf],V,U,_,rfl⟩
 ·rintro O ys H2 ⟨rfl,V,U,_⟩
  rw[cO,Hb] at V
  exact hq acc H2 F U V
theorem zd (a b:Nm3):PyData.eqv Z7H (.tuple [.int b.1,.int b.2.1,.int b.2.2])=decide (a=b):=by
 have:=W.ked_eqvAll ZJT [b.1,b.2.1,b.2.2]
 refine Eq.trans this (Hr.mpr ⟨λ h=>?_,λ h=>by rw[h]⟩)
 injection h with h1 h2
 injection h2 with h2 F
 injection F with F _
 exact Prod.ext h1 (Prod.ext h2 F)
theorem mJ {a:Nm3}:okD 2 Z7H:=.tuple (n:=1) λ d F=>gy (ns:=ZJT) d F
theorem eqT {H:Hp}{a b:Addr}{x y:Nm3}{Q:VK}(F:H a=some ZPD) (J:H b=some ZA7) (q:Q (.bl (decide (x=y))) H):ZH2:=by
 refine⟨_,_,d6.rp ⟨a,rfl,F⟩,d6.rp ⟨b,rfl,J⟩,ZPy,ZPy,?_⟩
 rw[ZAU,zd];exact q
noncomputable def brD (A:DiA) (e:Nm3×Int):PyData:=.tuple [.tuple [.int e.1.1,.int e.1.2.1,.int e.1.2.2],ZXK,ZBi]
theorem BrL.rp:∀ {ls:List V}{es:List (Nm3×Int)},BrL A H ls es->dj K H ls ZBP
 | [],_,h=>by
  have:=h.eq
  cases this
  exact .nil
 | v::ls,_,h=>by
  have e:=h.eq
  rw[FL] at e
  rw[<- e,FL]
  obtain⟨b,c,F,h1,h2⟩:=ZTJ
  refine .cons ?_ (BrL.rp Z9G)
  generalize fO H v=x at h1 h2 ⊢
  rw[F]
  exact .tup ZLF (.cons (d6.rp ZDL) Z8I)
theorem uG {A:DiA}{es:List (Nm3×Int)}:okD 4 ZSx:=.list (n:=3) λ d hd=>by
 obtain⟨e,_,rfl⟩:=ZX7
 refine .tuple (n:=2) λ d hd=>?_
 rcases Fi.mp hd with rfl|hd
 ·exact mJ
 ·exact gy (ns:=[Z9k,e.2]) d hd
theorem eqE {A:DiA}{H:Hp}{F:Bool}{a b:Addr}{ls:Z11}{es:List (Nm3×Int)}{Q:VK}(O:H a=some Z2P) (J:Z3G) (U:H b=some Z0H) (q:Q (.bl (if F then !es.isEmpty else es.isEmpty)) H):hV K F ZY Za H Q:=by
 refine⟨_,ZXG,.lst Z87 J.rp,.lst ZWu .nil,uG.shaped Z3,(uG (A:=A) (es:=[])).shaped Z3,?_⟩
 rw[show PyData.eqv ZSx (ZXG)=es.isEmpty by cases es<;>rfl]
 exact q
theorem uT (ha:H a=some Z2P) (br:Z3G) (a3:ls.length<=900) (hi:i=σ.length) (hn:H nb=some Z3I) (hj:∀ o,(σ++[o])[j]? = some (some (.ref nb)))
  (hq:∀ acc a1 H',H acc=none->bj H H'->H' acc=some (.lst a1)->BrL A H' a1 (es.filter λ e=>decide (e.1=n))->Q Z17 H'):fZ Z94 1 ZEW (i5 (tOp ZB3 (tOp (xB K) ZCm ZFq) (cu j))) ZCm σ H Q:=by
 subst hi
 have a2:=br.len
 refine dE (xs:=ls) Z2 λ acc F=>⟨λ k U ys H2=>BrL A H2 ys ((ZUw).filter λ e=>decide (e.1=n))/\H2 acc=some Z03/\bj H H2/\∃ ov,U=σ++[ov],ZBU,?_,?_,?_⟩
 ·rintro k U ys H2 hk ⟨W,Y,J,_⟩
  refine⟨SqL.of (J _ _ ha),?_⟩
  rw[W.len]
  exact FC Z68 (by rw[F0];lia)
 ·rintro k v U ys H2 hk hx ⟨W,Y,J,ov,rfl⟩
  obtain⟨b,c,rfl,h1,h2⟩:=br.all v ZFK
  have Z:es[k]? = some (fO H Za):=by rw[<- br.eq,Ff,hx];rfl
  generalize fO H (.ref b)=x at Z h1 h2
  show (i5 _) ((σ++[ov]).set σ.length Z6j) H2 _
  rw[gK]
  have O:(es.take (k+1)).filter (λ e=>decide (e.1=n))=(ZUw).filter (λ e=>decide (e.1=n))++(if decide (x.1=n)=true then [x] else []):=by
   rw[GB,Z,GU]
   congr 1
   show List.filter _ [x]=_
   rw[GW];rfl
  refine⟨_,fC,b,_,0,Z6X,rfl,rfl,SqT.of ZOA,rfl,_,hj _,eqT ZX0 (J _ _ hn) Z3T⟩
  cases z:decide (x.1=n) with
  | true=>
   rw[Z1U]
   refine⟨_,fC,Y,Nx.mk hk Z2S⟩
   ·rw[O,ZDY]
    exact(W.snoc ⟨b,c,rfl,ZOA,ZX0⟩).keep λ c a4 e=>by rw[aV (λ y=>by rw[y,Y] at e;cases e)];exact e
   ·rw[Z2w];exact ZRp
  | false=>
   rw[ZV_]
   exact Nx.mk hk ⟨by rw[O,Fj (by rw[z];exact Fv),Gf];exact W,Y,J,_,rfl⟩
 ·rintro U ys H2 ⟨W,Y,J,_⟩
  rw[a2,Hb] at W
  exact hq acc ys H2 F J Y W
theorem pG (F:xs.Pairwise (· < ·)) (h:oa xs m):m=cn xs:=by
 have h1:=gO F h.1
 have h2:=h.2 _ (gN (GS h.1))
 lia
theorem qi:(iV ln).set j (Z4Q)=iV Z7t:=by unfold iV;rw[List.map_set]
theorem Lls.atq {H:Hp}{l:Addr}{F:Z09}{xss:Z6T}{u:Int}{j:Nat}(W:ZO6) (Y:u=(j:Int)) (J:j<xss.length):∃ q xs,xss[j]? = some xs/\atI ZPB u=some (Z3L)/\H q=some Z8p:=by
 obtain⟨q,O⟩:∃ q,F[j]? = some q:=⟨_,E9 (by rw[W.len];exact J)⟩
 obtain⟨xs,U⟩:∃ xs,xss[j]? = some xs:=⟨_,E9 J⟩
 exact⟨q,xs,U,by rw[Y];exact cW (by rw[Ff,O];rfl),W.at' j q xs O U⟩
theorem mZ {n j:Nat}{u:Int}(F:u=(j:Int)) (h:j<n):ixN n u=some j:=by
 unfold ixN
 rw[F,Fl ZV,Fl ZV,FE]
theorem Lo.eH (lo:Z07) (U:e∈A.A.ta):∃ j:Nat,A.A.eH e.1=(j:Int)/\j<A.many/\1<=e.2:=by
 obtain⟨l,F,O,J,_⟩:=ZQ2
 have W:=ZFv
 obtain⟨j,V⟩:=FR W.2.2.2.2.2.2.1
 exact⟨j,by rw[<- O,eU lo.wf.nd F];exact V,Z2,J⟩
theorem AwO.down {A:LoA}{xss:Z6T}{j:Nat}{xs:ZU}{p:Int}(a:Z7p) (F:xss[j]? = some xs) (h:1<=p):(xs.filter λ y=>decide (y<p))≠[]/\(xs.filter λ y=>decide (y<p)).Pairwise (· < ·)/\xs.length<=900:=
 ⟨GS (FN.mpr ⟨(a.2.1.at' j xs xs F F).2,by simp;omega⟩),(a.2.1.asc j xs F).sublist Iu,(ZLB).1⟩
def AH (K:W.Frag) (t:Adr):Sp:=λ vs H Q _=>∃ G L A n al qs xss p pls ns,vs=[Zg,ZCa,Z00]/\Lo K t G H L A n/\n<=30/\Lls H al qs xss/\AwO A xss/\H p=some Z6b/\NmL H pls ns /\
 (∀ H',bj H H'->dJ A.A xss ns Zs=none->Q .non H')/\∀ l ln H',bj H H'->H l=none->H' l=some Z1n->ln.length=A.many->dJ A.A xss ns Zs=some ln->Q Zv H'
theorem Bw (T:ZN):bR P w K mg base ZT 3 t.f_cz t.fd_cz Z1Y (AH K t):=by
 refine T.F_cz.okN rH ZB (λ ao A outer s H vs Q E hr h=>?_)
 ·obtain⟨G,L,A,n,al,qs,xss,p,a7,ns,rfl,_⟩:=h;rfl
 ·obtain⟨G,L,A,n,al,qs,xss,p,a7,ns,rfl,lo,hn,ll,aw,hp,nm,k1,k2⟩:=h
  refine⟨_,(aW (dP ["_law_loom_here","_law_allowed_here","_law_paper_here","_law_reached","_law_name","_law_some","_law_points"] 1 (i:=3) rfl rH.nd rfl Z6 ZDs (λ _ _ _ _ _=>⟨(bG (i:=6) (show List.Nodup (["_law_loom_here","_law_allowed_here","_law_paper_here","_law_reached","_law_name","_law_some","_law_points"]:Zo) from ZF) rfl Z6),dI,(bF ZZ Z2E Z6Y ZC)⟩))
   (aW (dD PassesOwn.never rfl (cA (K:=K) Zj) (bG (i:=4) rH.nd rfl Z35)
    (aW (bz (i:=5) rH.nd rfl Z35 (dA ["_law_loom_here","_law_allowed_here","_law_paper_here","_law_reached","_law_name","_law_some","_law_one"] 1 rfl (cA (K:=K) Z0f) (λ _ _ _ _ _=>⟨(bG (i:=6) (show List.Nodup (["_law_loom_here","_law_allowed_here","_law_paper_here","_law_reached","_law_name","_law_some","_law_one"]:Zo) from ZF) rfl Z6),(fW (bH Z2F (bF Zp Z2E bh ZC) Z0C Z0F)),Z2E⟩)))
   (aW (bX (bH Z2F Z01 Z3S Z0F)
    ZQr
    bM)
   (bg (jg (bL ZLq rfl T.no_max vF (bf (dA ["_law_loom_here","_law_allowed_here","_law_paper_here","_law_reached","_law_name","_law_some","_law_point"] 1 rfl (cA (K:=K) (bF ZZ ZQ Z4r ZC)) (λ _ _ _ _ _=>⟨(bG (i:=6) (show List.Nodup (["_law_loom_here","_law_allowed_here","_law_paper_here","_law_reached","_law_name","_law_some","_law_point"]:Zo) from ZF) rfl Z6),(fW (bH jr Z2E Z4r Z0F)),Z2E⟩)) aZ)) (pM Z1i Z4r set_list))))))
   (bg (bC Z1i)))),?_⟩
  refine sq λ ak ad=>?_
  have m2:=lo.m2
  have lx:=aw.1
  refine Z0Y
  refine(sn ad λ ar ae=>?_:ak _ _ _)
  refine⟨_,rfl,p,rfl,⟨_,SqL.of ZKo⟩,i6 (xs:=a7) (λ i σ H'=>(∃ U,H' r=some ZA8/\U.length=A.many/\bj H H'/\dJ A.A xss ns Zs=dJ A.A xss ZIA U)/\∃ o4 o5,σ=[Z2G,Z3U,Z5z,ZEi,o4,o5]) ⟨⟨_,e1,by rw[Fe,lx],s1,by rw[List.drop_zero]⟩,_,_,rfl⟩ ?_ ?_ ?_⟩
  ·rintro i σ H' _ ⟨⟨_,_,_,s',_⟩,_⟩
   exact ZIf
  ·rintro i x σ H' hx ⟨⟨U,er,J,s',W⟩,o4,o5,rfl⟩
   obtain⟨b,rfl,hb⟩:=ZPx
   have ex:ns[i]? = some ZVu:=by rw[<- nm.eq,Ff,hx];rfl
   generalize eJ H (.ref b)=y at hb ex
   rw[nY ex] at W
   refine tcl Z1O ⟨G,L,A,n,r,U,rfl,lo.same s',hn,ZVF,J,λ lb ls es H4 s4 aq a2 br pm=>?_⟩
   have a8:=ZHY
   have af:ls.length<=900:=by
    rw[br.len,pm.length_eq]
    have:=(ZIW).1
    exact FC Z68 ZV
   refine⟨lb,rfl,⟨_,ZLI⟩,uT a2 br af rfl (a8 _ _ hb) (λ o=>rfl) λ acc ai H5 an s5 e5 ab=>?_⟩
   have am:=a8.trans s5
   refine⟨_,rfl,Z3,λ c nc=>?_⟩
   have s6:=ZIc
   have Z:=s6 _ _ e5
   have F:=ab.keep (H':=upd H5 c Z0H) λ c xs e=>ZIQ
   have a1:=aU (H:=H5) (a:=c) (o:=Z0H)
   have O:=am.trans s6
   have a3:=(ZN9) _ _ er
   generalize upd H5 c (.lst [])=H6 at s6 Z F a1 O a3 ⊢
   have a6:∀ e:Nm3×Int,e∈es.filter (λ e=>decide (e.1=y))↔e∈A.A.ta/\A.A.brkE U e=true/\e.1=y:=λ e=>by
    rw[FN,pm.mem_iff,FN,F3,and_assoc]
   refine eqE Z F a1 Z7P
   ·refine k1 H6 O ?_
    rw[W,iH λ e he ee=>?_]
    ·rfl
    ·cases zz:A.A.brkE U e with
     | false=>rfl
     | true=>
      have:=(a6 e).mpr ⟨he,zz,ee⟩
      rw[List.isEmpty_iff.mp z] at this;cases this
   ·have ne:ai≠[]:=λ w=>by
     have:=F.eq
     rw[w] at this
     rw[<- this] at z
     exact z rfl
    obtain⟨v,vr,rfl⟩:=Hy ne
    obtain⟨V,c2,rfl,h1,h2⟩:=F.all v Fn
    have hm:fO H6 (ZQ_)∈es.filter (λ e=>decide (e.1=y)):=by rw[<- F.eq];exact Fq Fn
    generalize fO H6 (.ref V)=e at h1 h2 hm
    obtain⟨he,ag,ee⟩:=(a6 e).mp hm
    obtain⟨j,hj,jm,e1⟩:=ZNX
    obtain⟨q,xs,a5,aa,hq⟩:=(ZUb).atq hj (by rw[lx];exact jm)
    obtain⟨aj,a9,a4⟩:=aw.down a5 e1
    have ah:=ZUb
    refine⟨_,rfl,_,rfl,acc,_,0,ZQ_,rfl,rfl,ZNu,cp,V,_,1,ZJm,rfl,rfl,ZLF,rfl,al,_,_,Z3L,rfl,rfl,SqL.of ah.self,aa,q,rfl,ZHQ,nE (p:=e.2) Z9f a4 rfl (λ x H2 s2 R hR=>⟨_,rfl,_,rfl,acc,_,0,ZQ_,rfl,rfl,SqL.of (s2 _ _ Z),cp,V,_,2,ZBi,rfl,rfl,SqT.of (s2 _ _ h1),rfl,_,_,rfl,rfl,_,rfl,hR⟩) λ Y H7 ap s7 e7=>?_⟩
    refine⟨Y,_,rfl,ZVH,aj,λ m tp=>?_⟩
    refine⟨_,rfl,_,rfl,acc,_,0,ZQ_,rfl,rfl,SqL.of (s7 _ _ Z),cp,V,_,1,ZJm,rfl,rfl,SqT.of (s7 _ _ h1),rfl,r,_,_,j,rfl,rfl,s7 _ _ a3,mZ hj (by rw[cO,J];exact jm),?_⟩
    rw[qi]
    refine⟨⟨U.set j m,aU,by rw[GK];exact J,λ c' u e'=>?_,?_⟩,_,_,rfl⟩
    ·rw[aV (ba e' nr)];exact s7 _ _ (O _ _ e')
    ·rw[W,<- ee,iz lo.wf.nt he ag (xs:=xs) (by rw[hj,FE];exact a5),hj,FE,pG a9 tp]
     rfl
  ·rintro σ H' ⟨⟨U,er,J,s',W⟩,o4,o5,rfl⟩
   rw[nm.len,List.drop_length] at W
   subst ae
   exact⟨_,rfl,k2 r U H' s' nr er J W⟩
def LnO (A:LoA) (xss:ZHp) (ln:ZU):Prop:=ln.length=A.many/\∀ (i:Nat) xs y,xss[i]? = some xs->ln[i]? = some y->y∈xs
noncomputable def lnS (ln:ZU):Nat:=(ln.map Int.toNat).sum
theorem LnO.top (a:Z7p):LnO A xss Zs:=⟨by rw[Fe,a.1],λ i xs y h1 h2=>by
 rw[Ff,h1] at h2
 cases h2
 exact gN (a.2.1.ne xs ZM6)⟩
theorem vd:∀ {ln:List Int},ln.length<=m->(∀ y∈ln,y<=30)->lnS ln<=30*m
 | [],_,_=>ZH9
 | y::ln,l,h=>by
  cases m with
  | zero=>cases l
  | succ m=>
   have:=vd (m:=m) (ln:=ln) (by rw[FV] at l;lia) λ z F=>h z ZPA
   have:=h y Fn
   unfold lnS at *
   rw[FL,I0]
   lia
theorem LnO.le (a:Z7p) (h:ZGI):lnS ln<=30*A.many:=vd (by rw[h.1];exact Z9) λ y J=>by
 obtain⟨i,hi⟩:=HG J
 obtain⟨xs,F⟩:∃ xs,xss[i]? = some xs:=⟨_,E9 (by rw[a.1,<- h.1];exact(ZOO).1)⟩
 exact((ZLB).2 y (h.2 i xs y F hi)).2
theorem jG:∀ {ln:List Int}{j:Nat}{y m:Int},ln[j]? = some y->0<=m->m<y->lnS Z7t<lnS ln
 | [],j,_,_,h,_,_=>by cases h
 | x::ln,0,y,m,h,h0,h1=>by
  cases h
  unfold lnS
  rw[List.set_cons_zero,FL,FL,I0,I0]
  lia
 | x::ln,j+1,y,m,h,h0,h1=>by
  have:=jG (ln:=ln) (j:=j) h h0 h1
  unfold lnS at *
  rw[List.set_cons_succ,FL,FL,I0,I0]
  lia
theorem LnO.set (h:ZGI) (J:xss[j]? = some xs) (F:m∈xs):LnO A xss Z7t:=by
 refine⟨by rw[GK];exact h.1,λ i ys y h1 h2=>?_⟩
 by_cases g:i=j
 ·subst g
  rw[J] at h1;cases h1
  by_cases O:i<ln.length
  ·rw[FG O] at h2;cases h2;exact F
  ·rw[Gr (by rw[GK];lia)] at h2;cases h2
 ·rw[ZMn] at h2
  exact h.2 i ys y h1 h2
theorem vB {A:LoA}{xss:Z6T}{ln:ZU}{e:Nm3×Int}{j:Nat}{xs:ZU}{m:Int}(O:Z7p) (h:ZGI) (U:A.A.eH e.1=(j:Int)) (W:j<A.many) (b:A.A.brkE ln e=true) (F:xss[j]? = some xs) (V:m∈xs.filter λ y=>decide (y<e.2)) :
  LnO A xss Z7t/\lnS Z7t<lnS ln:=by
 obtain⟨h1,h2⟩:=FN.mp V
 have h2:=Gb h2
 obtain⟨y,J⟩:∃ y,ln[j]? = some y:=⟨_,E9 (by rw[h.1];exact W)⟩
 refine⟨h.set F h1,jG J ((O.2.2 xs (Fg F)).2 m h1).1 ?_⟩
 unfold DiA.brkE DiA.dM at b
 rw[F5,F3,U,dG J] at b
 omega
def Dz (K:W.Frag) (t:Adr):Sp:=λ vs H Q _=>∃ G L A n al qs xss,∃ c:Int,vs=[Zg,ZCa,Z7s]/\Lo K t G H L A n/\n<=30/\Lls H al qs xss/\AwO A xss /\
 ∀ q lp lr pls ns ln H',bj H H'->H' q=some Z6_->H' lp=some Z6b->NmL H' pls ns->pls.length<=200->H' lr=some Z1n->ln.length=A.many->Q Z3L H'
theorem BP (T:ZN):bR P w K mg base ZT 3 t.f_co t.fd_co Z1z (Dz K t):=by
 refine T.F_co.okN ju ZB (λ aO A outer s H vs Q E hr h=>?_)
 ·obtain⟨G,L,A,n,al,qs,xss,c,rfl,_⟩:=h;rfl
 ·obtain⟨G,L,A,n,al,qs,xss,c,rfl,lo,hn,ll,aw,k⟩:=h
  refine⟨_,(aW (dP ["_law_loom_here","_law_allowed_here","_law_cell","_law_reached","_law_paper_here","_law_some","_law_name","_law_user","_law_place","_law_points"] 1 (i:=3) rfl ju.nd rfl Z6 ZDs (λ _ _ _ _ _=>⟨(bG (i:=9) (show List.Nodup (["_law_loom_here","_law_allowed_here","_law_cell","_law_reached","_law_paper_here","_law_some","_law_name","_law_user","_law_place","_law_points"]:Zo) from ZF) rfl Z6),dI,(bF ZZ ZGd Z6Y ZC)⟩))
   (aW (bz (i:=4) ju.nd rfl Z6 Z3S)
   (aW ZBp
   (aW (i7 PassesOwn.never (PW.pt (iE (bH Z5M Z01 Z3S Z0F) (fG (bH tJ (bB bU Z1A bh) bh Z0F))))
    (aW (jg (bF ZZ Z01 (bB bU (bB cx Z1A bh) (bL Z1t rfl T.no_len eM Z3K)) ZC) (fb (K:=K) rfl (cq (bG (i:=6) ju.nd rfl Z6) (cq (bG (i:=7) ju.nd rfl Z6) (cq (bG (i:=8) ju.nd rfl Z35) fi)))))
   (aW Z8m
   (aW (jg (bL ZLq rfl T.no_max vF (bf (dA ["_law_loom_here","_law_allowed_here","_law_cell","_law_reached","_law_paper_here","_law_some","_law_name","_law_user","_law_place","_law_point"] 1 rfl (cA (K:=K) (bF ZZ ZQ ZCk ZC)) (λ _ _ _ _ _=>⟨(bG (i:=9) (show List.Nodup (["_law_loom_here","_law_allowed_here","_law_cell","_law_reached","_law_paper_here","_law_some","_law_name","_law_user","_law_place","_law_point"]:Zo) from ZF) rfl Z6),(fW (bH jr ZGd Z9x Z0F)),ZGd⟩)) aZ)) (pM Z1i ZCk set_list))
   (bg ZBp)))))
   (bg (bC (cE (bf Z0C Z3J)))))))),?_⟩
  refine sq λ aJ ax=>?_
  have m2:=lo.m2
  have lx:=aw.1
  have aT:=(ZIW).1
  refine Z0Y
  refine(sn ax λ aK ay=>?_:aJ _ _ _)
  refine⟨Z3,λ J a1=>?_⟩
  have s2:=bj.new (o:=Z0H) a1
  have ah:=aU (H:=H1) (a:=J) (o:=Z0H)
  have a6:=Z9X
  have a9:=Z2s
  have ao:H J=none:=s1.free a1
  have rl:r≠J:=λ z=>by rw[<- z,e1] at a1;cases a1
  generalize upd H1 J (.lst [])=H2 at s2 ah a6 a9 ⊢
  refine(sn ay λ aL az=>?_:aK _ _ _)
  have a5:=ZTd
  refine tcl Z1O ⟨G,L,A,n,r,_,rfl,lo.same a9,hn,SqL.of a6,a5.1,λ lb ls es H3 s3 aR aA br pm=>?_⟩
  refine(sn az λ aS af=>?_:aL _ _ _)
  refine⟨λ m σ H'=>∃ U F ns lb ls es,m=lnS U/\LnO A xss U/\H' r=some ZA8/\H' J=some (.lst F)/\NmL H' F ns/\F.length+lnS U<=30*A.many/\bj H H'/\H' lb=some Z2P/\BrL A.A H' ls es/\es.Perm (A.A.ta.filter (A.A.brkE U))/\∃ o6 o7 o8,σ=[Z2G,Z3U,Z1k,ZEi,some ZJ7,ZWH,o6,o7,o8],⟨_,_,[],[],lb,ls,es,rfl,a5,s3 _ _ a6,s3 _ _ ah,.nil,by have:=a5.le aw;simp;omega,a9.trans s3,aA,br,pm,_,_,_,rfl⟩,?_⟩
  rintro m σ H' ⟨U,F,ns,lb,ls,es,rfl,Z,er,ep,aH,bd,s',eb,br,pm,o6,o7,o8,rfl⟩
  have aP:30*A.many<=150:=ZV
  refine⟨_,rfl,Z3,λ c1 aF=>?_⟩
  have s4:=bj.new (o:=Z0H) aF
  have V:=br.keep (H':=upd H' c1 Z0H) λ c xs e=>ZNP
  have ae:=aU (H:=H') (a:=c1) (o:=Z0H)
  have W:=s4 _ _ eb
  have Y:=s4 _ _ er
  have O:=s4 _ _ ep
  have a2:=aH.same s4
  have a3:=ZHY
  generalize upd H' c1 (.lst [])=H4 at s4 V ae W Y O a2 a3 ⊢
  refine eqE W V ae Z7P
  ·refine⟨_,rfl,_,rfl,J,_,rfl,ZOb,c,_,840,rfl,ZV,ZV,Z3,Z3,λ d _ x0 x1=>⟨_,_,rfl,rfl,by show (0:Int)<20;decide,_,_,rfl,rfl,_,rfl,Z3t⟩⟩
   ·have ne:0<ls.length:=by
     rw[br.len]
     cases es with
     | nil=>exact ZCA
     | cons _ _=>simp
    have q0:(0:Int)<(ls.length:Int):=ZV
    refine ZFS
    refine⟨_,rfl,_,rfl,_,rfl,J,_,rfl,ZOb,c,_,840,rfl,ZV,ZV,Z3,Z3,λ d2 _ y0 y1=>⟨_,_,rfl,rfl,Z0I,_,rfl,lb,_,rfl,.inl ZNv,_,_,rfl,rfl,q0,?_⟩⟩
    have w0:=F7 (d2/20) (b:=(ls.length:Int)) ZV
    have w1:=FW (d2/20) q0
    obtain⟨v,hv⟩:∃ v,ls[(d2/20%(ls.length:Int)).toNat]? = some v:=Z9S
    have ar:atI ls (d2/20%(ls.length:Int))=some v:=by
     have e:d2/20%(ls.length:Int)=(((d2/20%(ls.length:Int)).toNat:Nat):Int):=ZV
     rw[e];exact ZRT
    have vm:=ZOM
    obtain⟨b2,c2,rfl,h1,h2⟩:=V.all v vm
    have hm:fO H4 (ZLh)∈es:=by rw[<- V.eq];exact Fq vm
    generalize fO H4 (.ref b2)=e at h1 h2 hm
    obtain⟨he,aC⟩:=ZEN
    obtain⟨j,hj,jm,e1⟩:=ZNX
    refine⟨lb,_,_,_,rfl,rfl,ZNv,ar,b2,_,rfl,ZLF,rfl,_,_,rfl,_,_,rfl,_,_,rfl,rfl,?_⟩
    refine⟨_,rfl,.inl ⟨rfl,_,Z87⟩,_,rfl,J,F,ZCZ,rfl,rfl,O,ZRZ,?_⟩
    have tk:∀ c xs,H4 c=some Zb->upd H4 J (.lst (F++[ZCZ])) c=some Zb:=λ c xs e=>by rw[aV (λ q=>by rw[q,O] at e;cases e)];exact e
    have ap:=(a2.snoc (n:=e.1) ⟨c2,rfl,h2⟩).keep tk
    have ai:=aU (H:=H4) (a:=J) (o:=.lst (F++[ZCZ]))
    have a7:upd H4 J (.lst (F++[ZCZ])) r=some ZA8:=by rw[aV rl];exact Y
    have aa:bj H (upd H4 J (.lst (F++[ZCZ]))):=λ c u e=>by rw[aV (ba e ao)];exact ZWo
    generalize upd H4 J (.lst (F++[.ref c2]))=H5 at ap ai a7 aa ⊢
    have an:=ll.same aa
    obtain⟨q,xs,am,au,hq⟩:=an.atq hj (by rw[lx];exact jm)
    obtain⟨aG,aN,ak⟩:=aw.down am e1
    refine⟨_,rfl,_,rfl,al,_,_,Z3L,rfl,rfl,SqL.of an.self,au,q,rfl,ZHQ,nE (p:=e.2) Z9f ak rfl (λ x H2 s2 R hR=>⟨_,rfl,_,rfl,_,_,rfl,rfl,_,rfl,hR⟩) λ ad H7 aQ s7 e7=>?_⟩
    refine⟨ad,_,rfl,ZVH,aG,λ mm tp=>?_⟩
    refine⟨_,rfl,_,rfl,r,_,_,j,rfl,rfl,s7 _ _ a7,mZ hj (by rw[cO,Z.1];exact jm),?_⟩
    rw[qi]
    obtain⟨a4,lt⟩:=vB aw Z hj jm aC am tp.1
    have ab:bj H (ZPr):=λ c u e=>by rw[aV (ba e nr)];exact s7 _ _ (aa _ _ e)
    have aj:upd H7 r Z4e J=some (.lst (F++[ZCZ])):=by rw[aV ZTa];exact s7 _ _ ai
    have aq:=ap.keep (H':=ZPr) λ c xs e=>by rw[aV (λ q=>by rw[q,a7] at e;cases e)];exact ZBX
    have a8:=aU (H:=H7) (a:=r) (o:=Z4e)
    generalize upd H7 r (.lst (iV (U.set j mm)))=H8 at ab aj aq a8 ⊢
    refine tcl Z1O ⟨G,L,A,n,r,_,rfl,lo.same ab,hn,SqL.of a8,a4.1,λ aD aE aB H9 s9 aM ag av aI=>?_⟩
    exact⟨_,lt,_,_,_,aD,aE,aB,rfl,a4,s9 _ _ a8,s9 _ _ aj,aq.same s9,by rw[Fh,Fy];omega,ab.trans s9,ag,av,aI,_,_,_,rfl⟩
   ·subst af
    refine⟨_,rfl,_,rfl,by show 2<=sizeLine;decide,λ q nq=>?_⟩
    have s5:=ZAC
    exact Z2u
  ·subst af
   refine⟨_,rfl,_,rfl,by show 2<=sizeLine;decide,λ q nq=>?_⟩
   have s5:=ZAC
   exact Z2u
def BA (K:W.Frag) (t:Adr):Sp:=λ vs H Q _=>∃ G L A n al qs xss r ln b y,vs=[Zg,ZCa,Z5K,Za]/\Lo K t G H L A n/\n<=30/\Lls H al qs xss/\AwO A xss/\H r=some Z1n/\LnO A xss ln/\H b=some ZA7 /\
 ∀ H' ln',But [r] H H'->H' r=some ZMC->LnO A xss ln'->lnS ln'<=lnS ln->((∃ e∈A.A.ta,e.1=y/\A.A.brkE ln e=true)->lnS ln'<lnS ln)->Q .non H'
theorem DQ (T:ZN):bR P w K mg base ZT 2 t.f_ax t.fd_ax Z18 (BA K t):=by
 refine T.F_ax.okN oD ZB Z99
 ·obtain⟨G,L,A,n,al,qs,xss,r,ln,b,y,rfl,_⟩:=h;rfl
 ·obtain⟨G,L,A,n,al,qs,xss,r,ln,b,y,rfl,lo,hn,ll,aw,er,U,hb,k⟩:=h
  refine⟨_,(aW (bz (i:=4) oD.nd rfl Z6 Z08)
   (aW (bz (i:=5) oD.nd rfl Z35 Z0Z)
   (bg (bX (iB (zK Z1W Z1i Z01))
    (aW (bz (i:=6) oD.nd rfl Z6 (bF Zp (cH Z1W Z0C Z1i ZC) bh ZC))
   (aW (dP ["_law_loom_here","_law_allowed_here","_law_reached","_law_name","_law_sent","_law_used","_law_user","_law_some","_law_point"] 1 (i:=7) rfl oD.nd rfl Z6 (cA (K:=K) ZJw) (λ _ _ _ _ _=>⟨(bG (i:=8) (show List.Nodup (["_law_loom_here","_law_allowed_here","_law_reached","_law_name","_law_sent","_law_used","_law_user","_law_some","_law_point"]:Zo) from ZF) rfl Z6),(fW (bH jr Z9x (cH Z1W Z01 Z1i ZC) Z0F)),Z9x⟩))
   (bg (jg (bL (su rfl) rfl T.no_min xR (bf (bF ZZ Zj Z2E ZC) (bf (xu (K:=K) rfl rfl T.no_max vF (bf ZCk aZ) (w5 (bF ZZ ZJw bh ZC) zO)) aZ))) (pM Zj Z2E set_list)))))
    bM)))),?_⟩
  refine ZKm
  refine⟨_,rfl,L.p,L.dx,_,rfl,lo.c.self,rfl,G,L,A,n,rfl,lo,hn,λ ds H1 s1 ai e1=>?_⟩
  refine(sn a8 λ ak a9=>?_:ZWn)
  have a5:=Z3s
  refine⟨_,rfl,L.p,L.dx,_,rfl,a5.c.self,rfl,G,L,A,n,rfl,a5,hn,λ du H2 s2 aj e2=>?_⟩
  subst a9
  have J:=Z2s
  have W:=J _ _ hb
  have a6:=Z9X
  have Y:=J _ _ er
  have a1:=ll.same J
  by_cases ty:y∈A.A.ta.map (·.1)
  ·obtain⟨e,he,rfl⟩:=ZX6
   obtain⟨l,hl,el,_,_⟩:=Z6l
   have v2:cf (A.A.ta.map λ e=>(Z0p,Zw)) (Z0p)=some (ZBi):=cK (λ e:Nm3×Int=>Z0p) Z3z (cZ (f:=Prod.fst) cJ lo.wf.nt) he
   have v1:cf (A.A.po.map λ l=>(Z0t,Z04)) (Z0p)=some (Z2L):=by
    rw[<- el]
    exact cK (λ l:cV=>Z0t) Z5m Z1u hl
   obtain⟨j,hj,jm,p1⟩:=ZNX
   have Z:l.to=(j:Int):=by rw[<- hj,<- el,ZMX]
   obtain⟨q,xs,O,a2,hq⟩:=a1.atq Z (by rw[aw.1];exact jm)
   obtain⟨ad,ag,a3⟩:=aw.down O p1
   obtain⟨y0,F⟩:∃ y,ln[j]? = some y:=⟨_,E9 (by rw[U.1];exact jm)⟩
   refine⟨_,rfl,_,rfl,du,_,rfl,.inr ⟨_,Z0p,b,ZSK,rfl,W,v2.symm⟩,_,rfl,ZUx⟩
   refine⟨_,rfl,_,rfl,ds,Z2L,rfl,.inr ⟨_,Z0p,b,.inl a6,rfl,W,v1.symm⟩,l.adr,_,0,Z4R,rfl,rfl,SqT.of (J _ _ Z9A),rfl,?_⟩
   refine⟨_,rfl,_,rfl,al,_,_,Z3L,rfl,rfl,SqL.of a1.self,a2,q,rfl,ZHQ,nE (p:=e.2) Z9f a3 rfl (λ x H3 s3 R hR=>⟨_,rfl,_,rfl,_,rfl,du,ZBi,rfl,.inr ⟨_,Z0p,b,.inl ZUT,rfl,s3 _ _ W,v2.symm⟩,_,_,rfl,rfl,_,rfl,hR⟩) λ acc H4 na s4 e4=>?_⟩
   have af:=J.trans s4
   obtain⟨x0,xr,aa⟩:=Hy (aw.2.1.ne xs ZR1)
   have a4:=s4 _ _ hq
   rw[aa] at a4
   refine⟨_,rfl,_,rfl,r,_,_,.int y0,rfl,rfl,SqL.of ZWR,by rw[Z];exact cW (by unfold iV;rw[Ff,F];rfl),_,rfl,_,rfl,_,rfl,al,_,_,Z3L,rfl,rfl,SqL.of (s4 _ _ a1.self),a2,q,_,0,.int x0,rfl,rfl,ZLH,cp,acc,_,_,rfl,rfl,SqL.of e4,λ h=>absurd h ad,λ m tp=>⟨_,_,rfl,?_⟩⟩
   refine⟨_,rfl,_,rfl,r,_,_,j,rfl,rfl,ZWR,mZ Z (by rw[cO,U.1];exact jm),?_⟩
   obtain⟨mx,ml⟩:=FN.mp tp.1
   have ml:=Gb ml
   have m0:=((aw.2.2 xs ZR1).2 m mx).1
   rw[qi]
   have bt:But [r] H (upd H4 r (.lst (iV (ln.set j (if m<y0 then m else y0))))):=λ c u nc e=>by rw[aV (by simpa using nc)];exact af _ _ e
   refine k _ _ bt aU (U.set O ?_) ?_ λ⟨e',ab,a7,bk⟩=>?_
   ·split
    ·exact mx
    ·exact U.2 j xs y0 O F
   ·by_cases z:m<y0
    ·rw[ZDY];exact Gq ZUg
    ·rw[ZFZ]
     obtain⟨lt,e0⟩:=ZLY
     rw[<- e0,JQ];exact Z9
   ·rw[fD lo.wf.nt ab he a7] at bk
    unfold DiA.brkE DiA.dM at bk
    rw[F5,F3,hj,dG F] at bk
    have z:m<y0:=Z2
    rw[ZDY];exact ZUg
  ·have v2:cf (A.A.ta.map λ e=>(Z0p,Zw)) (nk y)=none:=eV (λ e:Nm3×Int=>Z0p) Z3z λ x hx e=>ty (by rw[<- cJ _ _ e];exact Fq hx)
   exact⟨_,rfl,_,rfl,du,_,rfl,.inr ⟨_,nk y,b,ZSK,rfl,W,v2.symm⟩,_,rfl,cD rfl (k H2 ln (But.of J) Y U Z9 λ⟨e,he,ee,_⟩=>absurd (by rw[<- ee];exact ZOK) ty)⟩
def D8 (K:W.Frag) (t:Adr):Sp:=λ vs H Q _=>∃ G L A n al qs xss,∃ c at':Int,∃ ob oy,vs=[Zg,ZCa,Z7s,.int at',ZCX]/\Lo K t G H L A n/\n<=30/\Lls H al qs xss/\AwO A xss/\H ob=some (.tup (nV oy)) /\
 ∀ q lp lr pls ns ln H',bj H H'->H' q=some Z6_->H' lp=some Z6b->NmL H' pls ns->pls.length<=200->H' lr=some Z1n->ln.length=A.many->Q Z3L H'
theorem AY (T:ZN):bR P w K mg base ZT 3 t.f_bd t.fd_bd Z0u (D8 K t):=by
 refine T.F_bd.okN iq ZB ZJ
 ·obtain⟨G,L,A,n,al,qs,xss,c,at',ob,oy,rfl,_⟩:=h;rfl
 ·obtain⟨G,L,A,n,al,qs,xss,c,at',ob,oy,rfl,lo,hn,ll,aw,ho,k⟩:=h
  refine⟨_,(aW (dP ["_law_loom_here","_law_allowed_here","_law_cell","_law_at","_law_odd","_law_reached","_law_paper_here","_law_put","_law_some","_law_name","_law_names","_law_points"] 1 (i:=5) rfl iq.nd rfl Z6 ZDs (λ _ _ _ _ _=>⟨(bG (i:=11) (show List.Nodup (["_law_loom_here","_law_allowed_here","_law_cell","_law_at","_law_odd","_law_reached","_law_paper_here","_law_put","_law_some","_law_name","_law_names","_law_points"]:Zo) from ZF) rfl Z6),dI,(bF ZZ (pv 11) Z6Y ZC)⟩))
   (aW (bz (i:=6) iq.nd rfl Z6 Z3S)
   (aW ZCo
   (aW Z1o
   (aW (i7 PassesOwn.never (PW.pt (eK ZHH (eg (cM ZXb))))
    (aW (bX (PW.pt (iE ZHH (fG (PW.pt (eK (bH qM Z5R Z1i Z0F) (eg ZXb))))))
    (bg (bz (i:=9) iq.nd rfl Z6 (bF Zp (bF ZZ Z9x (bB bU (bB cx (bA Z6t Z7 rfl T.mg_ck T.kp_ck T.b_ck .nil bo (bf Zj (bf Z5R Z4q))) bh) (bL Z1t rfl T.no_len eM (bf Z9x aZ))) ZC) bh ZC)))
    (aW ZCo
   (aW (bz (i:=10) iq.nd rfl Z6 (bB fk (bB zX Z2E (bB nH bh (bB bU Zj bh))) (cg Z2B)))
   (bg (bz (i:=9) iq.nd rfl Z6 (bF ZZ (pv 10) (bB bU (bB cx Zj bh) (bL Z1t rfl T.no_len eM (bf (pv 10) aZ))) ZC))))))
   (aW (bN (cQ (K:=K) FH FK FJ bW Z2E ZSh))
   (aW (bN (bA (DQ (K:=K) T) Z7 rfl T.mg_ax T.kp_ax T.b_ax .nil bo (bf Ze (bf ZQ (bf Z01 ZSh)))))
   (bg Z1o)))))
   (bg (bC (cE (bf Z2E Z3K))))))))),?_⟩
  refine Z37
  have m2:=lo.m2
  have lx:=aw.1
  refine Z0Y
  refine(sn ee1 λ rr2 ee2=>?_:Z9_)
  refine⟨Z3,λ lp nlp=>?_⟩
  have s2:=bj.new (o:=Z0H) nlp
  have elp:=aU (H:=H1) (a:=lp) (o:=Z0H)
  have er2:=Z9X
  have s02:=Z2s
  have nlp0:H lp=none:=s1.free nlp
  have rl:r≠lp:=λ z=>by rw[<- z,e1] at nlp;cases nlp
  generalize upd H1 lp (.lst [])=H2 at s2 elp er2 s02 ⊢
  refine(sn ee2 λ rr3 ee3=>?_:Z9Z)
  refine(sn ee3 λ rr4 ee4=>?_:Z9Y)
  have br0:=ZTd
  refine tcl Z1O ⟨G,L,A,n,r,_,rfl,lo.same s02,hn,SqL.of er2,br0.1,λ lb ls es H3 s3 nlb elb br pm=>?_⟩
  refine(sn ee4 λ rr5 ee5=>?_:ZC0)
  have lp5:30*A.many<=150:=ZV
  obtain⟨W,hW⟩:∃ W:Nat->St->Hp->Prop,W=λ m σ H'=>∃ ln pls ns put lb ls es,m=lnS ln+(if put=true then 0 else 1)/\LnO A xss ln/\H' r=some (.lst (iV ln))/\H' lp=some (.lst pls)/\NmL H' pls ns/\pls.length+m<=30*A.many+1/\bj H H'/\H' lb=some (.lst ls)/\BrL A.A H' ls es/\es.Perm (A.A.ta.filter (A.A.brkE ln))/\∃ o9 o10,σ=[some (.ref L.p),some (.ref al),some (.int c),some (.int at'),some (.ref ob),some (.ref r),some (.ref lp),some (.bl put),some (.ref lb),o9,o10]:=Z1_
  refine⟨W,⟨_,by rw[hW];exact⟨_,[],[],false,lb,ls,es,rfl,br0,s3 _ _ er2,s3 _ _ elp,.nil,by have:=br0.le aw;simp;omega,s02.trans s3,elb,br,pm,_,_,rfl⟩⟩,?_⟩
  intro m σ H' w
  rw[hW] at w
  obtain⟨ln,pls,ns,put,lb,ls,es,em,lnO,er,ep,nmp,bd,s',eb,br,pm,o9,o10,rfl⟩:=w
  have done:∀ H4,bj H' H4->rr5 { nx:=λ x H'=>Z88,rt:=Q } Z0x H4:=λ H4 s4=>by
   subst ee5
   refine⟨_,rfl,_,rfl,by show 2<=sizeLine;decide,λ q nq=>?_⟩
   have s5:=bj.new (o:=.tup [.ref lp,Z5K]) nq
   have s45:=Z3k
   exact k q lp r pls ns ln _ (s'.trans s45) aU (s45 _ _ ep) (nmp.same s45) ZV (s45 _ _ er) lnO.1
  have isE:∀ (H4:Hp) (R:V->Hp->Prop),bj H' H4->(∀ H5,bj H' H5->R (.bl (!es.isEmpty)) H5)->∀ l,H4 l=none->hV K true ZM9 Zv (upd H4 l Z0H) R:=λ H4 R s4 hR l nl=>by
   have s5:=s4.trans (bj.new (o:=Z0H) nl)
   exact eqE ZI8 (br.keep λ c xs e=>ZNO) aU (hR _ s5)
  have pick:∀ (H4:Hp),bj H' H4->∀ {x:Int} {vs:List V},(∀ v∈vs,∃ y,d6 H4 v y)->0<vs.length->∃ b y,atI vs (x%(vs.length:Int))=some (Za)/\.ref b∈vs/\H4 b=some ZA7:=λ H4 s4 {x vs} al' ne=>by
   have w0:=F7 x (b:=(vs.length:Int)) ZV
   have w1:=FW x (b:=(vs.length:Int)) ZV
   obtain⟨v,hv⟩:∃ v,vs[(x%(vs.length:Int)).toNat]? = some v:=Z9S
   obtain⟨y,b,rfl,hb⟩:=al' v ZOM
   refine⟨b,y,?_,ZOM,hb⟩
   have e:x%(vs.length:Int)=(((x%(vs.length:Int)).toNat:Nat):Int):=ZV
   rw[e];exact ZRT
  have test:∀ R:Bool->Hp->Prop,(∀ H4,bj H' H4->R (!es.isEmpty || !put) H4)->tOr (i5 (tOp (hV K true) (cu 8) (tG gv))) (Cv (tB (cu 7))) [some (.ref L.p),some (.ref al),some (.int c),some (.int at'),some (.ref ob),some (.ref r),some (.ref lp),some (.bl put),some (.ref lb),o9,o10] H' R:=λ R hR=>by
   refine⟨_,rfl,Z3,λ c1 nc1=>isE H' _ Z4p (λ H4 s4=>⟨_,rfl,cU Z5X λ z=>⟨_,rfl,_,rfl,?_⟩⟩) c1 nc1⟩
   ·have:=ZWg
    rw[z,Bool.true_or] at this;exact this
   ·have:=ZWg
    rw[Ip z,KG] at this;exact this
  refine test _ λ H4 s4=>cU Z5X λ z=>done H4 s4
  refine ZFS
  refine sq λ rb eb'=>?_
  have fin:∀ (DD:Ends) (H5:Hp) (b:Addr) (y:Nm3) (put':Bool) (o10:Option V),DD.nx=(λ σ' H'=>∃ m',m'<m/\W m' σ' H')->bj H' H5->H5 b=some ZA7->((put'=put/\∃ e∈A.A.ta,e.1=y/\A.A.brkE ln e=true)\/(put=false/\put'=true)) ->
    rb DD [Z2G,Z3U,Z1k,Z7T,some ZCX,ZEi,ZML,some (.bl put'),ZWH,Z6j,o10] H5:=λ DD H5 b y put' o10 hN s5 hb5 cond=>by
   subst eb'
   have ep5:=ZUR
   have er5:=s5 _ _ er
   refine⟨_,rfl,.inl ⟨rfl,_,SqL.of ep5⟩,_,rfl,lp,pls,Za,rfl,rfl,ep5,ZRZ,?_⟩
   have tk:∀ c xs,H5 c=some Zb->upd H5 lp (.lst (pls++[Za])) c=some Zb:=λ c xs e=>by rw[aV (λ q=>by rw[q,ep5] at e;cases e)];exact e
   have nm6:=((nmp.same s5).snoc (n:=y) ⟨b,rfl,hb5⟩).keep tk
   have hb6:=tk _ _ hb5
   have ep6:=aU (H:=H5) (a:=lp) (o:=.lst (pls++[Za]))
   have er6:upd H5 lp (.lst (pls++[Za])) r=some Z1n:=by rw[aV rl];exact er5
   have s06:bj H (upd H5 lp (.lst (pls++[Za]))):=λ c u e=>by rw[aV (ba e nlp0)];exact s5 _ _ ZNS
   generalize upd H5 lp (.lst (pls++[.ref b]))=H6 at nm6 hb6 ep6 er6 s06 ⊢
   refine tcl (.cons Zt ZNF) ⟨G,L,A,n,al,qs,xss,r,ln,b,y,rfl,lo.same s06,hn,ll.same s06,aw,er6,lnO,hb6,λ H7 ln' b7 er7 lnO' le lt=>?_⟩
   have s07:bj H H7:=λ c u e=>b7 _ _ (by rw[Fd];exact ba e nr) (s06 _ _ e)
   have ep7:H7 lp=some (.lst (pls++[Za])):=b7 _ _ (by rw[Fd];exact ZTa) ep6
   have nm7:=nm6.keep (H':=H7) λ c xs e=>b7 _ _ (by rw[Fd];exact λ q=>by rw[q,er6] at e;cases e) e
   refine tcl Z1O ⟨G,L,A,n,r,ln',rfl,ZRH,hn,SqL.of er7,lnO'.1,λ lb' ls' es' H8 s8 nlb' elb' br' pm'=>?_⟩
   have dec:lnS ln'+(if put'=true then 0 else 1)<m:=by
    rw[em]
    rcases cond with ⟨rfl,h⟩|⟨rfl,rfl⟩
    ·have:=lt h
     omega
    ·simp;omega
   show DD.nx _ _
   rw[hN,hW]
   exact⟨_,dec,ln',_,_,put',lb',ls',es',rfl,lnO',s8 _ _ er7,s8 _ _ ep7,nm7.same s8,by rw[Fh,Fy];omega,ZAn,elb',br',pm',_,_,rfl⟩
  have test2:∀ R:Bool->Hp->Prop,(∀ H5 b,bj H' H5->(b=true->es.isEmpty=false)->(b=false->put=false)->R b H5)->BV (i5 (tOp ZSZ ZVw ZSW)) (tOr (i5 (tOp rNe (tCB (zA K) ZSd) (cu 3))) (tB ZVx)) Z0x H4 R:=λ R hR=>by
   refine⟨_,rfl,Z3,λ c2 nc2=>isE H4 _ s4 (λ H5 s5=>⟨_,rfl,cU (λ z1=>?_) λ z1=>hR H5 false s5 (λ h=>by cases h) λ _=>?_⟩) c2 nc2⟩
   ·have z1':es.isEmpty=false:=by simpa using z1
    exact⟨_,rfl,lp,_,rfl,ZDf,_,rfl,rfl,_,rfl,cU (λ z2=>hR H5 true s5 (λ _=>z1') (λ h=>by cases h)) λ z2=>⟨_,rfl,_,rfl,hR H5 put s5 (λ _=>z1') id⟩⟩
   ·rw[Ip z1,KG] at z
    simpa using z
  refine test2 _ λ H5 bb s5 h1 h2=>cU (λ zb=>?_) λ zb=>?_
  ·have ne:0<ls.length:=by
    rw[br.len]
    have:=h1 zb
    cases es with
    | nil=>cases this
    | cons _ _=>simp
   have q0:(0:Int)<(ls.length:Int):=ZV
   have br5:=br.keep (H':=H5) λ c xs e=>ZNO
   refine⟨_,rfl,_,rfl,_,rfl,lp,_,rfl,ZDf,c,_,840,rfl,ZV,ZV,Z3,Z3,λ d2 _ y0 y1=>⟨_,_,rfl,rfl,Z0I,_,rfl,lb,_,rfl,.inl ZTW,_,_,rfl,rfl,q0,?_⟩⟩
   have w0:=F7 (d2/20) (b:=(ls.length:Int)) ZV
   have w1:=FW (d2/20) q0
   obtain⟨v,hv⟩:∃ v,ls[(d2/20%(ls.length:Int)).toNat]? = some v:=Z9S
   have at0:atI ls (d2/20%(ls.length:Int))=some v:=by
    have e:d2/20%(ls.length:Int)=(((d2/20%(ls.length:Int)).toNat:Nat):Int):=ZV
    rw[e];exact ZRT
   have vm:=ZOM
   obtain⟨b2,c2,rfl,g1,g2⟩:=br5.all v vm
   have hm:fO H5 (ZLh)∈es:=by rw[<- br5.eq];exact Fq vm
   generalize fO H5 (.ref b2)=e at g1 g2 hm
   obtain⟨he,hbk⟩:=ZEN
   exact⟨lb,_,_,_,rfl,rfl,ZTW,at0,b2,_,0,ZCZ,rfl,rfl,SqT.of g1,rfl,fin _ H5 c2 e.1 put _ rfl s5 g2 (.inl ⟨rfl,e,he,rfl,hbk⟩)⟩
  ·have hp:=h2 (Ip zb)
   have x0:=F7 c (b:=2) Z3
   have x1:=FW c (b:=2) Z3
   have tn:(1-c%2).toNat<=1:=ZV
   have sz:pls.length*(1-c%2).toNat<=200:=FC (Nat.mul_le_mul_left _ tn) ZV
   have fl:∀ v∈(List.replicate (1-c%2).toNat pls).flatten,v∈pls:=λ v hv=>by
    obtain⟨l,hl,hv⟩:=List.mem_flatten.mp hv
    rw[List.eq_of_mem_replicate hl] at hv;exact hv
   have flen:(List.replicate (1-c%2).toNat pls).flatten.length<=200:=by
    rcases (by omega:(1-c%2).toNat=0\/(1-c%2).toNat=1) with e|e<;>rw[e]
    ·exact ZH9
    ·show (pls++[]).length<=200
     rw[Gf];omega
   refine⟨_,rfl,_,rfl,_,_,rfl,rfl,by show (0:Int)<2;decide,_,_,rfl,rfl,lp,_,pls,rfl,rfl,ZUR,ZV,ZV,Gq ZRZ,λ p1 np1=>⟨_,rfl,by show 1<=sizeLine;decide,λ p2 np2=>⟨p1,p2,_,_,rfl,rfl,bj.new np2 _ _ aU,aU,Gq (bE (by rw[Fy];omega)),λ p3 np3=>?_⟩⟩⟩
   have s6:=((bj.new (o:=.lst (List.replicate (1-c%2).toNat pls).flatten) np1).trans (bj.new (o:=ZTu) np2)).trans (bj.new (o:=.lst ((List.replicate (1-c%2).toNat pls).flatten++[ZCX])) np3)
   have e6:=aU (H:=upd (upd H5 p1 (.lst (List.replicate (1-c%2).toNat pls).flatten)) p2 ZTu) (a:=p3) (o:=.lst ((List.replicate (1-c%2).toNat pls).flatten++[ZCX]))
   generalize upd (upd (upd H5 p1 (.lst (List.replicate (1-c%2).toNat pls).flatten)) p2 (.lst [.ref ob])) p3 (.lst ((List.replicate (1-c%2).toNat pls).flatten++[.ref ob]))=H6 at s6 e6 ⊢
   have s56:=ZBz
   obtain⟨b,y,at0,_,hb⟩:=pick H6 s56 (x:=c/2) (vs:=(List.replicate (1-c%2).toNat pls).flatten++[ZCX]) (λ v hv=>by
    rcases Fm.mp hv with hv|hv
    ·exact⟨_,(nmp.all v (fl v hv)).same s56⟩
    ·rw[Fd] at hv
     exact⟨oy,ob,hv,s56 _ _ (s' _ _ ho)⟩) (by rw[Fh,Fy];omega)
   exact⟨_,rfl,_,rfl,_,_,rfl,rfl,Z0I,_,rfl,p3,_,rfl,.inl ZVI,_,_,rfl,rfl,by show (0:Int)<_;rw[Fh,Fy];omega,p3,_,_,_,rfl,rfl,ZVI,at0,fin _ H6 b y true _ rfl s56 hb (.inr ⟨hp,rfl⟩)⟩
theorem NmL.Ex (h:∀ v∈ls,∃ n,ZBa):NmL H ls (ls.map (eJ H)):=⟨rfl,λ v F=>by
 obtain⟨n,i⟩:=h v F
 rw[i.of];exact i⟩
theorem vM (h:v∈dU xs lo hi):v∈xs:=List.mem_of_mem_drop (List.mem_of_mem_take h)
def Cb (K:W.Frag) (t:Adr):Sp:=λ vs H Q _=>∃ G L A n al qs xss p pls ns r ln,∃ c:Int,vs=[Zg,ZCa,Z00,Z5K,Z7s]/\Lo K t G H L A n/\n<=30/\Lls H al qs xss/\AwO A xss/\H p=some Z6b/\NmL H pls ns/\pls.length<=200/\H r=some Z1n/\ln.length=A.many /\
 ∀ q lp lr pls ns ln H',bj H H'->H' q=some Z6_->H' lp=some Z6b->NmL H' pls ns->pls.length<=400->H' lr=some Z1n->ln.length=A.many->Q Z3L H'
theorem Bo (T:ZN):bR P w K mg base ZT 4 t.f_cd t.fd_cd Z0e (Cb K t):=by
 refine T.F_cd.okN vP ZB ZJ
 ·obtain⟨G,L,A,n,al,qs,xss,p,pls,ns,r,ln,c,rfl,_⟩:=h;rfl
 ·obtain⟨G,L,A,n,al,qs,xss,p,pls,ns,r,ln,c,rfl,lo,hn,ll,aw,hp,nm,few,er,len,k⟩:=h
  refine⟨_,(aW (bz (i:=5) vP.nd rfl Z6 (bB bU Z8n (bB cY ZBq bh)))
   (aW (bz (i:=6) vP.nd rfl Z6 (bB fk (bB fk (bL ZX_ rfl T.no_sorted eF (bf Z08 aZ)) (cg (bf ZEY (bf ZEY aZ)))) Zj))
   (aW (bX (PW.pt (eK Z5H (eg Z5H)))
    (bg (bC (bA (AY (K:=K) T) Z7 rfl T.mg_bd T.kp_bd T.b_bd .nil bo (bf Ze (bf ZQ (bf Z8n (bf Z01 (bf (bF ZZ Z2E (bB bU Z8n Z5R) ZC) aZ))))))))
    bM)
   (aW (bX Z5H
    (bg (bC (cE (bf (bB fk (dZ Z4n Zj eO (eY Z01)) (dZ Z4n Zj (eY ZN2) eO)) Z3J))))
    bM)
   (bg (bC (cE ZSg))))))),?_⟩
  refine Z37
  refine⟨_,rfl,_,_,rfl,rfl,Z0I,_,rfl,p,_,rfl,.inl (SqL.of hp),_,_,rfl,rfl,_,_,rfl,rfl,by show (0:Int)<_;omega,?_⟩
  generalize c/5%((pls.length:Int)+1)=at'
  refine(sn ee1 λ rr2 ee2=>?_:Z9_)
  refine⟨_,rfl,L.p,L.dx,_,rfl,lo.c.self,rfl,G,L,A,n,rfl,lo,hn,λ td H1 s1 ntd etd=>?_⟩
  have bn:=lo.bn
  have sm:∀ x∈A.A.po.map (·.nm),Small x:=λ x hx=>by
   obtain⟨l,hl,rfl⟩:=ZOH
   exact lo.small hn l hl
  refine⟨td,_,rfl,etd,by rw[Fe];omega,λ bs ks=>?_⟩
  have nmk:=oA (f:=λ l:cV=>l.nm) (g:=λ l=>Z04) ks
  refine⟨nmk.small sm,by rw[nmk.lK];exact dY lo.wf.nd sm,λ l ls' nl pm so=>?_⟩
  obtain⟨ns0,n1,n2,n3⟩:=nmk.sorted pm so
  have lls:ls'.length<=90:=by rw[n1.len,n2.length_eq,Fe];omega
  have s2:=bj.new (o:=ZOW) nl
  have el:=aU (H:=H1) (a:=l) (o:=ZOW)
  have n12:=n1.same s2
  generalize upd H1 l (.lst ls')=H2 at s2 el n12 ⊢
  refine⟨by show 3<=sizeLine;decide,λ q1 nq1=>⟨by show 3<=sizeLine;decide,λ q2 nq2=>⟨by show 2<=sizeLine;decide,λ q3 nq3=>?_⟩⟩⟩
  have s3:=bj.new (o:=ZCW) nq1
  have h3:=aU (H:=H2) (a:=q1) (o:=ZCW)
  generalize upd H2 q1 (.tup [.int 0,.int 1,.int 7])=H3 at s3 h3 nq2 nq3 ⊢
  have s4:=bj.new (o:=ZCV) nq2
  have h4:=aU (H:=H3) (a:=q2) (o:=ZCV)
  generalize upd H3 q2 (.tup [.int 9,.int 1,.int 0])=H4 at s4 h4 nq3 ⊢
  have s5:=bj.new (o:=ZMs) nq3
  have h5:=aU (H:=H4) (a:=q3) (o:=ZMs)
  generalize upd H4 q3 (.lst [.ref q1,.ref q2])=H5 at s5 h5 ⊢
  have s25:=ZN7
  refine⟨l,q3,_,_,rfl,rfl,s25 _ _ el,h5,Gq (bE (by show ls'.length+2<=1000;omega)),λ q4 nq4=>?_⟩
  have s6:=bj.new (o:=.lst (ls'++[Z97,Z7r])) nq4
  have h6:=aU (H:=H5) (a:=q4) (o:=.lst (ls'++[Z97,Z7r]))
  generalize upd H5 q4 (.lst (ls'++[.ref q1,.ref q2]))=H6 at s6 h6 ⊢
  have s26:=s25.trans s6
  have s06:=(Z2s).trans s26
  refine⟨_,rfl,q4,p,_,_,rfl,rfl,h6,s06 _ _ hp,Gq (bE (by rw[Fh];show ls'.length+2+pls.length<=1000;omega)),λ q5 nq5=>?_⟩
  have s7:=bj.new (o:=.lst (ls'++[Z97,Z7r]++pls)) nq5
  have h7:=aU (H:=H6) (a:=q5) (o:=.lst (ls'++[Z97,Z7r]++pls))
  generalize upd H6 q5 (.lst (ls'++[.ref q1,.ref q2]++pls))=H7 at s7 h7 ⊢
  have s07:=s06.trans s7
  have all:∀ v∈ls'++[.ref q1,Z7r]++pls,∃ y,d6 H7 v y:=λ v hv=>by
   rcases Fm.mp hv with hv|hv
   ·rcases Fm.mp hv with hv|hv
    ·exact⟨_,(n12.all v hv).same (s26.trans s7)⟩
    ·rcases Fi.mp hv with rfl|hv
     ·exact⟨(0,1,7),q1,rfl,((ZN9).trans s7) _ _ h3⟩
     ·rw[Fd] at hv
      exact⟨(9,1,0),q2,hv,((ZBz).trans s7) _ _ h4⟩
   ·exact⟨_,(nm.all v hv).same s07⟩
  refine(sn ee2 λ rr3 ee3=>?_:Z9Z)
  have test:∀ R:Bool->Hp->Prop,(∀ b,R b H7)->tOr (i5 (tOp rEq (tOp (rI (λ x j=>0<j) λ i j=>V.int (i%j)) (cu 4) ZDj) Z6G)) (i5 (tOp rEq (tOp (rI (λ x j=>0<j) λ i j=>V.int (i%j)) (cu 4) ZDj) (tC (V.int 3)))) [Z2G,Z3U,Z5z,ZEi,Z1k,Z7T,some (.ref q5)] H7 R:=λ R hR=>
   ⟨_,rfl,_,_,rfl,rfl,by show (0:Int)<5;decide,rfl,_,rfl,cU (λ _=>hR true) λ _=>⟨_,rfl,_,_,rfl,rfl,by show (0:Int)<5;decide,rfl,_,rfl,hR _⟩⟩
  refine test _ λ b=>Z1v
  ·have q0:(0:Int)<((ls'++[ZBc,ZBb]++pls).length:Int):=by rw[Fh,Fh];show (0:Int)<((ls'.length+2+pls.length:Nat):Int);omega
   have w0:=F7 (c/300) (b:=((ls'++[ZBc,ZBb]++pls).length:Int)) ZV
   have w1:=FW (c/300) q0
   obtain⟨v,hv⟩:∃ v,(ls'++[V.ref q1,V.ref q2]++pls)[(c/300%((ls'++[V.ref q1,V.ref q2]++pls).length:Int)).toNat]? = some v:=Z9S
   obtain⟨y,b,rfl,hb⟩:=all v ZOM
   have at0:atI (ls'++[ZBc,ZBb]++pls) (c/300%((ls'++[ZBc,ZBb]++pls).length:Int))=some (Za):=by
    have e:c/300%((ls'++[ZBc,ZBb]++pls).length:Int)=(((c/300%((ls'++[ZBc,ZBb]++pls).length:Int)).toNat:Nat):Int):=ZV
    rw[e];exact ZRT
   exact⟨_,rfl,_,rfl,_,rfl,_,_,rfl,rfl,Z0I,_,rfl,_,rfl,_,rfl,_,_,rfl,rfl,Z0I,_,rfl,q5,_,rfl,.inl ZVE,_,_,rfl,rfl,q0,q5,_,_,_,rfl,rfl,ZVE,at0,G,L,A,n,al,qs,xss,_,_,b,y,rfl,ZRH,hn,ll.same s07,aw,hb,λ q lp lr pls' ns' ln' H8 s8 e1 e2 e3 e4 e5 e6=>k q lp lr pls' ns' ln' H8 ZAn e1 e2 e3 ZV e5 e6⟩
  ·refine(sn ee3 λ rr4 ee4=>?_:Z9Y)
   subst ee4
   refine⟨_,rfl,_,_,rfl,rfl,by show (0:Int)<5;decide,rfl,_,rfl,Z1v⟩
   ·refine⟨_,rfl,_,rfl,_,rfl,p,_,rfl,SqL.of ZQl,λ a1 na1=>?_⟩
    have s8:=bj.new (o:=ZFa) na1
    have h8:=aU (H:=H7) (a:=a1) (o:=ZFa)
    generalize upd H7 a1 (.lst (dU pls none (some at')))=H8 at s8 h8 ⊢
    refine⟨_,rfl,_,rfl,_,_,rfl,rfl,_,rfl,p,_,rfl,SqL.of (s8 _ _ ZQl),λ a2 na2=>?_⟩
    have s9:=bj.new (o:=.lst (dU pls (some (at'+1)) none)) na2
    have h9:=aU (H:=H8) (a:=a2) (o:=.lst (dU pls (some (at'+1)) none))
    generalize upd H8 a2 (.lst (dU pls (some (at'+1)) none))=H9 at s9 h9 ⊢
    have l1:=gB pls none ZAa
    have l2:=gB pls (some (at'+1)) none
    refine⟨a1,a2,_,_,rfl,rfl,s9 _ _ h8,h9,Gq ZRZ,λ a3 na3=>?_⟩
    have s10:=bj.new (o:=.lst (dU pls none ZAa++dU pls (some (at'+1)) none)) na3
    have h10:=aU (H:=H9) (a:=a3) (o:=.lst (dU pls none ZAa++dU pls (some (at'+1)) none))
    generalize upd H9 a3 (.lst (dU pls none (some at')++dU pls (some (at'+1)) none))=H10 at s10 h10 ⊢
    refine⟨_,rfl,by show 2<=sizeLine;decide,λ q nq=>?_⟩
    have s11:=bj.new (o:=.tup [.ref a3,Z5K]) nq
    have s011:=((ZAn).trans ZPt).trans s11
    refine k q a3 r _ _ ln _ s011 aU (s11 _ _ h10) (NmL.Ex λ v hv=>⟨_,(nm.all v ?_).same s011⟩) (by rw[Fh];omega) (s011 _ _ er) len
    rcases Fm.mp hv with hv|hv<;>exact vM hv
   ·refine⟨_,rfl,_,rfl,by show 2<=sizeLine;decide,λ q nq=>?_⟩
    have s8:=bj.new (o:=.tup [Z00,Z5K]) nq
    have s08:=ZAn
    exact k q p r pls ns ln _ s08 aU (s08 _ _ hp) (nm.same s08) ZV (s08 _ _ er) len
def AO (K:W.Frag) (t:Adr):Sp:=λ vs H Q _=>∃ a ln,∃ c:Int,vs=[ZY,Z7s]/\H a=some Z1n/\0<ln.length/\ln.length<=5/\∀ l ln' H',bj H H'->H' l=some ZMC->ln'.length<=900->Q Zv H'
theorem Am (T:ZN):bR P w K mg base ZT 1 t.f_ap t.fd_ap Z6E (AO K t):=by
 refine T.F_ap.okN yi ZB (λ ae A outer s H vs Q E hr h=>?_)
 ·obtain⟨a,J,c,rfl,_⟩:=h;rfl
 ·obtain⟨a,J,c,rfl,ha,l0,l5,k⟩:=h
  refine⟨_,(aW (bz (i:=2) yi.nd rfl Z6 (bB bU (bB cx ZQ bh) Z3q))
   (aW (bX Z2n
    (bg (bC (bB fk (bB fk ZFj (cg (bf (bB cY ZKV bh) aZ))) Z9y)))
    bM)
   (aW (bX Z2n
    (bg (bC (bB fk (bB fk ZFj (cg (bf (bB nH ZKV bh) aZ))) Z9y)))
    bM)
   (aW (bX Z2n
    (bg (bC (dZ Z4n Ze eO (eY Z6Y))))
    bM)
   (aW (bX Z2n
    (bg (bC (bB fk Ze ZXa)))
    bM)
   (bg (bC Ze))))))),?_⟩
  refine sq λ a9 a4=>?_
  have q0:(0:Int)<((iV J).length:Int):=by rw[cO];lia
  refine⟨_,rfl,_,_,rfl,rfl,Z0I,_,rfl,a,_,rfl,.inl ZG9,_,_,rfl,rfl,q0,?_⟩
  have w0:=F7 (c/6) (b:=((iV J).length:Int)) Z2
  have Z:=FW (c/6) q0
  generalize c/6%((iV J).length:Int)=F at w0 Z
  rw[cO] at Z
  have a2:atI (iV J) F=some (.int (cw J F)):=i9 w0 Z
  refine(sn a4 λ aa a5=>?_:a9 _ _ _)
  have a3:∀ (x:Int),∀ R:V->Hp->Prop,(∀ l W H',bj H H'->H' l=some (.lst (iV W))->W.length<=900->R Zv H') ->
    ∀ O,H O=none->∀ U,upd H O Z1V U=none->wZ ZQa ZXi (upd ZRB U ZJk) λ v H3=>tSl ZVo ZIz (u9 (tOp (rI0 λ i j=>V.int (i+j)) (cu 2) Z6G)) m9 [Z7S,Z1k,some (.int F)] H3 λ u H4=>wZ v u H4 R:=λ x R hR O Y U n2=>by
   obtain⟨Z,e1,z1⟩:=gT (ns:=J) (lo:=none) (hi:=some F)
   obtain⟨w2,e2,z2⟩:=gT (ns:=J) (lo:=some (F+1)) (hi:=none)
   have s1:=bj.new (o:=Z1V) Y
   have s2:=bj.new (o:=ZJk) n2
   have g1:=s2 _ _ (aU (H:=H) (a:=O) (o:=Z1V))
   have g2:=aU (H:=ZRB) (a:=U) (o:=ZJk)
   have a1:=Z2s
   generalize upd (upd H O (.lst (dU (iV J) none (some F)))) U (.lst [.int x])=H2 at g1 g2 a1 ⊢
   rw[e1] at g1
   refine⟨O,U,_,_,rfl,rfl,g1,g2,Gq (bE (by rw[cO];show Z.length+1<=1000;lia)),λ l3 n3=>?_⟩
   have s3:=bj.new (o:=.lst (iV Z++[ZCc])) n3
   have g3:=aU (H:=H2) (a:=l3) (o:=.lst (iV Z++[ZCc]))
   generalize upd H2 l3 (.lst (iV Z++[.int x]))=H3 at s3 g3 ⊢
   refine⟨_,rfl,_,rfl,_,_,rfl,rfl,_,rfl,a,_,rfl,SqL.of (s3 _ _ (a1 _ _ ha)),λ l4 n4=>?_⟩
   rw[e2]
   have s4:=bj.new (o:=ZQc) n4
   have g4:=aU (H:=H3) (a:=l4) (o:=ZQc)
   generalize upd H3 l4 (.lst (iV w2))=H4 at s4 g4 ⊢
   rw[iU] at g3
   refine⟨l3,l4,_,_,rfl,rfl,s4 _ _ g3,g4,Gq (bE (by rw[cO,cO,Fh,Fy];lia)),λ l5 n5=>?_⟩
   have s5:=bj.new (o:=.lst (iV (Z++[x])++iV w2)) n5
   exact hR l5 (Z++[x]++w2) _ (((a1.trans s3).trans s4).trans s5) (by rw[aU];unfold iV;simp only[FF]) (by rw[Fh,Fh,Fy];lia)
  refine⟨_,rfl,_,_,rfl,rfl,by show (0:Int)<6;decide,rfl,_,rfl,Z1v⟩
  ·exact⟨_,rfl,_,rfl,_,rfl,a,_,rfl,ZG9,λ O Y=>⟨_,rfl,_,rfl,a,_,_,_,rfl,rfl,ZTX,a2,_,_,rfl,rfl,by show 1<=sizeLine;decide,λ U n2=>Z5C⟩⟩
  refine(sn a5 λ ab a6=>?_:aa _ _ _)
  refine⟨_,rfl,_,_,rfl,rfl,by show (0:Int)<6;decide,rfl,_,rfl,Z1v⟩
  ·exact⟨_,rfl,_,rfl,_,rfl,a,_,rfl,ZG9,λ O Y=>⟨_,rfl,_,rfl,a,_,_,_,rfl,rfl,ZTX,a2,_,_,rfl,rfl,by show 1<=sizeLine;decide,λ U n2=>Z5C⟩⟩
  refine(sn a6 λ ad a7=>?_:ab _ _ _)
  refine⟨_,rfl,_,_,rfl,rfl,by show (0:Int)<24;decide,rfl,_,rfl,Z1v⟩
  ·obtain⟨Z,e1,z1⟩:=gT (ns:=J) (lo:=none) (hi:=some (-1))
   exact⟨_,rfl,1,rfl,_,rfl,a,_,rfl,ZG9,λ O Y=>k O Z _ ZWm (by rw[aU,e1]) Z2⟩
  refine(sn a7 λ af a8=>?_:ad _ _ _)
  subst a8
  refine⟨_,rfl,_,_,rfl,rfl,by show (0:Int)<24;decide,rfl,_,rfl,Z1v⟩
  ·refine⟨_,rfl,by show 1<=sizeLine;decide,λ O Y=>⟨a,O,_,_,rfl,rfl,ZC8,aU,Gq (bE (by rw[cO];show J.length+1<=1000;lia)),λ U n2=>?_⟩⟩
   exact k U (J++[0]) _ ((ZWm).trans (bj.new n2)) (by rw[aU,<- iU]) (by rw[Fh,Fy];lia)
  ·exact⟨_,rfl,k a J H Z4p ha Z2⟩
theorem oh:∀ {a b:List Int},a.Pairwise (· < ·)->b.Pairwise (· < ·)->(∀ z,z∈a↔z∈b)->a=b
 | [],[],_,_,_=>rfl
 | [],y::_,_,_,h=>absurd ((h y).mpr Fn) ZA
 | x::_,[],_,_,h=>absurd ((h x).mp Fn) ZA
 | x::a,y::b,pa,pb,h=>by
  have F:=Hd.mp pa
  have J:=Hd.mp pb
  have e:x=y:=by
   rcases Fi.mp ((h x).mp Fn) with q|q
   ·exact q
   ·rcases Fi.mp ((h y).mpr Fn) with r|r
    ·exact r.symm
    ·have:=J.1 x q
     have:=F.1 y r
     lia
  subst e
  rw[oh F.2 J.2 λ z=>?_]
  constructor
  ·intro O
   rcases Fi.mp ((h z).mp (Fo _ O)) with q|q
   ·have:=F.1 z O;lia
   ·exact q
  ·intro O
   rcases Fi.mp ((h z).mpr (Fo _ O)) with q|q
   ·have:=J.1 z O;lia
   ·exact q
theorem uP (A:DiA) (ln):A.brk ln=(A.ta.filter (A.brkE ln)).map (·.1):=by
 unfold DiA.brk
 rw[List.filter_map,List.filter_filter]
 congr 1
 refine List.filter_congr λ e _=>?_
 rw[Bool.and_comm];rfl
section
variable {A:LoA}{fs:List Int}{xss:List (List Int)}
def Abv (A:LoA) (fs:ZU) (ln:ZU):Prop:=∀ z,AlW A fs z->mI (cw z) A.A->∀ i:Nat,i<A.many->cw z i<=cw ln i
theorem qz {G H:Hp}{L:LoL}{n:Nat}(lo:Z07) (W:xss.length=A.many) (V:∀ (i:Nat) T xs,A.ths[i]? = some T->xss[i]? = some xs->AlO T (decide ((i:Int)∉fs)) xs) {z:ZU}(F:ZTq) {i:Nat}{xs:ZU}(O:xss[i]? = some xs):cw z i∈xs:=by
 have hi:i<A.many:=by rw[<- W];exact ZCw
 obtain⟨T,J⟩:∃ T,A.ths[i]? = some T:=⟨_,E9 (by rw[lo.c.len2];exact hi)⟩
 obtain⟨y,U⟩:∃ y,z[i]? = some y:=⟨_,E9 (by rw[F.1];exact hi)⟩
 rw[dG U]
 exact((V i T xs J O).iff y).mpr (F.2 i T y J U)
theorem zB (lo:Z07) (V:xss.length=A.many) (O:∀ (i:Nat) T xs,A.ths[i]? = some T->xss[i]? = some xs->AlO T (decide ((i:Int)∉fs)) xs) (h:LnO A xss z):ZTq:=by
 refine⟨h.1,λ i T y U J=>?_⟩
 obtain⟨xs,F⟩:∃ xs,xss[i]? = some xs:=⟨_,E9 (by rw[V,<- h.1];exact(ZRz).1)⟩
 exact((O i T xs U F).iff y).mp (h.2 i xs y F J)
theorem ou {G H:Hp}{L:LoL}{n:Nat}(lo:Z07) (J:Z7p) (al:∀ (i:Nat) T xs,A.ths[i]? = some T->xss[i]? = some xs->AlO T (decide ((i:Int)∉fs)) xs):∀ {ns:List Nm3}{ln F:List Int},LnO A xss ln->Abv A fs ln->dJ A.A xss ns ln=some F->LnO A xss F/\Abv A fs F
 | [],ln,F,h1,h2,e=>by cases e;exact ZR7
 | x::ns,ln,F,h1,h2,e=>by
  have e:(ij A.A xss ln x).bind (dJ A.A xss ns)=some F:=e
  cases f:A.A.ta.find? λ d=>decide (d.1=x) && A.A.brkE ln d with
  | none=>rw[show ij A.A xss ln x=none by unfold ij;rw[f];rfl] at e;cases e
  | some d=>
   have U:=Jo f
   have hp:=JN f
   rw[F5,F3] at hp
   obtain⟨rfl,Z⟩:=hp
   obtain⟨j,hj,jm,d1⟩:=lo.eH U
   obtain⟨xs,W⟩:∃ xs,xss[j]? = some xs:=⟨_,E9 (by rw[J.1];exact jm)⟩
   rw[iz lo.wf.nt U Z (xs:=xs) (by rw[hj,FE];exact W),hj,FE] at e
   obtain⟨a1,Y,_⟩:=J.down W d1
   have dm:rJ xs d.2∈xs:=(FN.mp (gN a1)).1
   refine ou lo J al (h1.set W dm) (λ z za zs i hi=>?_) e
   by_cases g:i=j
   ·subst g
    rw[dG (FG (by rw[h1.1];exact hi))]
    have zm:=qz lo J.1 al za W
    refine gO Y (FN.mpr ⟨zm,?_⟩)
    rw[F3]
    obtain⟨l,V,O,_,_⟩:=lo.lk.tp d U
    have rg:=lo.wf.rg l V
    have to:l.to=(i:Int):=by rw[<- hj,<- O,eU lo.wf.nd V]
    rw[mM lo.wf.nd V O,F5,Hi,F3,Gs,<- O] at Z
    refine Int.not_le.mp λ le=>Z.2 ?_
    have q1:=zs l V d U O.symm (by rw[to];exact le)
    obtain⟨h,hh⟩:=FR rg.1
    have q2:=h2 z za zs h ZV
    rw[<- hh] at q2
    omega
   ·have:=h2 z za zs i hi
    unfold cw at this ⊢
    rw[FE,ZMn]
    rw[FE] at this
    exact this
theorem kW {G H:Hp}{L:LoL}{n:Nat}{ns:Z1w}{ln lg:ZU}(lo:Z07) (F:Z7p) (J:∀ (i:Nat) T xs,A.ths[i]? = some T->xss[i]? = some xs->AlO T (decide ((i:Int)∉fs)) xs) (e:dJ A.A xss ns Zs=some ln) (b:A.A.brk ln=[]) (gl:Gl A fs lg):lg=ln:=by
 have W:Abv A fs Zs:=λ z za _ i hi=>by
  obtain⟨xs,U⟩:∃ xs,xss[i]? = some xs:=⟨_,E9 (by rw[F.1];exact hi)⟩
  rw[gm U]
  exact gO (F.2.1.asc i xs U) (qz lo F.1 J za U)
 obtain⟨V,l2⟩:=ou lo F J (LnO.top F) W e
 obtain⟨O,g2,g3⟩:=gl
 have sd:mI (cw ln) A.A:=λ l hl d hd ed le=>by
  refine Classical.byContradiction λ ns=>?_
  have:d.1∈A.A.brk ln:=by
   rw[uP]
   refine Fq (FN.mpr ⟨hd,?_⟩)
   rw[mM lo.wf.nd hl ed.symm,F5,Hi,F3,Gs,ed]
   exact⟨le,ns⟩
  rw[b] at this;cases this
 refine Z5j
 by_cases hi:i<A.many
 ·have h1:=l2 lg O g2 i hi
  have h2:=g3 ln (zB lo F.1 J V) sd i hi
  have Y:=E9 (l:=lg) (i:=i) (by rw[O.1];exact hi)
  have Z:=E9 (l:=ln) (i:=i) (by rw[V.1];exact hi)
  rw[dG Y,dG Z] at h1 h2
  rw[Y,Z]
  exact congrArg some (Int.le_antisymm h1 h2)
 ·rw[Gr (by rw[O.1];omega),Gr (by rw[V.1];omega)]
theorem wA (lo:Z07) (Z:xss.length=A.many) (ly:yss.length=A.many) (Y:∀ (i:Nat) T xs,A.ths[i]? = some T->xss[i]? = some xs->AlO T (decide ((i:Int)∉fs)) xs)
  (F:∀ (i:Nat) T xs,A.ths[i]? = some T->yss[i]? = some xs->AlO T (decide ((i:Int)∉fs)) xs):yss=xss:=by
 refine Z5j
 by_cases hi:i<A.many
 ·obtain⟨T,W⟩:∃ T,A.ths[i]? = some T:=⟨_,E9 (by rw[lo.c.len2];exact hi)⟩
  have U:=E9 (l:=yss) (i:=i) Z2
  have V:=E9 (l:=xss) (i:=i) Z2
  rw[U,V]
  have J:=F i T _ W U
  have O:=Y i T _ W V
  exact congrArg some (oh J.1 O.1 λ y=>by rw[J.2 y,O.2 y])
 ·rw[Gr Z2,Gr Z2]
end
theorem A7 (e:H b=some Z8G) (q:Q ZCh H):hV K false .non Za H Q:=by
 have F:Z2t:=ZCb
 refine⟨.none,_,.non,.lst ZNt eZ,(okD.none (n:=1)).shaped Z3,ZHu,?_⟩
 rw[ZAU]
 exact q
theorem eqD (J:Rp K H x d) (O:Rp K H y d) (F:ZAM) (l:n<=64) (q:Q (.bl (!neg)) H):hV K neg x y H Q:=by
 refine⟨d,d,J,O,ZTk,ZTk,?_⟩
 rw[F.self]
 cases neg<;>exact q
theorem wY {ns:Z1w}:okD 3 (.list (ns.map λ n=>PyData.tuple Zy)):=.list (n:=2) λ d F=>by
 obtain⟨e,_,rfl⟩:=Fw.mp F
 exact mJ
def x8 (K:W.Frag) (ts:Z09):Sp:=λ vs H Q _=>∃ a ns,vs=[ZY]/\SqL K H a Z2O/\ns.length<=63/\(∀ P∈ts,H P=some (.tbl #[]))/\∀ H,Q Z3O H
set_option maxHeartbeats 4000000 in
theorem yX (T:ZN) (Tb:ZQW):bR P w K mg base ZT 9 t.f_law t.fd_law Z4H (x8 K t.ts):=by
 refine T.F_law.okN dF ZB ZJ
 ·obtain⟨a,ns,rfl,_⟩:=h;rfl
 ·obtain⟨a,ns,rfl,ha,_,tab,k⟩:=h
  refine⟨_,(aW (bz (i:=1) dF.nd rfl Z6 (bA (Dx (K:=K) T Tb) Z7 rfl T.mg_cx T.kp_cx T.b_cx .nil bo ZEZ))
   (aW (bz (i:=2) dF.nd rfl Z6 (bA (Cz (K:=K) T) Z7 rfl T.mg_cb T.kp_cb T.b_cb .nil bo (bf ZM (bf (bu (K:=K) ZQ rfl) aZ))))
   (aW (bz (i:=3) dF.nd rfl Z6 (bA (Dr (K:=K) T) Z7 rfl T.mg_bo T.kp_bo T.b_bo .nil bo Z6w))
   (aW (jg (bA (BP (K:=K) T) Z7 rfl T.mg_co T.kp_co T.b_co .nil bo (bf ZQ (bf Z1i (bf ZM aZ)))) Z2l)
   (aW (jg (bA (Bo (K:=K) T) Z7 rfl T.mg_cd T.kp_cd T.b_cd .nil bo (bf ZQ (bf Z1i (bf Z0C ZIH)))) Z2l)
   (aW (bz (i:=6) dF.nd rfl Z6 (bA (Bw (K:=K) T) Z7 rfl T.mg_cz T.kp_cz T.b_cz .nil bo (bf ZQ (bf Z1i Z2B))))
   (aW (bX (bH iO Z2E fX Z0F)
    (bg (bz (i:=5) dF.nd rfl Z6 Z2E))
    bM)
   (aW (bz (i:=5) dF.nd rfl Z6 (bA (Am (K:=K) T) Z7 rfl T.mg_ap T.kp_ap T.b_ap .nil bo ZIH))
   (aW (bz (i:=7) dF.nd rfl Z6 (cg (bf (cF ZS_ rfl T.no_list iu Z1p) (bf (cF ZS_ rfl T.no_list iu Z3K) (bf Z8T aZ)))))
   (aW (bz (i:=8) dF.nd rfl Z6 (bA (D3 (K:=K) T) Z7 rfl T.mg_dj T.kp_dj T.b_dj .nil bo (bf ZQ (bf Z8U (bf Z8U (bf Z8U aZ))))))
   (aW (bz (i:=9) dF.nd rfl Z6 (fL (cX Z2F Z2E Z01 Z0F) (fL (cX iO Z2E fX Z0F) (fu (cX Z2F (bA (mh (K:=K) T) Z7 rfl T.mg_cc T.kp_cc T.b_cc .nil bo (bf ZQ Z0z)) Z3S Z0F)))))
   (aW (bX (PW.pt (eK (cM (cC (bL Z6v rfl T.no_isinstance da (bf Z9x Z5x)))) (eK (bH qM Z9x ZGd Z0F) (eg (bH Z5M ZCk (cg (bf Zj (bf Z01 Z2B))) Z0F)))))
    Z2U
    bM)
   (bg (bC (yG (kr ZGd) (fu (cX Z2F (bF Zp (bA (AJ (K:=K) T) Z7 rfl T.mg_bc T.kp_bc T.b_bc .nil bo Z6w) bh ZC) Z01 Z0F))))))))))))))))),?_⟩
  refine Z37
  refine tcl ZS ⟨a,ns,rfl,ha,.inl (tab _ T.tin_cx),λ G H1 L A n hn lo b0 ha1=>?_⟩
  refine(sn ee1 λ rr2 ee2=>?_:Z9_)
  have m2:=lo.m2
  refine⟨_,rfl,a,ns,4,rfl,ha1,Z3,λ c4=>⟨_,rfl,L.p,_,L.dx,_,_,rfl,lo.c.self,T.cl_Loom,T.na_db,rfl,c4,A.many,rfl,Z2,Z2,λ f fs H2 s2 nf ef lf=>?_⟩⟩
  refine(sn ee2 λ rr3 ee3=>?_:Z9Z)
  refine tcl Z1O ⟨G,L,A,n,f,fs,rfl,ZAN,hn,SqL.of ef,λ al qs xss H3 s3 nal nqs ll lx alO=>?_⟩
  have aw:=lo.awO hn b0 lx alO
  refine(sn ee3 λ rr4 ee4=>?_:Z9Y)
  have s13:=ZHX
  refine⟨_,rfl,_,rfl,_,rfl,a,ns,5,rfl,s13.seq ha1,Z3,λ c5=>⟨G,L,A,n,al,qs,xss,c5,rfl,lo.same s13,hn,ll,aw,λ q lp lr pls ns' ln H4 s4 e1 e2 nm few e4 len=>?_⟩⟩
  refine⟨q,_,rfl,ZVC,rfl,_,_,rfl,_,_,rfl,rfl,?_⟩
  refine(sn ee4 λ rr5 ee5=>?_:ZC0)
  have s14:=s13.trans s4
  refine⟨_,rfl,_,rfl,_,rfl,_,rfl,_,rfl,a,ns,6,rfl,s14.seq ha1,Z3,λ c6=>⟨G,L,A,n,al,qs,xss,lp,pls,ns',lr,ln,c6,rfl,lo.same s14,hn,ZT9,aw,e2,nm,few,e4,len,λ q' p r pls ns' ln H5 s5 e1 e2 nm few e4 len=>?_⟩⟩
  refine⟨q',_,rfl,ZVC,rfl,_,_,rfl,_,_,rfl,rfl,?_⟩
  refine(sn ee5 λ rr6 ee6=>?_:rr5 _ _ _)
  have s15:=s14.trans s5
  have ll5:=ll.same Z3k
  have ef5:=(ZN7) _ _ ef
  have main:∀ (v:V) (H6:Hp),bj H5 H6->((v=.non/\dJ A.A xss ns' Zs=none)\/∃ l lnL,v=.ref l/\H6 l=some (.lst (iV lnL))/\lnL.length=A.many/\dJ A.A xss ns' Zs=some lnL) ->
    rr6 { nx:=λ x H'=>Z88,rt:=Q } [Z7S,Z2G,Z38,Z3U,Z5z,ZEi,Z4c,none,none,none] H6:=λ v H6 s6 hv=>by
   refine(sn ee6 λ rr7 ee7=>?_:rr6 _ _ _)
   have s16:=s15.trans s6
   have main2:∀ (la:Addr) (ln0:List Int),H6 la=some (.lst (iV ln0))->ln0.length=A.many ->
     rr7 { nx:=λ x H'=>Z88,rt:=Q } [Z7S,Z2G,Z38,Z3U,Z5z,some (.ref la),Z4c,none,none,none] H6:=λ la ln0 ela len0=>by
    refine(sn ee7 λ rr8 ee8=>?_:rr7 _ _ _)
    refine⟨_,rfl,_,rfl,a,ns,7,rfl,s16.seq ha1,Z3,λ c7=>⟨la,ln0,c7,rfl,ela,Z2,Z2,λ o ln1 H7 s7 eo z1=>?_⟩⟩
    refine(sn ee8 λ rr9 ee9=>?_:rr8 _ _ _)
    have s57:=s6.trans s7
    have s17:=s15.trans s57
    have ef7:=s57 _ _ ef5
    have ep7:=s57 _ _ e2
    have nm7:=nm.same s57
    refine⟨_,rfl,f,_,rfl,.inl (SqL.of ef7),λ h1 n1=>?_⟩
    have s8:=bj.new (o:=ZIq) n1
    have g1:=aU (H:=H7) (a:=h1) (o:=ZIq)
    generalize upd H7 h1 (.lst (iV fs))=H8 at s8 g1 ⊢
    refine⟨_,rfl,o,_,rfl,.inl (SqL.of (s8 _ _ eo)),λ h2 n2=>?_⟩
    have s9:=bj.new (o:=ZOX) n2
    have g2:=aU (H:=H8) (a:=h2) (o:=ZOX)
    generalize upd H8 h2 (.lst (iV ln1))=H9 at s9 g2 ⊢
    have s79:=ZRD
    refine⟨_,rfl,p,_,rfl,.inl (SqL.of (s79 _ _ ep7)),λ h3 n3=>⟨by show 3<=sizeLine;decide,λ hh nh=>?_⟩⟩
    have s10:=(bj.new (o:=ZXE) n3).trans (bj.new (o:=Z54) nh)
    have g3:=bj.new (o:=Z54) nh _ _ (aU (H:=H9) (a:=h3) (o:=ZXE))
    have g4:=aU (H:=upd H9 h3 Z6b) (a:=hh) (o:=Z54)
    generalize upd (upd H9 h3 (.lst pls)) hh (.lst [.ref h1,.ref h2,.ref h3])=H10 at s10 g3 g4 ⊢
    have s710:=s79.trans s10
    have g1:=(ZPt) _ _ g1
    have g2:=s10 _ _ g2
    refine(sn ee9 λ rr10 ee10=>?_:rr9 _ _ _)
    have s110:=s17.trans s710
    refine⟨_,rfl,_,rfl,hh,_,0,.ref h1,rfl,rfl,ZLG,rfl,_,rfl,hh,_,1,.ref h2,rfl,rfl,ZLG,rfl,_,rfl,hh,_,2,.ref h3,rfl,rfl,ZLG,rfl,G,L,A,n,h1,fs,h2,ln1,h3,pls,ns',rfl,lo.same s110,hn,b0,SqL.of g1,g2,z1,g3,nm7.same s710,λ yss H11 s11 ly al'=>?_⟩
    obtain rfl:=wA lo lx ly alO al'
    refine(sn ee10 λ rr11 ee11=>?_:rr10 _ _ _)
    have s711:=s710.trans s11
    have s611:=s7.trans s711
    have s111:=s110.trans s11
    have due:∀ R:V->Hp->Prop,(∀ H12,bj H11 H12->R ZDK H12)->uu (tOp ZB3 Z9z ZIy) (uu (tOp (λ x y H Q=>y=V.non/\Q (V.bl !decide (x=V.non)) H) Z9z (tC V.non)) (tOp ZB3 (rz ZXQ [] ER0 (dH ZLw ZSd)) ZSW)) [Z7S,Z2G,Z38,Z3U,Z5z,some ZPh,Z4c,some (.ref hh),some ZDK,none] H11 R:=λ R hR=>by
     unfold gE at hR
     rcases hv with ⟨rfl,eN⟩|⟨l,lnL,rfl,el,lenL,eS⟩
     ·rw[eN] at hR
      exact⟨_,rfl,_,rfl,A7 ZOs ⟨_,rfl,iy ZTG⟩⟩
     ·rw[eS] at hR
      refine⟨_,rfl,_,rfl,eqI ZOt ZOs Z7P⟩
      ·refine⟨_,rfl,rfl,_,rfl,eT (by rw[Gm (λ h=>by cases h)];rfl) ?_⟩
       refine tcl Z1O ⟨G,L,A,n,l,lnL,rfl,lo.same s111,hn,SqL.of ZOt,lenL,λ lb ls es H12 s12 nlb elb br pm=>⟨Z3,λ c nc=>?_⟩⟩
       have s13:=ZIc
       refine eqE (s13 _ _ elb) (br.keep λ c xs e=>s13 _ _ e) aU ?_
       have:=hR _ ZEl
       dsimp only at this
       rw[z,Jx,uP] at this
       have ee:es.isEmpty=((A.A.ta.filter (A.A.brkE lnL)).map (·.1)).isEmpty:=by
        have hl:=pm.length_eq
        cases es<;>cases hz:A.A.ta.filter (A.A.brkE lnL)<;>rw[hz] at hl<;>first|rfl|cases hl
       rw[ZAU,ee]
       exact this
      ·have:=ZTG
       dsimp only at this
       rw[Ip z,Jn] at this
       exact this
    refine due _ λ H12 s12=>?_
    refine(sn ee11 λ rr12 ee12=>?_:rr11 _ _ _)
    have s712:=s711.trans s12
    have s1012:=s11.trans s12
    have s112:=s111.trans s12
    refine⟨_,rfl,_,_,.plain (.bl _),ZL3,_,rfl,cD rfl ⟨_,rfl,_,rfl,rfl,_,rfl,cD ZA ⟨_,rfl,_,rfl,_,rfl,_,rfl,by show 3<=sizeLine;decide,λ c nc=>?_⟩⟩⟩
    have s13:=bj.new (o:=ZGU) nc
    have g5:=aU (H:=H12) (a:=c) (o:=ZGU)
    generalize upd H12 c (.lst [.ref f,.ref o,.ref p])=H13 at s13 g5 ⊢
    have s713:=s712.trans s13
    have s1013:=s1012.trans s13
    have okI:∀ {ns:List Int},Z2t:=ZCb
    refine eqD (.lst (SqL.of (s1013 _ _ g4)) (.cons (.lst (SqL.of (s1013 _ _ g1)) eZ) (.cons (.lst (SqL.of (s1013 _ _ g2)) eZ) (.cons (.lst (SqL.of (s1013 _ _ g3)) (nm7.same (s710.trans s1013)).rp) .nil)))) (.lst (SqL.of g5) (.cons (.lst ZGA eZ) (.cons (.lst (SqL.of (s713 _ _ eo)) eZ) (.cons (.lst (SqL.of (s713 _ _ ep7)) (nm7.same s713).rp) .nil)))) (.list (n:=3) λ d hd=>?_) Z3 Z2r
    ·rcases Fi.mp hd with rfl|hd
     ·exact okI
     ·rcases Fi.mp hd with rfl|hd
      ·exact okI
      ·rw[Fd] at hd
       rw[hd];exact wY
    subst ee12
    have s113:=s112.trans s13
    refine⟨_,rfl,_,rfl,_,rfl,cU (λ z=>k _) λ z=>?_⟩
    have z':gE A.A yss ns' ln1=true:=by simpa using z
    unfold gE at z'
    refine tcl Z1O ⟨G,L,A,n,f,fs,rfl,lo.same s113,hn,ZGA,λ pt l pa lg ls nsG H14 s14 nl w1 w2 w3 nmG gl=>⟨pt,_,0,Z8g,rfl,rfl,SqT.of w1,rfl,_,rfl,eqI w2 ((s713.trans s14) _ _ eo) ?_⟩⟩
    cases eL:dJ A.A yss ns' (yss.map cn) with
    | none=>rw[eL] at z';cases z'
    | some lnL=>
     rw[eL] at z'
     dsimp only at z'
     rw[F5,F3] at z'
     obtain⟨rfl,zb⟩:=z'
     rw[kW lo aw alO eL (List.isEmpty_iff.mp zb) gl,ZQV]
     exact k _
   rcases hv with ⟨rfl,eN⟩|⟨l,lnL,rfl,el,lenL,eS⟩
   ·exact⟨_,rfl,rfl,_,rfl,cD (by rw[ZQV];rfl) (main2 r ln (s6 _ _ e4) len)⟩
   ·exact⟨_,rfl,rfl,_,rfl,eT (by rw[Gm (λ h=>by cases h)];rfl) ⟨_,rfl,main2 l lnL el lenL⟩⟩
  exact tcl ZNF ⟨G,L,A,n,al,qs,xss,p,pls,ns',rfl,lo.same s15,hn,ll5,aw,e2,nm,λ H6 s6 eN=>main .non H6 s6 (.inl ⟨rfl,eN⟩),λ l lnL H6 s6 nl el lenL eS=>main Zv H6 s6 (.inr ⟨l,lnL,rfl,el,lenL,eS⟩)⟩
end
def xC:Nat->(List Value->Prop)->Prop
 | 0,P=>P []
 | n+1,P=>∀ a,xC n λ l=>P (a::l)
theorem xC.at:∀ {P:List Value->Prop},xC n P->∀ us:List Value,us.length=n->P us:=by
 induction n with
 | zero=>
  intro P h us e
  rw[GO e]
  exact h
 | succ n F=>
  intro P h us e
  cases us with
  | nil=>cases e
  | cons a l=>exact F (h a) l (Nat.succ.inj e)
theorem bd (h:xC ps.length λ us=>bindArgs fd Z5Y=pure Z9a):Binds K fd ps []:=.all λ us F=>h.at us F
theorem walk {l:W.OpenLaw}{q:Program}{loose:Zo}{XP:(Str->Option Value)->Heap->Prop}{YP:World->Heap->Prop}{d:DefRec}{K:Params->W.Frag}(ts:Z09) (hn:l.most=some 63) (hdf:d.params.defaults=[])
  (hY:∀ (w:World) (h:Heap),YP w h->(Z3E).In h) (hT:∀ (w:World) (h:Heap),YP w h->∀ P∈ts,h.get? P=some (W.tabObj #[]))
  (F:∀ (w:World) (mg:Str->Option Value) (fa:Addr) (h:Heap),(Z3E).In h->h.Ns mainGlobals mg->mg d.name=some (.ref fa) ->
   ∃ t:Adr,Txt Z3E mg t/\t.f_law=fa/\t.ts=ts/\∀ (s:Shared) (v:Value),BindsTo s t.fd_law ⟨[v],[]⟩ [("_law_script",v)]) :
  W.WalkO q loose XP YP l.row.toRowW d [] Z5u:=
 L2.vc (n:=63) (k:=9) (x:="_law_script") (CX:=λ w=>CXr l.prog w) (sp:=λ w=>x8 Z3E ts) ts hn Z3 hdf ⟨rfl,Z3,Z3⟩ hY hT
  (λ w mg fa h kin G hmg=>by
   obtain⟨t,T,e,e2,b⟩:=F w mg fa h kin G hmg
   subst e;subst e2
   exact⟨t.fd_law,[(t.cd_cx,t.tb_cx)],List.forall_mem_cons.mpr ⟨⟨T.tab_cx,T.tn_cx,T.tin_cx⟩,List.forall_mem_nil _⟩,T.tall,b,λ base _ _ tb=>yX T ⟨tb _ Fn⟩⟩)
  (λ _ H a ns hl hH hS=>⟨a,ns,rfl,hS,hl,hH,λ _=>rfl⟩) λ _ _ _ _ _ z=>by
   obtain⟨_,_,_,_,_,_,z⟩:=z
   exact z
end B
open PySem PySem.W PyProof.Rows
namespace PySem.W.Fast
def tw9690677877035002177:=Prop
def tw14313673494677304865:=Prop
def tw11053536368100050762:=Prop
def tw6113659230979782393:=Prop
def tw7018300994101752402:=Prop
def tw9999519917024993193:=Prop
def tw8700525205107581735:=Prop
def tw8200931512722582792:=Prop
def tw17280144061498775015:=Prop
def tw10351651653147552223:=Prop
def tw12859178953265754844:=Prop
def tw17449735560701044085:=Prop
def tw1735999745386308834:=Prop
def tw1444811331017439152:=Prop
def tw2114564921033037909:=Prop
def tw7707905995206238233:=Prop
def tw10326484726211052694:=Prop
def tw3308745198265584088:=Prop
def tw4608663307671305500:=Prop
def tw16751660187841630414:=Prop
def tw15364306878596839985:=Prop
def tw18019877510884239236:=Prop
def tw6109077403686625134:=Prop
def tw6082951477083711650:=Prop
def tw5286820347046304899:=Prop
def tw7767324806534807958:=Prop
def tw2308294295371646938:=Prop
def tw13835650738483183724:=Prop
def tw3404545712861979699:=Prop
def tw1529932310527705798:=Prop
def tw7411424317707789718:=Prop
def tw13923080417457049841:=Prop
def tw9586614600157195873:=Prop
def tw15959523133048629514:=Prop
def tw10120437027167401235:=Prop
def tw359805769625717382:=Prop
def tw12306458117070666637:=Prop
def tw3316344632466122090:=Prop
def tw12233239543693970304:=Prop
def tw6880930428246579131:=Prop
def tw393105214788961823:=Prop
def tw7605271083524584029:=Prop
def tw14987261524606969101:=Prop
def tw11993597408172549382:=Prop
def tw6117822476468405433:=Prop
def tw3779061475821110644:=Prop
def tw9455375276458190590:=Prop
def tw9934570001599243958:=Prop
def tw986134061468867457:=Prop
def tw14191582340101005738:=Prop
def tw17545207464981615658:=Prop
def tw2360676660401658875:=Prop
def tw6129006182881364861:=Prop
def tw8927164520175761458:=Prop
def tw6683931003914726587:=Prop
def tw38018261538630045:=Prop
def tw5454284113255157366:=Prop
def tw2475488591613763825:=Prop
def tw17806079739510122911:=Prop
def tw10676713375482239685:=Prop
def tw3306018841260099212:=Prop
def tw3283607544880758536:=Prop
def tw7030899741644426730:=Prop
def tw12056922427195146780:=Prop
def tw3695084949848127246:=Prop
def tw4155365520950141176:=Prop
def tw17354091673125841619:=Prop
def tw11861283023022043703:=Prop
def tw5719282357678818573:=Prop
def tw7144758401559219505:=Prop
def tw862412838929707113:=Prop
def tw1343512597478766800:=Prop
def tw17559543608391011683:=Prop
def tw3224001374225007379:=Prop
def tw13797908388769573091:=Prop
def tw15390358670758253385:=Prop
def tw4063184064968481955:=Prop
def tw17452254025343881283:=Prop
def tw18067446500405432195:=Prop
def tw4888791637825812126:=Prop
def tw2117296999091461924:=Prop
def tw1794925346626628321:=Prop
def tw4506048436981223776:=Prop
def tw5270558166870589813:=Prop
def tw11423954920764479709:=Prop
def tw15323658054733260197:=Prop
def tw7288027634115417592:=Prop
def tw7474779027454229091:=Prop
def tw13238028790401102550:=Prop
def tw14078115235686008817:=Prop
def tw4432154517078572169:=Prop
def tw13064194912185491602:=Prop
def tw252635837155233471:=Prop
def tw65665676228882958:=Prop
def tw1575743910522178891:=Prop
def tw10957902428677143555:=Prop
def tw3237644539198873555:=Prop
def tw3770539132866919188:=Prop
def tw2526274196616694123:=Prop
def tw10741955077725544630:=Prop
def tw11893360505151320862:=Prop
def tw12050522937645904114:=Prop
def tw6324541742938890966:=Prop
def tw17446326946096379394:=Prop
def tw7526013496808693242:=Prop
def tw2675856194400162167:=Prop
def tw15298533798436531723:=Prop
def tw8453930919354467478:=Prop
def tw3878214199294476716:=Prop
def tw15058686872220015358:=Prop
def tw7135209652722683478:=Prop
def tw8445070216081217295:=Prop
def tw12759974606186721109:=Prop
def tw17502273646699969535:=Prop
def tw1446916752723656174:=Prop
def tw9338897800450382718:=Prop
def tw758052637991787402:=Prop
def tw13635131886583490183:=Prop
def tw7796572892819263245:=Prop
def tw16667042384799399750:=Prop
def tw16767047571084219991:=Prop
def tw3295452224390460764:=Prop
def tw13871409900851173657:=Prop
def tw17985223911454959859:=Prop
def tw18099180647849305707:=Prop
def tw16674786272228975500:=Prop
def tw16088180267595840295:=Prop
def tw8690980832842278392:=Prop
def tw5018652826337201356:=Prop
def tw6095694119470730007:=Prop
def tw2654955400250348018:=Prop
def tw13612047432941695741:=Prop
def tw616872119985468817:=Prop
def tw16620359996471005080:=Prop
def tw6474599599456938662:=Prop
def tw2057874208217281622:=Prop
def tw4079259489366435837:=Prop
def tw12064410671930306355:=Prop
def tw17581842769442510331:=Prop
def tw362696268184949933:=Prop
def tw7979115204637625168:=Prop
def tw16406719321102164726:=Prop
def tw15717118434801900405:=Prop
def tw12442221572234562903:=Prop
def tw437742337861853822:=Prop
def tw13068547198071449061:=Prop
def tw17852502641837539693:=Prop
def tw11204581799479403033:=Prop
def tw8428632884530827123:=Prop
def tw11572913688941617428:=Prop
def tw15291781869192885110:=Prop
def tw12218062364164811246:=Prop
def tw1522760806308154983:=Prop
def tw9098760665186019809:=Prop
def tw14186807049750117880:=Prop
def tw5726033525842741872:=Prop
def tw1168403907815346408:=Prop
def tw15866106050166836410:=Prop
def tw8317566385500396385:=Prop
def tw13358055339745648111:=Prop
def tw11747093371412882707:=Prop
def tw18123815097490136247:=Prop
def tw1711085722689801370:=Prop
def tw2370286940675022240:=Prop
def tw4958161850928319003:=Prop
def tw5547674877195032539:=Prop
def tw14629404919073065198:=Prop
def tw13948116845360656428:=Prop
def tw2630896966059002931:=Prop
def tw456081606803474407:=Prop
def tw5459162895310044824:=Prop
def tw2017399579729852051:=Prop
def tw5662776350521013627:=Prop
def tw11955173810852412509:=Prop
def tw812945245879278317:=Prop
def tw1859274528813015967:=Prop
def tw6826702996077286585:=Prop
def tw9258845795810449452:=Prop
def tw14287576523063496880:=Prop
def tw8097019792606096002:=Prop
def tw10557505808060144712:=Prop
def tw15399579523245767613:=Prop
def tw16001505154265869784:=Prop
def tw9174733562357572403:=Prop
def tw14950205144338247918:=Prop
def tw14692171822304693940:=Prop
def tw1239999179158684958:=Prop
def tw12522522907442453813:=Prop
def tw13674651147493468832:=Prop
def tw12031615149371176920:=Prop
def tw1229961847499803628:=Prop
def tw16955214187946014208:=Prop
def tw17255946949984358461:=Prop
def tw4670650444970365236:=Prop
def tw7731475911148569689:=Prop
def tw5730417917367036065:=Prop
def tw15867089062346982433:=Prop
def tw497664126887165157:=Prop
def tw12457813513995892581:=Prop
def tw12123777535528698916:=Prop
def tw13917162132898106037:=Prop
def tw17776773173201180866:=Prop
def tw4025739894874314636:=Prop
def tw7626161086083772178:=Prop
def tw18158366965520822711:=Prop
def tw13697277936846822924:=Prop
def tw10253298705636331643:=Prop
def tw16955196571592457581:=Prop
def tw15309830530320660293:=Prop
def tw2332180400829436242:=Prop
def tw17533070854177124896:=Prop
def tw4181449038618899520:=Prop
def tw3923816548183374174:=Prop
def tw12571171750554524187:=Prop
def tw18424403718084308561:=Prop
def tw13451875254403114021:=Prop
def tw14807507600110736696:=Prop
def tw13533664845815672796:=Prop
def tw17591300238776488913:=Prop
def tw230346049099736935:=Prop
def tw4033510920969877034:=Prop
def tw1106190058959345130:=Prop
def tw7076380983364838116:=Prop
def tw18338624100955728839:=Prop
def tw13661546192956719394:=Prop
def tw12523795864651465532:=Prop
def tw799428249437241720:=Prop
def tw18293756107296746105:=Prop
def tw16168712157888182341:=Prop
def tw13920645444188580328:=Prop
def tw15286059735702574380:=Prop
def tw8161356741610246264:=Prop
def tw4589999353632216677:=Prop
def tw3150258644503566587:=Prop
def tw6758330753763488867:=Prop
def tw13537067933990542081:=Prop
def tw1965452224908189265:=Prop
def tw1556899382466947466:=Prop
def tw6292067931698983329:=Prop
def tw6998167044127909938:=Prop
def tw1070041611221143636:=Prop
def tw6843139108152054644:=Prop
def tw5875131791543373133:=Prop
def tw6738034301734227648:=Prop
def tw7325661627251318621:=Prop
def tw5223910274592793360:=Prop
def tw13092373479542817940:=Prop
def tw5530418471919404884:=Prop
def tw13875718163467711746:=Prop
def tw10232444422125336996:=Prop
def tw12023103566978157306:=Prop
def tw1559452041083027625:=Prop
def tw7974744427386957004:=Prop
def tw6980163735222151793:=Prop
def tw16667695373799349348:=Prop
def tw13984902440234153273:=Prop
def tw13291762228955390590:=Prop
def tw14452679128807045482:=Prop
def tw11543133070433115916:=Prop
def tw14242865583238854732:=Prop
def tw8856623317802269283:=Prop
def tw4005405131208245507:=Prop
def tw17543432445661174317:=Prop
def tw7753505075983450797:=Prop
def tw10847118567669215879:=Prop
def tw16416913253152160994:=Prop
def tw6298220439170935245:=Prop
def tw10731077066791731267:=Prop
def tw13916576098828359261:=Prop
def tw15094780901370789223:=Prop
def tw11606965528862935201:=Prop
def tw6854568672770393529:=Prop
def tw6466688865775095282:=Prop
def tw3309514268203131190:=Prop
def tw10456787610495040186:=Prop
def tw7279154925495202772:=Prop
def tw8561290847898041442:=Prop
def tw7358093640374740224:=Prop
def tw2012526530758976194:=Prop
def tw15245131685985829872:=Prop
def tw4247897815730852114:=Prop
def tw2421953583471441196:=Prop
def tw5960036427398563263:=Prop
def tw11009827750986117425:=Prop
def tw15400285179744478428:=Prop
def tw13541480887292581596:=Prop
def tw10182530177136882466:=Prop
def tw807937397064110765:=Prop
def tw8087452350998146752:=Prop
def tw15216465922744627367:=Prop
def tw12647035376838529906:=Prop
def tw3686056857428221685:=Prop
def tw15544258747558287385:=Prop
def tw572093709653843807:=Prop
def tw6661418119971191946:=Prop
def tw2652663128027982718:=Prop
def tw6042942075058201232:=Prop
def tw13925530648354646924:=Prop
def tw2035041486069802047:=Prop
def tw12412961906649122959:=Prop
def tw16595523606264764837:=Prop
def tw3043939612503243285:=Prop
def tw10417257627822862511:=Prop
def tw14631555597273801118:=Prop
def tw3511464184912573684:=Prop
def tw694813885416253765:=Prop
def tw5474495586811943598:=Prop
def tw13627910127477257382:=Prop
def tw12767017781635023583:=Prop
def tw17631048641089721870:=Prop
def tw2382407217074980058:=Prop
def tw4126338947936161899:=Prop
def tw1468148238146438529:=Prop
def tw7572283286451361979:=Prop
def tw1001268791525200265:=Prop
def tw2495933743307907858:=Prop
def tw8664813127667049630:=Prop
def tw1552581355217983238:=Prop
def tw6894344716371189928:=Prop
def tw5257706565493782382:=Prop
def tw10497342696655878788:=Prop
def tw1523042497890551447:=Prop
def tw12624768466822461402:=Prop
def tw8957254228512192038:=Prop
def tw7989855166055524016:=Prop
def tw15286642130520440419:=Prop
def tw701419363280482377:=Prop
def tw1295916718508414618:=Prop
def tw4230230217585995232:=Prop
def tw12781160903373438940:=Prop
end PySem.W.Fast
end
set_option maxRecDepth 100000 in
set_option maxHeartbeats 0 in
theorem PySem.Challenge.cw_backline_k32_what_is_shown_holds : PySem.Challenge.rw_backline_k32_what_is_shown.Holds := by
 w_on;o_law;k_head;(case hw=>w_witness2)
 k_fill
 refine B.walk (l:=PySem.Challenge.rw_backline_k32_what_is_shown) _ rfl rfl (λ w h Y=>W.km_in_of Y) (λ w h Y=>W.km_tabs_of Y) ?F
 case F=>
  intro w mg fa h kin G hmg
  cases hmg.symm.trans (W.mg_of (n:="law") kin G (by k_is))
  clear hmg
  constructor
  case' w=>constructor
  case' h=>refine⟨?T,?e,?u,?b⟩
  case e=>exact rfl
  case u=>exact rfl
  case T=>
   constructor
   all_goals try dsimp only
   try any_goals exact W.mg_none_of kin G (by k_is)
   try any_goals exact W.mg_of kin G (by k_is)
   try any_goals exact⟨_,W.mg_of kin G (by k_is)⟩
   try any_goals exact⟨by k_is,by k_is,by k_is,by k_is⟩
   try any_goals exact⟨by k_is,by k_is,by k_is⟩
   try any_goals exact L2.zR (by k_is) (by k_is) (by k_is)
   try any_goals exact(rfl:FuncData.code _=_)
   try any_goals (unfold B.Df;exact⟨_,_,_,_,by k_is,by rfl⟩)
   try any_goals first|exact B.bd λ _=>rfl|exact B.bd λ _ _=>rfl|exact B.bd λ _ _ _=>rfl|exact B.bd λ _ _ _ _=>rfl|exact B.bd λ _ _ _ _ _=>rfl
   try any_goals (unfold L2.b9;k_is)
   try any_goals (unfold L2.EX L2.yM;k_exc)
   try any_goals exact⟨by k_is,by k_is,by k_is,by k_is,by k_is,by k_is,by k_is⟩
   try any_goals first|kit_is|k_is
   all_goals first|rfl|decide|kernel_rfl
  case b=>exact λ s v=>.of_eq rfl
