import PyProof.Rows.All
import Wide.All
import OpenK.AllK
import Wide.FinOn
import Lean
import PyProof.EqAt
import PyProof.EqKinds
import PyProof.TupleCall
import KE.KNest
import KE.KNestM
import KE.KIntText
import KE.KDictOf
import KE.KPairComp
import KE.KLam
import KE.KSortTup
import PySem.Challenge.RW_backline_k21_lines
set_option Elab.async false
set_option linter.all false
set_option maxRecDepth 100000
namespace L2
open PySem PySem.Spec PyProof.Rows
abbrev Key:=Sum Int Str
def keyIs:Key→Value→Bool
 | .inl k,v=>Value.isInt k v
 | .inr x,v=>Value.isStrOf x v
def keyH (w:World):Key→Int
 | .inl k=>hashInt k
 | .inr x=>hashStr w x
theorem keyIs_shape:∀ {k:Key}{v:Value},keyIs k v=true→(∃ i t,k=Sum.inl i∧v=Value.int i t)∨(∃ x t,k=Sum.inr x∧v=Value.str x t)
 | .inl i,v,h=>by
  obtain⟨t,e⟩:=Value.isInt_shape (k:=i) (v:=v) h
  exact .inl ⟨i,t,rfl,e⟩
 | .inr x,v,h=>by
  obtain⟨t,e⟩:=Value.isStrOf_shape (x:=x) (v:=v) h
  exact .inr ⟨x,t,rfl,e⟩
theorem keyIs_int (i:Int) (t:Tok):keyIs (.inl i) (.int i t)=true:=by simp[keyIs,Value.isInt]
theorem keyIs_str (x:Str) (t:Tok):keyIs (.inr x) (.str x t)=true:=by simp[keyIs,Value.isStrOf]
theorem key_ll (a b:Int):decide ((Sum.inl a:Key)=Sum.inl b)=(a == b):=by
 by_cases e:a=b
 ·subst e;simp
 ·have h:¬ (Sum.inl a:Key)=Sum.inl b:=fun q=>e (Sum.inl.inj q)
  rw[decide_eq_false h]
  exact(beq_eq_false_iff_ne.mpr e).symm
theorem key_rr (a b:Str):decide ((Sum.inr a:Key)=Sum.inr b)=decide (a=b):=by
 by_cases e:a=b
 ·subst e;simp
 ·have h:¬ (Sum.inr a:Key)=Sum.inr b:=fun q=>e (Sum.inr.inj q)
  rw[decide_eq_false h,decide_eq_false e]
theorem key_lr (a:Int) (b:Str):decide ((Sum.inl a:Key)=Sum.inr b)=false:=decide_eq_false (fun q=>nomatch q)
theorem key_rl (a:Str) (b:Int):decide ((Sum.inr a:Key)=Sum.inl b)=false:=decide_eq_false (fun q=>nomatch q)
def mixKind (prog:Program) (w:World):PySem.KeyKind prog w Key where
 is:=keyIs
 hash:=keyH w
 inj:=fun v a b ha hb=>by
  rcases keyIs_shape ha with ⟨i,t,rfl,rfl⟩|⟨x,t,rfl,rfl⟩
  ·rcases keyIs_shape hb with ⟨j,u,rfl,e⟩|⟨y,u,rfl,e⟩
   ·injection e with e1 _;rw[e1]
   ·exact nomatch e
  ·rcases keyIs_shape hb with ⟨j,u,rfl,e⟩|⟨y,u,rfl,e⟩
   ·exact nomatch e
   ·injection e with e1 _;rw[e1]
 byValue:=fun k v h=>by
  rcases keyIs_shape h with ⟨i,t,rfl,rfl⟩|⟨x,t,rfl,rfl⟩<;>rfl
 pyHash:=fun hv h=>by
  rcases keyIs_shape hv with ⟨i,t,rfl,rfl⟩|⟨x,t,rfl,rfl⟩
  ·exact wpAny_pyHash_int h
  ·exact wpAny_pyHash_str h
 eqBool:=fun hu hv h=>by
  rcases keyIs_shape hu with ⟨i,t,rfl,rfl⟩|⟨x,t,rfl,rfl⟩
  ·rcases keyIs_shape hv with ⟨j,u,rfl,rfl⟩|⟨y,u,rfl,rfl⟩
   ·rw[key_ll] at h;exact wpAny_eqBool_int h
   ·rw[key_lr] at h;exact SeqAt.EqAt.int_str i t y u _ _ _ _ h
  ·rcases keyIs_shape hv with ⟨j,u,rfl,rfl⟩|⟨y,u,rfl,rfl⟩
   ·rw[key_rl] at h;exact SeqAt.EqAt.str_int x t j u _ _ _ _ h
   ·rw[key_rr] at h;exact wpAny_eqBool_str h
 «strs»:=fun k x t v h=>by
  rcases keyIs_shape h with ⟨i,u,rfl,e⟩|⟨y,u,rfl,e⟩
  ·exact nomatch e
  ·injection e with e1 _
   subst e1
   cases v<;>rfl
theorem mixKind_int (prog:Program) (w:World) (i:Int) (t:Tok):(mixKind prog w).is (.inl i) (.int i t)=true:=keyIs_int i t
theorem mixKind_str (prog:Program) (w:World) (x:Str) (t:Tok):(mixKind prog w).is (.inr x) (.str x t)=true:=keyIs_str x t
end L2
namespace L2
open PySem PySem.Spec PyProof.Rows
inductive V where
 | non|bl (b:Bool)|int (i:Int)|str (x:Str)|byt (b:Array UInt8)|flt (b:UInt64)|ref (a:Addr)|ty (n:String)
 deriving DecidableEq
def RelV:V→Value→Prop
 | .non,u=>u=Value.none
 | .bl b,u=>u=Value.bool b
 | .int i,u=>∃ t,u=Value.int i t
 | .str x,u=>∃ t,u=Value.str x t
 | .byt b,u=>∃ t,u=Value.bytes b t
 | .flt b,u=>∃ t,u=Value.float b t
 | .ref a,u=>u=Value.ref a
 | .ty n,u=>u=Value.type n
abbrev Vals:List V→List Value→Prop:=Paired RelV
theorem Vals.length {xs:List V}{us:List Value}(r:Vals xs us):xs.length=us.length:=Paired.length r
theorem Vals.get:∀ {xs:List V}{us:List Value}{i:Nat}{x:V},Vals xs us→xs[i]? = some x→∃ u,us[i]? = some u∧RelV x u
 | _,_,_,_,.nil,e=>by simp at e
 | _,_,0,_,.cons r _,e=>by simp at e;subst e;exact⟨_,rfl,r⟩
 | _,_,i+1,x,.cons _ t,e=>by
  obtain⟨u,h1,h2⟩:=Vals.get (i:=i) (x:=x) t (by simpa using e)
  exact⟨u,by simpa using h1,h2⟩
theorem Vals.append:∀ {xs ys:List V}{us ws:List Value},Vals xs us→Vals ys ws→Vals (xs++ys) (us++ws)
 | _,_,_,_,.nil,s=>s
 | _,_,_,_,.cons r t,s=>.cons r (Vals.append t s)
theorem Vals.take:∀ {xs:List V}{us:List Value}(n:Nat),Vals xs us→Vals (xs.take n) (us.take n)
 | _,_,0,_=>.nil
 | _,_,_+1,.nil=>.nil
 | _,_,n+1,.cons r t=>.cons r (Vals.take n t)
theorem Vals.drop:∀ {xs:List V}{us:List Value}(n:Nat),Vals xs us→Vals (xs.drop n) (us.drop n)
 | _,_,0,r=>r
 | _,_,_+1,.nil=>.nil
 | _,_,n+1,.cons _ t=>Vals.drop n t
def RelO:Option V→Option Value→Prop
 | some v,some u=>RelV v u
 | none,none=>True
 | _,_=>False
def KV {κ:Type}:List (κ×V)→List (κ×Value)→Prop:=Paired fun (p:κ×V) (q:κ×Value)=>p.1=q.1∧RelV p.2 q.2
def kV:Key→V
 | .inl i=>.int i
 | .inr x=>.str x
inductive HO where
 | lst (xs:List V)
 | tup (xs:List V)
 | dK (kvs:List (Key×V))|dT (kvs:List (List Key×V))
 | set (S:Int→Bool) (n:Nat)
 | ins (C dx:Addr) (fs:List (Str×V))
 | own (x:Addr)
 | xd (fs:List (Str×V))
 | met (f x:Addr)
 | rng (lo hi:Int)
 | frz (o:Obj) (u:HO)
 | tbl (ps:Array Value)
 | ext (φ:Heap→Prop)
abbrev Hp:=Addr→Option HO
def upd (H:Hp) (a:Addr) (o:HO):Hp:=fun b=>if b=a then some o else H b
theorem upd_same {H:Hp}{a:Addr}{o:HO}:upd H a o a=some o:=by unfold upd;rw[if_pos rfl]
theorem upd_ne {H:Hp}{a b:Addr}{o:HO}(h:b≠a):upd H a o b=H b:=by unfold upd;rw[if_neg h]
theorem upd_upd {H:Hp}{a:Addr}{o u:HO}:upd (upd H a o) a u=upd H a u:=by
 funext b;unfold upd;split<;>rfl
theorem ne_of {H:Hp}{a b:Addr}{o u:HO}(h:H a=some o) (h':H b=some u) (d:o≠u):a≠b:=by
 intro e;subst e;rw[h] at h';exact d (Option.some.inj h')
theorem ne_of_none {H:Hp}{a b:Addr}{o:HO}(h:H a=some o) (h':H b=none):a≠b:=by
 intro e;subst e;rw[h] at h';cases h'
section
variable (P:Program) (w:World)
def ObjOk (H:Hp) (h:Heap) (a:Addr):HO→Prop
 | .lst xs=>xs.length≤sizeLine∧∃ (its:List Value) (n:Nat),Vals xs its∧h.get? a=some { cls:=.type "list",data:=.seq its.toArray n }
 | .tup xs=>xs.length≤sizeLine∧∃ its:List Value,Vals xs its∧IsTup h a its.toArray
 | .dK kvs=>kvs.length≤sizeLine∧(a == sysModules)=false∧∃ vs,KV kvs vs∧h.DictOf (mixKind P w) a vs
 | .dT kvs=>kvs.length≤sizeLine∧(a == sysModules)=false∧∃ xs:List (List Key×Addr×Value),
   Paired (fun (p:List Key×V) (q:List Key×Addr×Value)=>p.1=q.1∧H q.2.1=some (.tup (p.1.map kV))∧RelV p.2 q.2.2) kvs xs ∧
   ∃ o es ep,h.get? a=some o∧o.ExactDict∧o.data=.dict es ep∧es.toList=xs.map (entryOfKey (tupleKind (mixKind P w)))∧(xs.map (·.1)).Nodup
 | .set S n=>h.SetOf (intKind P w) a S n
 | .ins C dx fs=>H dx=some (.own a)∧fs.length≤1000∧dx≠a∧h.get? a=some (PySem.W.instObj C dx) ∧
   ∃ mA,h.Ns1 dx mA∧(∀ f,RelO (fs.lookup f) (mA f))∧PySem.Within mA (fs.map (·.1))
 | .own _=>∃ o,h.get? a=some o
 | .xd fs=>∃ mA,h.Ns1 a mA∧∀ f,RelO (fs.lookup f) (mA f)
 | .rng lo hi=>∃ t u v,h.get? a=some { cls:=.type "range",data:=.fields #[.int lo t,.int hi u,.int 1 v] }
 | .frz o u=>h.get? a=some o∧ObjOk H h a u
 | .tbl ps=>h.get? a=some { cls:=.none,data:=.fields ps }
 | .met f x=>h.get? a=some (PySem.W.methodObj (.ref f) (.ref x))
 | .ext φ=>φ h∧(∃ o,h.get? a=some o)∧∀ h1 h2:Heap,φ h1→(∀ o,h1.get? a=some o→h2.get? a=some o)→φ h2
def HOk (H:Hp) (h:Heap):Prop:=∀ a o,H a=some o→ObjOk P w H h a o
end
section
variable {P:Program}{w:World}{H H':Hp}{h h':Heap}{a:Addr}{o:HO}
theorem ObjOk.lt (x:ObjOk P w H h a o):a<h.objs.size:=by
 cases o with
 | lst xs=>obtain⟨_,_,_,_,e⟩:=x;exact Heap.lt_size e
 | tup xs=>obtain⟨_,_,_,p⟩:=x;exact p.lt
 | dK kvs=>obtain⟨_,_,_,_,o,_,_,e,_⟩:=x;exact Heap.lt_size e
 | dT kvs=>obtain⟨_,_,_,_,o,_,_,e,_⟩:=x;exact Heap.lt_size e
 | set S n=>obtain⟨o,_,_,_,e,_⟩:=x;exact Heap.lt_size e
 | ins C dx fs=>obtain⟨_,_,_,e,_⟩:=x;exact Heap.lt_size e
 | own y=>obtain⟨_,e⟩:=x;exact Heap.lt_size e
 | xd fs=>obtain⟨_,⟨_,_,_,e,_⟩,_⟩:=x;exact Heap.lt_size e
 | rng lo hi=>obtain⟨_,_,_,e⟩:=x;exact Heap.lt_size e
 | frz ob u=>obtain⟨e,_⟩:=x;exact Heap.lt_size e
 | tbl ps=>exact Heap.lt_size (show h.get? a=some _ from x)
 | met f y=>exact Heap.lt_size (show h.get? a=some _ from x)
 | ext φ=>obtain⟨_,⟨_,e⟩,_⟩:=x;exact Heap.lt_size e
theorem Paired.mapP {α β:Type}{F G:α→β→Prop}:∀ {l₁:List α}{l₂:List β},Paired F l₁ l₂→(∀ a b,F a b→G a b)→Paired G l₁ l₂
 | _,_,.nil,_=>.nil
 | _,_,.cons r t,f=>.cons (f _ _ r) (Paired.mapP t f)
theorem ObjOk.stay (x:ObjOk P w H h a o) (k:∀ b u,(b=a∨H b=some (.own a))→h.get? b=some u→h'.get? b=some u)
  (ho:∀ b,H b=some (.own a)→H' b=some (.own a)) (ht:∀ b xs,H b=some (.tup xs)→H' b=some (.tup xs)):ObjOk P w H' h' a o:=by
 induction o with
 | lst xs=>obtain⟨z,its,n,r,e⟩:=x;exact⟨z,its,n,r,k _ _ (.inl rfl) e⟩
 | tup xs=>obtain⟨z,its,r,ob,e,c⟩:=x;exact⟨z,its,r,ob,k _ _ (.inl rfl) e,c⟩
 | dK kvs=>obtain⟨z,y,vs,r,ob,es,ep,e,c⟩:=x;exact⟨z,y,vs,r,ob,es,ep,k _ _ (.inl rfl) e,c⟩
 | dT kvs=>
  obtain⟨z,y,xs,r,ob,es,ep,e,c⟩:=x
  exact⟨z,y,xs,Paired.mapP r fun p q z=>⟨z.1,ht _ _ z.2.1,z.2.2⟩,ob,es,ep,k _ _ (.inl rfl) e,c⟩
 | set S n=>obtain⟨ob,es,ep,t,e,c⟩:=x;exact⟨ob,es,ep,t,k _ _ (.inl rfl) e,c⟩
 | ins C dx fs=>
  obtain⟨d,z,ne,e,mA,⟨od,es,ep,e2,c⟩,r⟩:=x
  exact⟨ho _ d,z,ne,k _ _ (.inl rfl) e,mA,⟨od,es,ep,k _ _ (.inr d) e2,c⟩,r⟩
 | own y=>obtain⟨ob,e⟩:=x;exact⟨ob,k _ _ (.inl rfl) e⟩
 | xd fs=>obtain⟨mA,⟨od,es,ep,e,c⟩,r⟩:=x;exact⟨mA,⟨od,es,ep,k _ _ (.inl rfl) e,c⟩,r⟩
 | rng lo hi=>obtain⟨t,u,v,e⟩:=x;exact⟨t,u,v,k _ _ (.inl rfl) e⟩
 | frz ob u ih=>obtain⟨e,q⟩:=x;exact⟨k _ _ (.inl rfl) e,ih q⟩
 | tbl ps=>
  have e:h.get? a=some { cls:=.none,data:=.fields ps }:=x
  show h'.get? a=some { cls:=.none,data:=.fields ps }
  exact k a _ (.inl rfl) e
 | met f y=>
  have e:h.get? a=some (PySem.W.methodObj (.ref f) (.ref y)):=x
  show h'.get? a=some (PySem.W.methodObj (.ref f) (.ref y))
  exact k a _ (.inl rfl) e
 | ext φ=>obtain⟨p,⟨o,e⟩,st⟩:=x;exact⟨st _ _ p fun o q=>k _ _ (.inl rfl) q,⟨o,k _ _ (.inl rfl) e⟩,st⟩
theorem HOk.lt (x:HOk P w H h) (e:H a=some o):a<h.objs.size:=(x a o e).lt
theorem HOk.fresh (x:HOk P w H h) (e:h.objs.size≤a):H a=none:=by
 cases q:H a with
 | none=>rfl
 | some u=>exact absurd (Nat.lt_of_lt_of_le (x.lt q) e) (Nat.lt_irrefl _)
theorem HOk.kept (x:HOk P w H h) (k:∀ b u,h.get? b=some u→h'.get? b=some u):HOk P w H h':=fun a o e=>
 (x a o e).stay (fun b u _ q=>k b u q) (fun _ q=>q) fun _ _ q=>q
theorem HOk.laid (x:HOk P w H h) (k:∀ b u,h.get? b=some u→h'.get? b=some u) (hp:h.objs.size≤a) (new:ObjOk P w (upd H a o) h' a o):HOk P w (upd H a o) h':=fun b u e=>by
 have hn:=x.fresh hp
 by_cases hb:b=a
 ·subst hb;rw[upd_same] at e;cases e;exact new
 ·rw[upd_ne hb] at e
  exact(x b u e).stay (fun c v _ q=>k c v q) (fun c q=>by rw[upd_ne (ne_of_none q hn)];exact q) fun c xs q=>by rw[upd_ne (ne_of_none q hn)];exact q
end
def Rd (H:Hp) (a:Addr) (u:HO):Prop:=H a=some u∨∃ o,H a=some (.frz o u)
theorem Rd.ok {P:Program}{w:World}{H:Hp}{h:Heap}{a:Addr}{u:HO}(r:Rd H a u) (x:HOk P w H h):ObjOk P w H h a u:=by
 rcases r with r|⟨o,r⟩
 ·exact x a u r
 ·obtain⟨_,q⟩:=x a _ r
  exact q
def Mut:Option HO→Prop
 | some (.lst _)=>True
 | some (.dK _)=>True
 | some (.dT _)=>True
 | some (.set _ _)=>True
 | some (.ins _ _ _)=>True
 | some (.ext _)=>True
 | _=>False
section
variable {P:Program}{w:World}{H:Hp}{h h':Heap}{x e:Addr}{o':HO}
theorem HOk.write (ok:HOk P w H h) (mu:Mut (H x)) (he:e=x∨H e=some (.own x)) (k:∀ b u,b≠e→h.get? b=some u→h'.get? b=some u) (heo:∃ u,h'.get? e=some u)
  (new:ObjOk P w (upd H x o') h' x o'):HOk P w (upd H x o') h':=fun b u q=>by
 have nown:∀ c y,H c=some (.own y)→c≠x:=fun c y r z=>by subst z;rw[r] at mu;exact mu
 have ntup:∀ c xs,H c=some (.tup xs)→c≠x:=fun c xs r z=>by subst z;rw[r] at mu;exact mu
 by_cases hb:b=x
 ·subst hb;rw[upd_same] at q;cases q;exact new
 ·rw[upd_ne hb] at q
  by_cases hbe:b=e
  ·have q':H b=some (.own x):=by
    rcases he with z|z
    ·exact absurd (hbe.trans z) hb
    ·rw[hbe];exact z
   rw[q] at q';cases q'
   obtain⟨v,hv⟩:=heo
   exact⟨v,by rw[hbe];exact hv⟩
  ·refine(ok b u q).stay (fun c v hc r=>k c v ?_ r) (fun c r=>by rw[upd_ne (nown c b r)];exact r) fun c xs r=>by rw[upd_ne (ntup c xs r)];exact r
   rcases hc with rfl|hc
   ·exact hbe
   ·rintro rfl
    rcases he with z|z
    ·exact nown c b hc z
    ·rw[hc] at z;cases z;exact hb rfl
end
structure Un (fs ex:List Addr) (H H':Hp) (h h':Heap):Prop where
 keep:∀ b o,h.get? b=some o→H b=none→b∉fs→b∉ex→h'.get? b=some o
 slot:∀ b o,h.get? b=some o→H b=none→b∈fs→b∉ex→∃ sl,h'.get? b=some { o with slots:=sl }
 free:∀ b o,h.get? b=some o→H b=none→b∉ex→H' b=none
 there:∀ b o,h.get? b=some o→b∉ex→∃ o',h'.get? b=some o'
 tups:∀ b xs,H b=some (.tup xs)→H' b=some (.tup xs)
 frzs:∀ b o u,H b=some (.frz o u)→H' b=some (.frz o u)
 tbls:∀ b ps,H b=some (.tbl ps)→∃ more,H' b=some (.tbl (ps++more))
section
variable {fs fs' ex ex':List Addr}{H H1 H2:Hp}{h h1 h2 h':Heap}{a x e:Addr}{o:HO}
theorem Un.any (u:Un fs ex H H1 h h1) {b:Addr}{ob:Obj}(q:h.get? b=some ob) (n:H b=none) (hx:b∉ex):∃ sl,h1.get? b=some { ob with slots:=sl }:=by
 by_cases hb:b∈fs
 ·exact u.slot b ob q n hb hx
 ·exact⟨ob.slots,u.keep b ob q n hb hx⟩
theorem Un.trans (a:Un fs ex H H1 h h1) (b:Un fs ex H1 H2 h1 h2):Un fs ex H H2 h h2 where
 keep:=fun c ob q n hc hx=>b.keep c ob (a.keep c ob q n hc hx) (a.free c ob q n hx) hc hx
 slot:=fun c ob q n hc hx=>by
  obtain⟨sl,e1⟩:=a.slot c ob q n hc hx
  obtain⟨sl',e2⟩:=b.slot c _ e1 (a.free c ob q n hx) hc hx
  exact⟨sl',e2⟩
 free:=fun c ob q n hx=>by
  obtain⟨o',e1⟩:=a.there c ob q hx
  exact b.free c o' e1 (a.free c ob q n hx) hx
 there:=fun c ob q hx=>by
  obtain⟨o',e1⟩:=a.there c ob q hx
  exact b.there c o' e1 hx
 tups:=fun c xs q=>b.tups c xs (a.tups c xs q)
 frzs:=fun c ob xs q=>b.frzs c ob xs (a.frzs c ob xs q)
 tbls:=fun c ps q=>by
  obtain⟨m1,e1⟩:=a.tbls c ps q
  obtain⟨m2,e2⟩:=b.tbls c _ e1
  exact⟨m1++m2,by rw[e2,Array.append_assoc]⟩
theorem Un.kept (k:∀ b u,h.get? b=some u→h'.get? b=some u):Un fs ex H H h h':=
 ⟨fun b ob q _ _ _=>k b ob q,fun b ob q _ _ _=>⟨ob.slots,k b ob q⟩,fun _ _ _ n _=>n,fun b ob q _=>⟨ob,k b ob q⟩,fun _ _ q=>q,fun _ _ _ q=>q,fun _ ps q=>⟨#[],by rw[q];simp⟩⟩
theorem Un.refl:Un fs ex H H h h:=Un.kept fun _ _ q=>q
theorem Un.laid (k:∀ b u,h.get? b=some u→h'.get? b=some u) (hp:h.objs.size≤a) (hn:H a=none):Un fs ex H (upd H a o) h h' where
 keep:=fun b u q _ _ _=>k b u q
 slot:=fun b u q _ _ _=>⟨u.slots,k b u q⟩
 free:=fun b u q n _=>by rw[upd_ne (Nat.ne_of_lt (Nat.lt_of_lt_of_le (Heap.lt_size q) hp))];exact n
 there:=fun b u q _=>⟨u,k b u q⟩
 tups:=fun b xs q=>by rw[upd_ne (ne_of_none q hn)];exact q
 frzs:=fun b u xs q=>by rw[upd_ne (ne_of_none q hn)];exact q
 tbls:=fun b ps q=>⟨#[],by rw[upd_ne (ne_of_none q hn),q];simp⟩
theorem Un.write (mu:Mut (H x)) (he:e=x∨H e=some (.own x)) (k:∀ b u,b≠e→h.get? b=some u→h'.get? b=some u) (heo:∃ u,h'.get? e=some u):Un fs ex H (upd H x o) h h':=by
 have hx:∀ b,H b=none→b≠x:=fun b n z=>by subst z;rw[n] at mu;exact mu
 have hb:∀ b,H b=none→b≠e:=fun b n z=>by
  subst z
  rcases he with r|r
  ·exact hx b n r
  ·rw[n] at r;cases r
 have hm:∀ b u,H b=some u→¬ Mut (some u)→b≠x:=fun b u q nm z=>by subst z;rw[q] at mu;exact nm mu
 refine⟨fun b u q n _ _=>k b u (hb b n) q,fun b u q n _ _=>⟨u.slots,k b u (hb b n) q⟩,fun b u q n _=>by rw[upd_ne (hx b n)];exact n,fun b u q _=>?_,
  fun b xs q=>by rw[upd_ne (hm b _ q fun z=>z)];exact q,fun b u xs q=>by rw[upd_ne (hm b _ q fun z=>z)];exact q,fun b ps q=>⟨#[],by rw[upd_ne (hm b _ q fun z=>z),q];simp⟩⟩
 by_cases hbe:b=e
 ·subst hbe;exact heo
 ·exact⟨u,k b u hbe q⟩
theorem Un.mono (u:Un fs ex H H1 h h1) (hs:∀ b∈fs,b∈fs') (hx:∀ b∈ex,b∈ex'):Un fs' ex' H H1 h h1:=
 ⟨fun b ob q n hb he=>u.keep b ob q n (fun z=>hb (hs b z)) fun z=>he (hx b z),fun _ _ q n _ he=>u.any q n fun z=>he (hx _ z),fun b ob q n he=>u.free b ob q n fun z=>he (hx b z),fun b ob q he=>u.there b ob q fun z=>he (hx b z),u.tups,u.frzs,u.tbls⟩
end
def trk (h:Heap) (H:Hp):List Addr:=(List.range h.objs.size).filter fun a=>(H a).isSome
def hidT (h:Heap) (H:Hp):Heap:=PySem.W.hideAll h (trk h H)
theorem hidT_size (h:Heap) (H:Hp):(hidT h H).objs.size=h.objs.size:=PySem.W.hideAll_size _ _
theorem hidT_get {h:Heap}{H:Hp}{b:Addr}{o:Obj}(e:h.get? b=some o) (n:H b=none):(hidT h H).get? b=some o:=
 PySem.W.hideAll_get _ e fun hm=>by
  have q:(H b).isSome=true:=(List.mem_filter.mp hm).2
  rw[n] at q;simp at q
theorem of_hidT {h:Heap}{H:Hp}{b:Addr}{o:Obj}(e:(hidT h H).get? b=some o):h.get? b=some o∧H b=none:=by
 have e':h.get? b=some o:=PySem.W.of_hideAll (trk h H) e
 refine⟨e',?_⟩
 cases q:H b with
 | none=>rfl
 | some x=>
  have hm:b∈trk h H:=List.mem_filter.mpr ⟨List.mem_range.mpr (Heap.lt_size e'),by simp[q]⟩
  have z:(hidT h H).get? b=none:=PySem.W.hideAll_none (trk h H) hm
  rw[z] at e;cases e
def allNews (g h:Heap) (L:Addr):List (Addr×Obj):=(List.range h.objs.size).filterMap fun a=>if a=L∨(g.get? a).isSome=true then none else (h.get? a).map fun o=>(a,o)
def rest (g h:Heap) (L d:Addr):List (Addr×Obj):=(allNews g h L).filter fun p=>decide (p.1≠d)
end L2
namespace L2
open PySem PySem.Spec PyProof.Rows
structure Mod (K:PySem.W.Frag) (mg:Str→Option Value) (base:Heap):Prop where
 kin:K.In base
 glob:base.Ns mainGlobals mg
 blt:∃ mb,base.Ns builtinsNs mb∧∀ x:Str,x ≠ "__name__" → mb x=bootBuiltins x
 nolimit:base.NoLimit
structure Cx where
 prog:Program
 w:World
 K:PySem.W.Frag
 mg:Str→Option Value
 base:Heap
 A:Around
 N:List Str
 s₀:Shared
 H₀:Hp
 env:Env
 outer:List Env
 stack:List Env
 ex:List Addr
 fn:Str→Bool
 calm:Bool
 pn:List (Addr×Obj)
 xe:Value→Shared→Prop
def frs (l:List Env):List Addr:=l.filterMap (·.frame)
abbrev Cx.fs (X:Cx):List Addr:=frs X.outer
def Vis (sc:Scope) (x:Str):Prop:=sc.names.lookup x=some .local∨sc.names.lookup x=some .cell∨sc.names.lookup x=some .free
def Loc (sc:Scope) (x:Str):Prop:=sc.names.lookup x=some .local∨sc.names.lookup x=some .cell
def Look (env:Env) (h:Heap) (m:Str→Option Value) (x:Str) (u:Value):Prop:=
 (env.kindOf x=some .local∧m x=some u)∨((env.kindOf x=some .cell∨env.kindOf x=some .free)∧∃ c,env.cells.lookup x=some c∧h.IsCell c (some u))
structure Cx.Ok (X:Cx):Prop where
 mod:Mod X.K X.mg X.base
 kind:X.env.scope.kind=.function
 glob:X.env.globals=mainGlobals
 blt:X.env.builtins=builtinsNs
 above:X.s₀.heap.objs.size≤X.env.locals
 inj:∀ x y c,X.env.cells.lookup x=some c→X.env.cells.lookup y=some c→x=y
 has:∀ x,(X.env.kindOf x=some .cell∨X.env.kindOf x=some .free)→∃ c,X.env.cells.lookup x=some c
 cab:∀ x c,X.fn x=true→X.env.cells.lookup x=some c→X.s₀.heap.objs.size≤c
 hd:X.calm=true→X.A.handled=none
 frames:X.A.frames=some X.stack
 stk:X.stack=X.outer∨(X.stack=X.env::X.outer∧X.env.frame=some X.env.locals)
 exf:∀ b∈X.ex,b≠X.env.locals∧∀ x c,X.env.cells.lookup x=some c→c≠b
 bs:∀ b o,X.base.get? b=some o→X.s₀.heap.get? b=some o∧X.H₀ b=none
 bsz:X.base.objs.size≤X.s₀.heap.objs.size
 noex:∀ b o,X.base.get? b=some o→b∉X.ex
 exfs:∀ b∈X.ex,b∉X.fs
 funs:X.s₀.heap.FunFrames X.base X.outer
 frf:∀ b∈X.fs,X.H₀ b=none
structure Inv (X:Cx) (pins:List (Addr×Obj)) (σ:List (Option V)) (H:Hp) (s:Shared):Prop where
 ok:X.Ok
 os:s.os=X.s₀.os
 bare:AllBare s.gens
 base:Un X.fs X.ex X.H₀ H X.s₀.heap s.heap
 loc:∃ m,s.heap.Ns X.env.locals m∧∀ (i:Nat) (x:Str) (v:V),X.N[i]? = some x→σ[i]? = some (some v)→Vis X.env.scope x→∃ u,RelV v u∧Look X.env s.heap m x u
 cell:∀ x c,X.env.cells.lookup x=some c→∃ v,s.heap.IsCell c v
 free:H X.env.locals=none
 freeC:∀ x c,X.env.cells.lookup x=some c→H c=none∨(X.fn x=false∧∃ o u,H c=some (.frz o u))
 pin:∀ p∈X.pn++pins,s.heap.get? p.1=some p.2∧H p.1=none∧p.1≠X.env.locals∧p.1∉X.fs∧∀ v,p.2.data≠.cell v
 hok:HOk X.prog X.w H s.heap
 len:σ.length=X.N.length
section
variable {X:Cx}{pins:List (Addr×Obj)}{σ:List (Option V)}{H H':Hp}{s:Shared}{h':Heap}
theorem Cx.Ok.nofr (ok:X.Ok) {b:Addr}{o:Obj}(e:X.base.get? b=some o):b∉X.fs:=fun hb=>by
 have:=(ok.funs.mem hb).1
 rw[e] at this;cases this
theorem Inv.bs (I:Inv X pins σ H s):∀ b o,X.base.get? b=some o→s.heap.get? b=some o∧H b=none:=fun b o e=>
 ⟨I.base.keep b o (I.ok.bs b o e).1 (I.ok.bs b o e).2 (I.ok.nofr e) (I.ok.noex b o e),I.base.free b o (I.ok.bs b o e).1 (I.ok.bs b o e).2 (I.ok.noex b o e)⟩
theorem Inv.bk (I:Inv X pins σ H s):∀ b o,X.base.get? b=some o→s.heap.get? b=some o:=fun b o e=>(I.bs b o e).1
theorem Inv.mod (I:Inv X pins σ H s):Mod X.K X.mg X.base:=I.ok.mod
theorem Inv.kIn (I:Inv X pins σ H s):X.K.In s.heap:=I.ok.mod.kin.keeps I.bk
theorem Inv.lt (I:Inv X pins σ H s):X.env.locals<s.heap.objs.size:=let ⟨_,hn,_⟩:=I.loc;hn.lt
theorem Inv.sz (I:Inv X pins σ H s):X.s₀.heap.objs.size≤s.heap.objs.size:=Nat.le_trans I.ok.above (Nat.le_of_lt I.lt)
theorem Inv.nofs (I:Inv X pins σ H s) {a:Addr}(h:s.heap.objs.size≤a):a∉X.fs:=fun hb=>by
 obtain⟨_,o,ho,_⟩:=I.ok.funs.mem hb
 exact absurd (Nat.lt_of_lt_of_le (Heap.lt_size ho) (Nat.le_trans I.sz h)) (Nat.lt_irrefl _)
theorem Inv.cne (I:Inv X pins σ H s):∀ x c,X.env.cells.lookup x=some c→c≠X.env.locals:=fun x c e z=>by
 obtain⟨v,o,ho,hd⟩:=I.cell x c e
 obtain⟨m,⟨o',es,ep,ho',hd',_⟩,_⟩:=I.loc
 rw[z,ho'] at ho;cases ho;rw[hd'] at hd;cases hd
theorem Inv.funs (I:Inv X pins σ H s):s.heap.FunFrames X.base X.outer:=by
 have all:∀ (l:List Env),(∀ b∈frs l,b∈X.fs)→X.s₀.heap.FunFrames X.base l→s.heap.FunFrames X.base l:=by
  intro l
  induction l with
  | nil=>intro _ _;trivial
  | cons env r ih=>
   intro hs hl
   obtain⟨hk,⟨L,o,hf,hn,ho,hd⟩,hr⟩:=hl
   have hL:L∈X.fs:=hs L (by unfold frs;rw[List.filterMap_cons,hf];exact List.mem_cons_self)
   obtain⟨sl,e⟩:=I.base.slot L o ho (I.ok.frf L hL) hL fun z=>I.ok.exfs L z hL
   exact⟨hk,⟨L,_,hf,hn,e,hd⟩,ih (fun b hb=>hs b (by unfold frs;rw[List.filterMap_cons,hf];exact List.mem_cons_of_mem _ hb)) hr⟩
 exact all X.outer (fun _ hb=>hb) I.ok.funs
theorem Inv.stack (I:Inv X pins σ H s):s.heap.FunFrames X.base X.stack:=by
 rcases I.ok.stk with e|⟨e,hf⟩
 ·rw[e];exact I.funs
 ·rw[e]
  obtain⟨m,hn,_⟩:=I.loc
  refine .cons (by rw[I.ok.kind];decide) hf hn ?_ I.funs
  exact Heap.get?_none_of_le (Nat.le_trans I.ok.bsz I.ok.above)
theorem Inv.stkSub (I:Inv X pins σ H s):∀ b∈frs X.stack,b∈X.env.locals::X.fs:=fun b hb=>by
 rcases I.ok.stk with e|⟨e,hf⟩
 ·rw[e] at hb;exact List.mem_cons_of_mem _ hb
 ·rw[e] at hb
  unfold frs at hb
  rw[List.filterMap_cons,hf] at hb
  exact hb
theorem Inv.stkFree (I:Inv X pins σ H s):∀ b∈frs X.stack,H b=none:=fun b hb=>by
 rcases List.mem_cons.mp (I.stkSub b hb) with e|hb
 ·rw[e];exact I.free
 ·obtain⟨_,o,ho,_⟩:=I.ok.funs.mem hb
  exact I.base.free b o ho (I.ok.frf b hb) fun z=>I.ok.exfs b z hb
theorem Inv.step {g':Array GenState}{t':Nat}{d':Drawn}{ch:List Addr}(I:Inv X pins σ H s)
  (hch:∀ b∈ch,(b∈X.ex∨X.s₀.heap.objs.size≤b)∧b≠X.env.locals∧(∀ x c,X.env.cells.lookup x=some c→c≠b)∧∀ p∈X.pn++pins,p.1≠b)
  (keep:∀ b o,b≠X.env.locals→b∉X.fs→b∉ch→s.heap.get? b=some o→H b=none→h'.get? b=some o)
  (slot:∀ b o,b≠X.env.locals→b∈X.fs→b∉ch→s.heap.get? b=some o→H b=none→∃ sl,h'.get? b=some { o with slots:=sl }) (free:∀ b o,b∉ch→s.heap.get? b=some o→H b=none→H' b=none)
  (there:∀ b o,b∉ch→s.heap.get? b=some o→∃ o',h'.get? b=some o')
  (tups:∀ b xs,H b=some (.tup xs)→H' b=some (.tup xs)) (frzs:∀ b o u,H b=some (.frz o u)→H' b=some (.frz o u)) (tbls:∀ b ps,H b=some (.tbl ps)→∃ more,H' b=some (.tbl (ps++more)))
  (ns:∀ m,s.heap.Ns X.env.locals m→h'.Ns X.env.locals m) (hok:HOk X.prog X.w H' h') (hg:AllBare g') :
  Inv X pins σ H' { s with heap:=h',gens:=g',drawn:=d',toks:=t' }:=by
 have neL:∀ b o,X.s₀.heap.get? b=some o→b≠X.env.locals:=fun b o e=>Nat.ne_of_lt (Nat.lt_of_lt_of_le (Heap.lt_size e) I.ok.above)
 have neC:∀ b o,X.s₀.heap.get? b=some o→b∉X.ex→b∉ch:=fun b o e hx hb=>by
  rcases (hch b hb).1 with z|z
  ·exact hx z
  ·exact absurd (Nat.lt_of_lt_of_le (Heap.lt_size e) z) (Nat.lt_irrefl _)
 have cellK:∀ x c,X.env.cells.lookup x=some c→∀ v,s.heap.IsCell c v→h'.IsCell c v:=fun x c e v ⟨o,ho,hd⟩=>by
  have nch:c∉ch:=fun z=>(hch c z).2.2.1 x c e rfl
  rcases I.freeC x c e with fc|⟨_,of,uf,fc⟩
  ·by_cases hc:c∈X.fs
   ·obtain⟨sl,q⟩:=slot c o (I.cne x c e) hc nch ho fc
    exact⟨_,q,hd⟩
   ·exact⟨o,keep c o (I.cne x c e) hc nch ho fc,hd⟩
  ·obtain⟨e1,_⟩:=I.hok c _ fc
   obtain⟨e2,_⟩:=hok c _ (frzs c _ _ fc)
   rw[ho] at e1;cases e1
   exact⟨o,e2,hd⟩
 refine⟨I.ok,I.os,hg,⟨fun b o e n hb hx=>?_,fun b o e n hb hx=>?_,fun b o e n hx=>?_,fun b o e hx=>?_,fun b xs e=>tups b xs (I.base.tups b xs e),fun b o xs e=>frzs b o xs (I.base.frzs b o xs e),fun b ps e=>?_⟩,?_,fun x c e=>?_,?_,fun x c e=>?_,fun p hp=>?_,hok,I.len⟩
 ·exact keep b o (neL b o e) hb (neC b o e hx) (I.base.keep b o e n hb hx) (I.base.free b o e n hx)
 ·obtain⟨sl,e1⟩:=I.base.slot b o e n hb hx
  obtain⟨sl',e2⟩:=slot b _ (neL b o e) hb (neC b o e hx) e1 (I.base.free b o e n hx)
  exact⟨sl',e2⟩
 ·obtain⟨o',e1⟩:=I.base.there b o e hx
  exact free b o' (neC b o e hx) e1 (I.base.free b o e n hx)
 ·obtain⟨o',e1⟩:=I.base.there b o e hx
  exact there b o' (neC b o e hx) e1
 ·obtain⟨m1,e1⟩:=I.base.tbls b ps e
  obtain⟨m2,e2⟩:=tbls b _ e1
  exact⟨m1++m2,by rw[e2,Array.append_assoc]⟩
 ·obtain⟨m,hn,hl⟩:=I.loc
  refine⟨m,ns m hn,fun i x v e1 e2 e3=>?_⟩
  obtain⟨u,r,l⟩:=hl i x v e1 e2 e3
  refine⟨u,r,?_⟩
  rcases l with l|⟨k,c,e,z⟩
  ·exact .inl l
  ·exact .inr ⟨k,c,e,cellK x c e _ z⟩
 ·obtain⟨v,z⟩:=I.cell x c e
  exact⟨v,cellK x c e v z⟩
 ·obtain⟨m,⟨o,_,_,ho,_⟩,_⟩:=I.loc
  exact free _ o (fun z=>(hch _ z).2.1 rfl) ho I.free
 ·obtain⟨v,o,ho,hd⟩:=I.cell x c e
  rcases I.freeC x c e with fc|⟨hf,of,uf,fc⟩
  ·exact .inl (free c o (fun z=>(hch c z).2.2.1 x c e rfl) ho fc)
  ·exact .inr ⟨hf,of,uf,frzs c _ _ fc⟩
 ·obtain⟨e,n,ne,nf,d⟩:=I.pin p hp
  have nch:p.1∉ch:=fun z=>(hch p.1 z).2.2.2 p hp rfl
  exact⟨keep p.1 p.2 ne nf nch e n,free p.1 p.2 nch e n,ne,nf,d⟩
theorem Inv.un {t':Nat}(I:Inv X pins σ H s) (u:Un X.fs [] H H' s.heap h') (hok:HOk X.prog X.w H' h'):Inv X pins σ H' { s with heap:=h',toks:=t' }:=by
 obtain⟨m,⟨o,es,ep,ho,r⟩,_⟩:=id I.loc
 obtain⟨sl,hL⟩:=u.any ho I.free (by simp)
 exact I.step (g':=s.gens) (d':=s.drawn) (ch:=[]) (fun _ z=>nomatch z) (fun b o _ hb _ e n=>u.keep b o e n hb (by simp)) (fun b o _ hb _ e n=>u.slot b o e n hb (by simp)) (fun b o _ e n=>u.free b o e n (by simp)) (fun b o _ e=>u.there b o e (by simp)) u.tups u.frzs u.tbls (fun m' hm=>by
  obtain⟨o',es',ep',ho',r'⟩:=hm
  rw[ho] at ho';cases ho'
  exact⟨_,es',ep',hL,r'⟩) hok I.bare
theorem Inv.call {g':Array GenState}{t':Nat}{d':Drawn}{ch:List Addr}(I:Inv X pins σ H s) (u:Un (frs X.stack) ch H H' s.heap h') (hok:HOk X.prog X.w H' h') (hg:AllBare g')
  (hch:∀ b∈ch,(b∈X.ex∨X.s₀.heap.objs.size≤b)∧b≠X.env.locals∧(∀ x c,X.env.cells.lookup x=some c→c≠b)∧∀ p∈X.pn++pins,p.1≠b) :
  Inv X pins σ H' { s with heap:=h',gens:=g',drawn:=d',toks:=t' }:=by
 obtain⟨m,⟨o,es,ep,ho,r⟩,_⟩:=id I.loc
 obtain⟨sl,hL⟩:=u.any ho I.free fun z=>(hch _ z).2.1 rfl
 exact I.step (ch:=ch) hch (fun b o hL hb hc e n=>u.keep b o e n (fun z=>(List.mem_cons.mp (I.stkSub b z)).elim hL hb) hc) (fun b o _ _ hc e n=>u.any e n hc) (fun b o hc e n=>u.free b o e n hc) (fun b o hc e=>u.there b o e hc) u.tups u.frzs u.tbls (fun m' hm=>by
  obtain⟨o',es',ep',ho',r'⟩:=hm
  rw[ho] at ho';cases ho'
  exact⟨_,es',ep',hL,r'⟩) hok hg
theorem Inv.turned {t':Nat}{it:Addr}(I:Inv X pins σ H s) (k:∀ b o,b≠it→s.heap.get? b=some o→h'.get? b=some o) (hn:H it=none) (hL:it≠X.env.locals)
  (h1:it∈X.ex∨X.s₀.heap.objs.size≤it) (h2:∀ x c,X.env.cells.lookup x=some c→c≠it) (h3:∀ p∈X.pn++pins,p.1≠it):Inv X pins σ H { s with heap:=h',toks:=t' }:=by
 have nit:∀ b u,H b=some u→b≠it:=fun b u e z=>by rw[z,hn] at e;cases e
 refine I.step (g':=s.gens) (d':=s.drawn) (ch:=[it]) (fun b hb=>?_) (fun b o _ _ hc e _=>k b o (fun z=>hc (by simp[z])) e) (fun b o _ _ hc e _=>⟨o.slots,k b o (fun z=>hc (by simp[z])) e⟩) (fun _ _ _ _ n=>n)
  (fun b o hc e=>⟨o,k b o (fun z=>hc (by simp[z])) e⟩) (fun _ _ e=>e) (fun _ _ _ e=>e) (fun b ps e=>⟨#[],by rw[e];simp⟩) (fun m hm=>?_) (fun b u e=>?_) I.bare
 ·have e:b=it:=by simpa using hb
  subst e
  exact⟨h1,hL,h2,h3⟩
 ·obtain⟨o,es,ep,ho,r⟩:=hm
  exact⟨o,es,ep,k _ o (Ne.symm hL) ho,r⟩
 ·refine(I.hok b u e).stay (fun c v hc q=>k c v ?_ q) (fun _ q=>q) fun _ _ q=>q
  rcases hc with z|z
  ·rw[z];exact nit b u e
  ·exact nit c _ z
theorem Inv.tok (I:Inv X pins σ H s) (t:Nat):Inv X pins σ H { s with toks:=t }:=I.un (h':=s.heap) (t':=t) Un.refl I.hok
theorem Inv.kept {t':Nat}(I:Inv X pins σ H s) (k:∀ b u,s.heap.get? b=some u→h'.get? b=some u):Inv X pins σ H { s with heap:=h',toks:=t' }:=I.un (Un.kept k) (I.hok.kept k)
theorem Inv.laid {a:Addr}{o:HO}{t':Nat}(I:Inv X pins σ H s) (k:∀ b u,s.heap.get? b=some u→h'.get? b=some u) (hp:s.heap.objs.size≤a) (new:ObjOk X.prog X.w (upd H a o) h' a o) :
  Inv X pins σ (upd H a o) { s with heap:=h',toks:=t' }:=I.un (Un.laid k hp (I.hok.fresh hp)) (I.hok.laid k hp new)
theorem Inv.write {x e:Addr}{o:HO}{t':Nat}(I:Inv X pins σ H s) (mu:Mut (H x)) (he:e=x∨H e=some (.own x)) (k:∀ b u,b≠e→s.heap.get? b=some u→h'.get? b=some u) (heo:∃ u,h'.get? e=some u)
  (new:ObjOk X.prog X.w (upd H x o) h' x o):Inv X pins σ (upd H x o) { s with heap:=h',toks:=t' }:=I.un (Un.write mu he k heo) (I.hok.write mu he k heo new)
theorem Inv.pins_of {pins':List (Addr×Obj)}(I:Inv X pins σ H s) (h:∀ p∈pins',s.heap.get? p.1=some p.2∧H p.1=none∧p.1≠X.env.locals∧p.1∉X.fs∧∀ v,p.2.data≠.cell v):Inv X pins' σ H s:=
 ⟨I.ok,I.os,I.bare,I.base,I.loc,I.cell,I.free,I.freeC,fun p hp=>(List.mem_append.mp hp).elim (fun z=>I.pin p (List.mem_append_left _ z)) (h p),I.hok,I.len⟩
theorem nodup_ix {N:List Str}(hN:N.Nodup) {i j:Nat}{x:Str}(a:N[i]? = some x) (b:N[j]? = some x):i=j:=by
 obtain⟨h1,e1⟩:=List.getElem?_eq_some_iff.mp a
 obtain⟨h2,e2⟩:=List.getElem?_eq_some_iff.mp b
 exact(List.getElem_inj hN).mp (e1.trans e2.symm)
theorem store_ok2 {M:Model}{A:Around}{E:Value→Shared→Prop}{i:Nat}{x:Str}{v:V}{u:Value}{Q:Unit→Shared→Prop}(I:Inv X pins σ H s) (hN:X.N.Nodup) (hi:X.N[i]? = some x) (hx:Loc X.env.scope x) (r:RelV v u)
  (h:∀ s',Inv X pins (σ.set i (some v)) H s'→(∃ a,Heap.SameBut a s.heap s'.heap∧(a=X.env.locals∨X.env.cells.lookup x=some a))→Q () s') (hf:X.fn x=true∨X.env.scope.names.lookup x=some .local:=by first|exact .inl rfl|exact .inr rfl|assumption):wpAny M A (storeName X.env x u) Q E s:=by
 obtain⟨m,hn,hl⟩:=id I.loc
 have hcls:(X.env.scope.kind == .class || (X.env.scope.kind == .module && X.env.locals != X.env.globals))=false:=by rw[I.ok.kind];rfl
 have hiσ:i<σ.length:=by rw[I.len];exact(List.getElem?_eq_some_iff.mp hi).1
 have cne:=I.cne
 have tracked:∀ {a:Addr} {h':Heap},(∃ o,s.heap.get? a=some o∧H a=none)→Heap.SameBut a s.heap h'→HOk X.prog X.w H h':=fun {a h'} ha hs b ob e=>by
  obtain⟨_,_,hfree⟩:=ha
  refine(I.hok b ob e).stay (fun c w' hc q=>(hs.2 c ?_).trans q) (fun _ q=>q) fun _ _ q=>q
  rintro rfl
  rcases hc with rfl|hc
  ·rw[hfree] at e;cases e
  ·rw[hfree] at hc;cases hc
 rcases hx with hk|hk
 ·refine wpAny_storeName_local hk hn (fun h' hn' hs=>?_) hcls
  obtain⟨oL,_,_,hoL,_⟩:=id hn
  refine h _ ⟨I.ok,I.os,I.bare,⟨fun b o e n hb hx=>?_,fun b o e n hb hx=>?_,I.base.free,fun b o e hx=>?_,I.base.tups,I.base.frzs,I.base.tbls⟩,⟨_,hn',fun j y v' e1 e2 e3=>?_⟩,fun y c e=>?_,I.free,I.freeC,fun p hp=>?_,tracked ⟨oL,hoL,I.free⟩ hs,by simpa using I.len⟩ ⟨_,hs,.inl rfl⟩
  ·exact(hs.2 b (Nat.ne_of_lt (Nat.lt_of_lt_of_le (Heap.lt_size e) I.ok.above))).trans (I.base.keep b o e n hb hx)
  ·obtain⟨sl,e1⟩:=I.base.slot b o e n hb hx
   exact⟨sl,(hs.2 b (Nat.ne_of_lt (Nat.lt_of_lt_of_le (Heap.lt_size e) I.ok.above))).trans e1⟩
  ·obtain⟨o',e1⟩:=I.base.there b o e hx
   exact⟨o',(hs.2 b (Nat.ne_of_lt (Nat.lt_of_lt_of_le (Heap.lt_size e) I.ok.above))).trans e1⟩
  ·by_cases hj:j=i
   ·subst hj
    rw[hi] at e1;cases e1
    rw[List.getElem?_set_self hiσ] at e2
    cases e2
    exact⟨u,r,.inl ⟨hk,by simp⟩⟩
   ·rw[List.getElem?_set_ne (Ne.symm hj)] at e2
    obtain⟨u',r',q⟩:=hl j y v' e1 e2 e3
    refine⟨u',r',?_⟩
    rcases q with ⟨k,e⟩|⟨k,c,e,z⟩
    ·refine .inl ⟨k,?_⟩
     have:y≠x:=fun e=>hj (nodup_ix hN e1 (e ▸ hi))
     simp[this,e]
    ·exact .inr ⟨k,c,e,z.sameBut hs (cne y c e)⟩
  ·obtain⟨w',z⟩:=I.cell y c e
   exact⟨w',z.sameBut hs (cne y c e)⟩
  ·obtain⟨e,n,ne,nf,d⟩:=I.pin p hp
   exact⟨(hs.2 p.1 ne).trans e,n,ne,nf,d⟩
 ·have hfn:X.fn x=true:=by
   rcases hf with z|z
   ·exact z
   ·rw[z] at hk;cases hk
  obtain⟨c,hc⟩:=I.ok.has x (.inl hk)
  obtain⟨w',z⟩:=I.cell x c hc
  refine wpAny_storeName_cell I.ok.kind hk hc z (fun h' hc' hs=>?_)
  obtain⟨oc,hoc,hocd⟩:=id z
  refine h { s with heap:=h' } ⟨I.ok,I.os,I.bare,⟨fun b o e n hb hx=>?_,fun b o e n hb hx=>?_,I.base.free,fun b o e hx=>?_,I.base.tups,I.base.frzs,I.base.tbls⟩,⟨m,hn.sameBut hs (Ne.symm (cne x c hc)),fun j y v' e1 e2 e3=>?_⟩,fun y c' e=>?_,I.free,I.freeC,fun p hp=>?_,tracked ⟨oc,hoc,(I.freeC x c hc).elim id fun z=>absurd (hfn.symm.trans z.1) (by decide)⟩ hs,by simpa using I.len⟩ ⟨c,hs,.inr hc⟩
  ·exact(hs.2 b (Nat.ne_of_lt (Nat.lt_of_lt_of_le (Heap.lt_size e) (I.ok.cab x c hfn hc)))).trans (I.base.keep b o e n hb hx)
  ·obtain⟨sl,e1⟩:=I.base.slot b o e n hb hx
   exact⟨sl,(hs.2 b (Nat.ne_of_lt (Nat.lt_of_lt_of_le (Heap.lt_size e) (I.ok.cab x c hfn hc)))).trans e1⟩
  ·obtain⟨o',e1⟩:=I.base.there b o e hx
   exact⟨o',(hs.2 b (Nat.ne_of_lt (Nat.lt_of_lt_of_le (Heap.lt_size e) (I.ok.cab x c hfn hc)))).trans e1⟩
  ·by_cases hj:j=i
   ·subst hj
    rw[hi] at e1;cases e1
    rw[List.getElem?_set_self hiσ] at e2
    cases e2
    exact⟨u,r,.inr ⟨.inl hk,c,hc,hc'⟩⟩
   ·rw[List.getElem?_set_ne (Ne.symm hj)] at e2
    obtain⟨u',r',q⟩:=hl j y v' e1 e2 e3
    refine⟨u',r',?_⟩
    rcases q with q|⟨k,c',e,z'⟩
    ·exact .inl q
    ·refine .inr ⟨k,c',e,z'.sameBut hs ?_⟩
     rintro rfl
     exact hj (nodup_ix hN e1 (I.ok.inj _ _ _ e hc ▸ hi))
  ·by_cases hcc:c'=c
   ·subst hcc;exact⟨_,hc'⟩
   ·obtain⟨w2,z2⟩:=I.cell y c' e
    exact⟨w2,z2.sameBut hs hcc⟩
  ·obtain⟨e,n,ne,nf,d⟩:=I.pin p hp
   refine⟨(hs.2 p.1 ?_).trans e,n,ne,nf,d⟩
   intro q
   rw[q,hoc] at e
   have q':oc=p.2:=Option.some.inj e
   exact d w' (by rw[← q'];exact hocd)
theorem store_ok {M:Model}{A:Around}{E:Value→Shared→Prop}{i:Nat}{x:Str}{v:V}{u:Value}{Q:Unit→Shared→Prop}(I:Inv X pins σ H s) (hN:X.N.Nodup) (hi:X.N[i]? = some x) (hx:Loc X.env.scope x) (r:RelV v u)
  (h:∀ s',Inv X pins (σ.set i (some v)) H s'→Q () s') (hf:X.fn x=true∨X.env.scope.names.lookup x=some .local:=by first|exact .inl rfl|exact .inr rfl|assumption):wpAny M A (storeName X.env x u) Q E s:=
 store_ok2 I hN hi hx r (fun s' I' _=>h s' I') hf
theorem Inv.call' {s':Shared}{ch:List Addr}(I:Inv X pins σ H s) (ho:s'.os=s.os) (u:Un (frs X.stack) ch H H' s.heap s'.heap) (hok:HOk X.prog X.w H' s'.heap) (hg:AllBare s'.gens)
  (hch:∀ b∈ch,(b∈X.ex∨X.s₀.heap.objs.size≤b)∧b≠X.env.locals∧(∀ x c,X.env.cells.lookup x=some c→c≠b)∧∀ p∈X.pn++pins,p.1≠b):Inv X pins σ H' s':=by
 obtain⟨h',g',d',t',o'⟩:=s'
 have e:o'=s.os:=ho
 subst e
 exact I.call (g':=g') (t':=t') (d':=d') u hok hg hch
end
abbrev XK:=Value→Option Addr→Hp→Prop
abbrev St:=List (Option V)
abbrev VK:=V→Hp→Prop
abbrev TE:=St→Hp→VK→Prop
abbrev TT:=St→Hp→(Bool→Hp→Prop)→Prop
abbrev TA:=St→Hp→(List V→Hp→Prop)→Prop
structure Ends where
 nx:St→Hp→Prop
 rt:VK
 bk:St→Hp→Prop:=fun _ _=>False
 ct:St→Hp→Prop:=fun _ _=>False
abbrev TS:=Ends→St→Hp→Prop
def EP (X:Cx) (pins:List (Addr×Obj)) (σ:St) (Q:VK) (u:Value) (s':Shared):Prop:=∃ v H',Inv X pins σ H' s'∧RelV v u∧Q v H'
def TP (X:Cx) (pins:List (Addr×Obj)) (σ:St) (Q:Bool→Hp→Prop) (b:Bool) (s':Shared):Prop:=∃ H',Inv X pins σ H' s'∧Q b H'
def AP (X:Cx) (pins:List (Addr×Obj)) (σ:St) (Q:List V→Hp→Prop) (us:List Value) (s':Shared):Prop:=∃ vs H',Inv X pins σ H' s'∧Vals vs us∧Q vs H'
def SP (X:Cx) (pins:List (Addr×Obj)) (D:Ends) (f:Flow) (s':Shared):Prop:=
 match f with
 | .next=>∃ σ' H',Inv X pins σ' H' s'∧D.nx σ' H'
 | .brk=>∃ σ' H',Inv X pins σ' H' s'∧D.bk σ' H'
 | .cont=>∃ σ' H',Inv X pins σ' H' s'∧D.ct σ' H'
 | .ret u=>∃ v σ' H',Inv X pins σ' H' s'∧RelV v u∧D.rt v H'
def PE (X:Cx) (e:Expr) (t:TE):Prop:=
 ∀ (pins:List (Addr×Obj)) (s:Shared) (σ:St) (H:Hp) (Q:VK),Inv X pins σ H s→t σ H Q→wpAny (model X.prog X.w) X.A (eval e X.env) (EP X pins σ Q) X.xe s
def PT (X:Cx) (e:Expr) (t:TT):Prop:=
 ∀ (pins:List (Addr×Obj)) (s:Shared) (σ:St) (H:Hp) (Q:Bool→Hp→Prop),Inv X pins σ H s→t σ H Q→wpAny (model X.prog X.w) X.A (isTrue e X.env (eval e X.env)) (TP X pins σ Q) X.xe s
def PW (X:Cx) (e:Expr) (t:TT):Prop:=
 ∀ (whole:Sem Value) (pins:List (Addr×Obj)) (s:Shared) (σ:St) (H:Hp) (Q:Bool→Hp→Prop),Inv X pins σ H s→t σ H Q→wpAny (model X.prog X.w) X.A (isTrue e X.env whole) (TP X pins σ Q) X.xe s
theorem PW.pt {X:Cx}{e:Expr}{t:TT}(h:PW X e t):PT X e t:=h _
def PA (X:Cx) (es:List Expr) (t:TA):Prop:=
 ∀ (pos:Pos) (pins:List (Addr×Obj)) (s:Shared) (σ:St) (H:Hp) (Q:List V→Hp→Prop),Inv X pins σ H s→t σ H Q→wpAny (model X.prog X.w) X.A (spliced (backTo pos (starEach es X.env))) (AP X pins σ Q) X.xe s
def PS (X:Cx) (st:Stmt) (t:TS):Prop:=
 ∀ (pins:List (Addr×Obj)) (s:Shared) (σ:St) (H:Hp) (D:Ends),Inv X pins σ H s→t D σ H→wpAny (model X.prog X.w) X.A (exec st X.env) (SP X pins D) X.xe s
def PSs (X:Cx) (st:List Stmt) (t:TS):Prop:=
 ∀ (pins:List (Addr×Obj)) (s:Shared) (σ:St) (H:Hp) (D:Ends),Inv X pins σ H s→t D σ H→wpAny (model X.prog X.w) X.A (execs st X.env) (SP X pins D) X.xe s
theorem thn {α:Type}{t:Sem α}{Q Q':α→Shared→Prop}{M:Model}{A:Around}{E:Value→Shared→Prop}{s:Shared}(h:wpAny M A t Q E s) (hQ:∀ a s,Q a s→Q' a s):wpAny M A t Q' E s:=wpAny_mono h hQ fun _ _ x=>x
end L2
namespace L2
open PySem PySem.Spec PyProof.Rows
section
variable {X:Cx}
def tVar (i:Nat):TE:=fun σ H Q=>∃ v,σ[i]? = some (some v)∧Q v H
def tC (v:V):TE:=fun _ H Q=>Q v H
theorem pe_var {i:Nat}{x:Str}{pos:Pos}(hN:X.N[i]? = some x) (hv:Vis X.env.scope x) (hd:(x == ("__debug__" : Str))=false:=by decide) (hcd:(x == ("__classdict__" : Str))=false:=by decide):PE X (.Name x pos) (tVar i):=by
 intro pins s σ H Q I h
 obtain⟨v,e,h⟩:=h
 obtain⟨m,hn,hl⟩:=I.loc
 obtain⟨u,r,l⟩:=hl i x v hN e hv
 have fin:EP X pins σ Q u s:=⟨v,H,I,r,h⟩
 rcases l with ⟨hk,hm⟩|⟨hk,c,hc,hcell⟩
 ·exact wpAny_Name (wpAny_loadName_local I.ok.kind hk hn hm fin) hd
 ·rcases hk with hk|hk
  ·exact wpAny_Name (wpAny_loadName_cell I.ok.kind hk hc hcell fin) hd
  ·exact wpAny_Name (wpAny_loadName_free I.ok.kind hk hc hcell fin hcd) hd
theorem pe_int {i j pos}:PE X (.Constant (.int i) j pos) (tC (.int i)):=fun _ _ _ H _ I h=>wpAny_Constant_int ⟨.int i,H,I.tok _,⟨_,rfl⟩,h⟩
theorem pe_bl {b j pos}:PE X (.Constant (.bool b) j pos) (tC (.bl b)):=fun _ _ _ H _ I h=>Constant_bool ⟨.bl b,H,I,rfl,h⟩
theorem pe_non {j pos}:PE X (.Constant .none j pos) (tC .non):=fun _ _ _ H _ I h=>Constant_none ⟨.non,H,I,rfl,h⟩
theorem pe_str {x j pos}:PE X (.Constant (.str x) j pos) (tC (.str x)):=fun _ _ _ H _ I h=>Calls.Constant_str ⟨.str x,H,I.tok _,⟨_,rfl⟩,h⟩
def Gl (X:Cx) (x:Str):Prop:=X.env.kindOf x=some .globalImplicit
theorem ld_glob {E:Value→Shared→Prop}{pins:List (Addr×Obj)}{s:Shared}{σ:St}{H:Hp}{x:Str}{u:Value}{pos:Pos}{Q:Value→Shared→Prop}(I:Inv X pins σ H s) (hg:Gl X x) (hm:X.mg x=some u) (h:Q u s)
  (hd:(x == ("__debug__" : Str))=false:=by decide):wpAny (model X.prog X.w) X.A (eval (.Name x pos) X.env) Q E s:=
 Calls.Name_function_global I.ok.kind hg (Calls.loadGlobal_global (by rw[I.ok.glob];exact I.mod.glob.keeps I.bk) hm h) hd
theorem ld_blt {E:Value→Shared→Prop}{pins:List (Addr×Obj)}{s:Shared}{σ:St}{H:Hp}{x:Str}{u:Value}{pos:Pos}{Q:Value→Shared→Prop}(I:Inv X pins σ H s) (hg:Gl X x) (hm:X.mg x=none) (hv:bootBuiltins x=some u) (h:Q u s)
  (hn:x ≠ "__name__":=by decide) (hd:(x == ("__debug__" : Str))=false:=by decide):wpAny (model X.prog X.w) X.A (eval (.Name x pos) X.env) Q E s:=by
 obtain⟨mb,h1,h2⟩:=I.mod.blt
 exact Calls.Name_function_global I.ok.kind hg (Calls.loadGlobal_builtin (by rw[I.ok.glob];exact I.mod.glob.keeps I.bk) hm (by rw[I.ok.blt];exact h1.keeps I.bk) ((h2 x hn).trans hv) h) hd
theorem pe_glob {x:Str}{v:V}{u:Value}{pos:Pos}(hg:Gl X x) (hm:X.mg x=some u) (r:RelV v u) (hd:(x == ("__debug__" : Str))=false:=by decide):PE X (.Name x pos) (tC v):=
 fun _ _ _ H _ I h=>ld_glob I hg hm ⟨v,H,I,r,h⟩ hd
theorem pe_bltn {x:Str}{v:V}{u:Value}{pos:Pos}(hg:Gl X x) (hm:X.mg x=none) (hv:bootBuiltins x=some u) (r:RelV v u) (hn:x ≠ "__name__":=by decide) (hd:(x == ("__debug__" : Str))=false:=by decide):PE X (.Name x pos) (tC v):=
 fun _ _ _ H _ I h=>ld_blt I hg hm hv ⟨v,H,I,r,h⟩ hn hd
variable {a b:Expr}{ta tb:TE}{pos:Pos}
def PC (X:Cx) (op:CmpOp) (a b:Expr) (t:TE):Prop:=
 ∀ (pins:List (Addr×Obj)) (s:Shared) (σ:St) (H:Hp) (Q:VK),Inv X pins σ H s→t σ H Q →
  wpAny (model X.prog X.w) X.A (eval a X.env) (fun v s₁=>wpAny (model X.prog X.w) X.A (eval b X.env) (fun u s₂=>wpAny (model X.prog X.w) X.A (compareOp op v u) (EP X pins σ Q) X.xe s₂) X.xe s₁) X.xe s
theorem nobehind (b:Expr) {op:CmpOp}(h:op≠.In) (h2:op≠.NotIn):behindInMarks op b=false:=by
 have e1:(op == CmpOp.In)=false:=by cases op<;>first|rfl|exact absurd rfl h
 have e2:(op == CmpOp.NotIn)=false:=by cases op<;>first|rfl|exact absurd rfl h2
 cases b<;>simp[behindInMarks,e1,e2]
def tB (t:TE):TT:=fun σ H Q=>t σ H fun x H1=>∃ c,x=.bl c∧Q c H1
theorem pt_cmp {op:CmpOp}{t:TE}(h:PC X op a b t) (h1:behindInMarks op b=false:=by first|exact nobehind _ (by decide) (by decide)|rfl):PT X (.Compare a [op] [b] pos) (tB t):=by
 intro pins s σ H Q I hw
 refine wpAny_isTrue_Compare1 (thn (h pins s σ H _ I hw) fun v s1 h1=>thn h1 fun u s2 h2=>thn h2 fun c s3 ⟨x,H1,I1,r1,q1⟩=>?_) h1
 obtain⟨d,rfl,q⟩:=q1
 cases r1
 exact wpAny_truthy_bool ⟨H1,I1,q⟩
theorem pt_val {e:Expr}{t:TE}(h:PE X e t) (he:∀ whole,isTrue e X.env whole=(do let v ← whole;standAt e.pos;holding [v] (truthy v)):=by intro _;rfl):PT X e (tB t):=by
 intro pins s σ H Q I hw
 refine isTrue_plain (thn (h pins s σ H _ I hw) fun v s1 ⟨x,H1,I1,r1,q1⟩=>?_) (he _)
 obtain⟨d,rfl,q⟩:=q1
 cases r1
 exact wpAny_truthy_bool ⟨H1,I1,q⟩
variable {tA tB':TT}{rest:List Expr}
def tAnd (t u:TT):TT:=fun σ H Q=>t σ H fun c H1=>if c=true then u σ H1 Q else Q false H1
def tOr (t u:TT):TT:=fun σ H Q=>t σ H fun c H1=>if c=true then Q true H1 else u σ H1 Q
def tNot (t:TT):TT:=fun σ H Q=>t σ H fun c H1=>Q (!c) H1
theorem pw_and1 (ha:PT X a tA):PW X (.BoolOp .And [a] pos) tA:=by
 intro wh pins s σ H Q I h
 refine isTrue_and (thn (ha pins s σ H Q I h) fun c s1 e=>?_)
 cases c with
 | true=>exact isTrue_and_nil e
 | false=>exact e
theorem pw_or1 (ha:PT X a tA):PW X (.BoolOp .Or [a] pos) tA:=by
 intro wh pins s σ H Q I h
 refine isTrue_or (thn (ha pins s σ H Q I h) fun c s1 e=>?_)
 cases c with
 | false=>exact isTrue_or_nil e
 | true=>exact e
theorem pw_and (ha:PT X a tA) (hb:PW X (.BoolOp .And (b::rest) pos) tB'):PW X (.BoolOp .And (a::b::rest) pos) (tAnd tA tB'):=by
 intro wh pins s σ H Q I h
 refine isTrue_and (thn (ha pins s σ H _ I h) fun c s1 ⟨H1,I1,q1⟩=>?_)
 cases c with
 | true=>exact hb wh pins s1 σ H1 Q I1 q1
 | false=>exact⟨H1,I1,q1⟩
theorem pw_or (ha:PT X a tA) (hb:PW X (.BoolOp .Or (b::rest) pos) tB'):PW X (.BoolOp .Or (a::b::rest) pos) (tOr tA tB'):=by
 intro wh pins s σ H Q I h
 refine isTrue_or (thn (ha pins s σ H _ I h) fun c s1 ⟨H1,I1,q1⟩=>?_)
 cases c with
 | true=>exact⟨H1,I1,q1⟩
 | false=>exact hb wh pins s1 σ H1 Q I1 q1
theorem pt_not (ha:PT X a tA):PT X (.UnaryOp .Not a pos) (tNot tA):=by
 intro pins s σ H Q I h
 exact isTrue_not (ha pins s σ H (fun c H1=>Q (!c) H1) I h)
def tAndV (ta tb:TE):TE:=fun σ H Q=>ta σ H fun x H1=>∃ c,x=.bl c∧if c=true then tb σ H1 Q else Q (.bl false) H1
def tOrV (ta tb:TE):TE:=fun σ H Q=>ta σ H fun x H1=>∃ c,x=.bl c∧if c=true then Q (.bl true) H1 else tb σ H1 Q
def tNotV (ta:TE):TE:=fun σ H Q=>ta σ H fun x H1=>∃ c,x=.bl c∧Q (.bl (!c)) H1
theorem pe_one {op}{t:TE}(h:PE X a t):PE X (.BoolOp op [a] pos) t:=fun pins s σ H Q I hw=>BoolOp_one (h pins s σ H Q I hw)
theorem pe_and (ha:PE X a ta) (hb:PE X (.BoolOp .And (b::rest) pos) tb):PE X (.BoolOp .And (a::b::rest) pos) (tAndV ta tb):=by
 intro pins s σ H Q I h
 refine BoolOp_and (thn (ha pins s σ H _ I h) fun v s1 ⟨x,H1,I1,r1,q1⟩=>?_)
 obtain⟨c,rfl,q1⟩:=q1
 cases r1
 refine wpAny_truthy_bool ?_
 cases c with
 | true=>exact hb pins s1 σ H1 Q I1 q1
 | false=>exact⟨.bl false,H1,I1,rfl,q1⟩
theorem pe_or (ha:PE X a ta) (hb:PE X (.BoolOp .Or (b::rest) pos) tb):PE X (.BoolOp .Or (a::b::rest) pos) (tOrV ta tb):=by
 intro pins s σ H Q I h
 refine BoolOp_or (thn (ha pins s σ H _ I h) fun v s1 ⟨x,H1,I1,r1,q1⟩=>?_)
 obtain⟨c,rfl,q1⟩:=q1
 cases r1
 refine wpAny_truthy_bool ?_
 cases c with
 | false=>exact hb pins s1 σ H1 Q I1 q1
 | true=>exact⟨.bl true,H1,I1,rfl,q1⟩
theorem pe_not (ha:PE X a ta):PE X (.UnaryOp .Not a pos) (tNotV ta):=by
 intro pins s σ H Q I h
 refine UnaryOp_ (thn (ha pins s σ H _ I h) fun v s1 ⟨x,H1,I1,r1,q1⟩=>?_)
 obtain⟨c,rfl,q1⟩:=q1
 cases r1
 exact not_of (wpAny_truthy_bool ⟨.bl (!c),H1,I1,rfl,q1⟩)
end
end L2
namespace L2
open PySem PySem.Spec PyProof.Rows
def SqL (K:PySem.W.Frag) (H:Hp) (a:Addr) (xs:List V):Prop:=
 Rd H a (.lst xs) ∨
  ∃ (o:Obj) (its:Array Value) (n:Nat),K.lookup a=some o∧o.cls=.type "list" ∧ o.dict=none∧o.data=.seq its n∧its.size≤sizeLine∧Vals xs its.toList
def SqT (K:PySem.W.Frag) (H:Hp) (a:Addr) (xs:List V):Prop:=
 Rd H a (.tup xs) ∨
  ∃ (o:Obj) (its:Array Value) (n:Nat),K.lookup a=some o∧o.cls=.type "tuple" ∧ o.data=.seq its n∧its.size≤sizeLine∧Vals xs its.toList
def absV:Value→Option V
 | .none=>some .non
 | .bool b=>some (.bl b)
 | .int i _=>some (.int i)
 | .str x _=>some (.str x)
 | .bytes b _=>some (.byt b)
 | .float b _=>some (.flt b)
 | .ref a=>some (.ref a)
 | .type n=>some (.ty n)
 | _=>none
theorem RelV.abs {x:V}{u:Value}(r:RelV x u):absV u=some x:=by
 cases x with
 | non=>cases r;rfl
 | bl _=>cases r;rfl
 | int _=>obtain⟨t,rfl⟩:=r;rfl
 | str _=>obtain⟨t,rfl⟩:=r;rfl
 | byt _=>obtain⟨t,rfl⟩:=r;rfl
 | flt _=>obtain⟨t,rfl⟩:=r;rfl
 | ref _=>cases r;rfl
 | ty _=>cases r;rfl
theorem RelV.inj {x y:V}{u:Value}(r:RelV x u) (q:RelV y u):x=y:=Option.some.inj (r.abs.symm.trans q.abs)
theorem Vals.inj:∀ {xs ys:List V}{us:List Value},Vals xs us→Vals ys us→xs=ys
 | _,_,_,.nil,.nil=>rfl
 | _,_,_,.cons r t,.cons r' t'=>by rw[r.inj r',Vals.inj t t']
section
variable {X:Cx}{pins:List (Addr×Obj)}{σ:St}{H:Hp}{s:Shared}{a:Addr}{xs ys:List V}
theorem SqL.of {K:PySem.W.Frag}(h:H a=some (.lst xs)):SqL K H a xs:=.inl (.inl h)
theorem SqT.of {K:PySem.W.Frag}(h:H a=some (.tup xs)):SqT K H a xs:=.inl (.inl h)
theorem Inv.list (I:Inv X pins σ H s) (h:SqL X.K H a xs):∃ its:List Value,Vals xs its∧PlainL s.heap a its.toArray∧xs.length≤sizeLine:=by
 rcases h with h|⟨o,its,n,hk,hc,hd,hs,hz,r⟩
 ·obtain⟨z,its,n,r,e⟩:=h.ok I.hok
  exact⟨its,r,⟨_,n,e,rfl,rfl,rfl⟩,z⟩
 ·refine⟨its.toList,r,⟨o,n,I.kIn a o hk,hc,hd,by simpa using hs⟩,?_⟩
  have e:=r.length
  simp only[Array.length_toList] at e
  omega
theorem Inv.tuple (I:Inv X pins σ H s) (h:SqT X.K H a xs):∃ its:List Value,Vals xs its∧IsTup s.heap a its.toArray∧xs.length≤sizeLine:=by
 rcases h with h|⟨o,its,n,hk,hc,hs,hz,r⟩
 ·obtain⟨z,its,r,p⟩:=h.ok I.hok
  exact⟨its,r,p,z⟩
 ·refine⟨its.toList,r,⟨o,I.kIn a o hk,hc,n,by simpa using hs⟩,?_⟩
  have e:=r.length
  simp only[Array.length_toList] at e
  omega
theorem Inv.list_inj (I:Inv X pins σ H s) (h:SqL X.K H a xs) (h':SqL X.K H a ys):xs=ys:=by
 obtain⟨its,r,⟨o,n,e,_,_,d⟩,_⟩:=I.list h
 obtain⟨its',r',⟨o',n',e',_,_,d'⟩,_⟩:=I.list h'
 rw[e] at e';cases e'
 rw[d] at d'
 injection d' with d1 _
 have:its=its':=by simpa using congrArg Array.toList d1
 subst this
 exact r.inj r'
theorem Inv.tuple_inj (I:Inv X pins σ H s) (h:SqT X.K H a xs) (h':SqT X.K H a ys):xs=ys:=by
 obtain⟨its,r,⟨o,e,_,n,d⟩,_⟩:=I.tuple h
 obtain⟨its',r',⟨o',e',_,n',d'⟩,_⟩:=I.tuple h'
 rw[e] at e';cases e'
 rw[d] at d'
 injection d' with d1 _
 have:its=its':=by simpa using congrArg Array.toList d1
 subst this
 exact r.inj r'
end
abbrev Cx.wish (X:Cx) (E:Value→Shared→Prop):Cx:={ X with xe:=E }
abbrev Cx.nox (X:Cx):Cx:=X.wish fun _ _=>False
theorem Cx.Ok.wish {X:Cx}(ok:X.Ok) (E:Value→Shared→Prop):(X.wish E).Ok:=
 ⟨ok.mod,ok.kind,ok.glob,ok.blt,ok.above,ok.inj,ok.has,ok.cab,ok.hd,ok.frames,ok.stk,ok.exf,ok.bs,ok.bsz,ok.noex,ok.exfs,ok.funs,ok.frf⟩
theorem Cx.Ok.unwish {X:Cx}{E:Value→Shared→Prop}(ok:(X.wish E).Ok):X.Ok:=
 ⟨ok.mod,ok.kind,ok.glob,ok.blt,ok.above,ok.inj,ok.has,ok.cab,ok.hd,ok.frames,ok.stk,ok.exf,ok.bs,ok.bsz,ok.noex,ok.exfs,ok.funs,ok.frf⟩
section
variable {X:Cx}{pins:List (Addr×Obj)}{σ:St}{H:Hp}{s:Shared}{E:Value→Shared→Prop}
theorem Inv.wish (I:Inv X pins σ H s) (E:Value→Shared→Prop):Inv (X.wish E) pins σ H s:=⟨I.ok.wish E,I.os,I.bare,I.base,I.loc,I.cell,I.free,I.freeC,I.pin,I.hok,I.len⟩
theorem Inv.unwish (I:Inv (X.wish E) pins σ H s):Inv X pins σ H s:=⟨I.ok.unwish,I.os,I.bare,I.base,I.loc,I.cell,I.free,I.freeC,I.pin,I.hok,I.len⟩
theorem SP.unwish {D:Ends}{f:Flow}{s':Shared}(h:SP (X.wish E) pins D f s'):SP X pins D f s':=by
 cases f with
 | next=>obtain⟨σ',H',I,q⟩:=h;exact⟨σ',H',I.unwish,q⟩
 | brk=>obtain⟨σ',H',I,q⟩:=h;exact⟨σ',H',I.unwish,q⟩
 | cont=>obtain⟨σ',H',I,q⟩:=h;exact⟨σ',H',I.unwish,q⟩
 | ret u=>obtain⟨v,σ',H',I,r,q⟩:=h;exact⟨v,σ',H',I.unwish,r,q⟩
theorem PE.nox {e:Expr}{t:TE}(h:PE X.nox e t):PE X e t:=fun pins s σ H Q I hw=>
 wpAny_mono (h pins s σ H Q (I.wish _) hw) (fun _ _ ⟨v,H',I',r,q⟩=>⟨v,H',I'.unwish,r,q⟩) fun _ _ z=>False.elim z
theorem PSs.nox {st:List Stmt}{t:TS}(h:PSs X.nox st t):PSs X st t:=fun pins s σ H D I hw=>
 wpAny_mono (h pins s σ H D (I.wish _) hw) (fun _ _ q=>q.unwish) fun _ _ z=>False.elim z
end
section
variable {X:Cx}{st:Stmt}{rest:List Stmt}{t u:TS}{e:Expr}{te:TE}{pos:Pos}
def tNext:TS:=fun D σ H=>D.nx σ H
def tSeq (t u:TS):TS:=fun D σ H=>t { D with nx:=u D } σ H
theorem pss_nil:PSs X [] tNext:=fun _ _ σ H _ I h=>wpAny_execs_nil ⟨σ,H,I,h⟩
theorem pss_cons (h1:PS X st t) (h2:PSs X rest u):PSs X (st::rest) (tSeq t u):=by
 intro pins s σ H D I h
 refine wpAny_execs_cons (thn (h1 pins s σ H { D with nx:=u D } I h) fun f s1 q=>?_)
 cases f with
 | next=>
  obtain⟨σ',H',I',q⟩:=q
  exact h2 pins s1 σ' H' D I' q
 | ret v=>exact q
 | brk=>exact q
 | cont=>exact q
theorem pss_one (h1:PS X st t):PSs X [st] t:=by
 intro pins s σ H D I h
 refine wpAny_execs_cons (thn (h1 pins s σ H D I h) fun f s1 q=>?_)
 cases f with
 | next=>exact wpAny_execs_nil q
 | ret v=>exact q
 | brk=>exact q
 | cont=>exact q
theorem Inv.quiet {pins:List (Addr×Obj)}{σ:St}{H:Hp}{s:Shared}(I:Inv X pins σ H s):interactive X.env=false:=by simp[interactive,I.ok.kind]
def tDrop (te:TE):TS:=fun D σ H=>te σ H fun _ H1=>D.nx σ H1
theorem ps_expr (he:PE X e te) (hs:swapsWith e none pos.line X.env=pure false:=by rfl):PS X (.Expr e pos) (tDrop te):=by
 intro pins s σ H D I h
 exact wpAny_Expr_any (thn (he pins s σ H _ I h) fun v s1 ⟨x,H1,I1,r1,q1⟩=>⟨σ,H1,I1,q1⟩) I.quiet hs
def tRet (te:TE):TS:=fun D σ H=>te σ H D.rt
theorem ps_ret (he:PE X e te):PS X (.Return (some e) pos) (tRet te):=by
 intro pins s σ H D I h
 exact wpAny_Return_some (thn (he pins s σ H _ I h) fun v s1 ⟨x,H1,I1,r1,q1⟩=>⟨x,σ,H1,I1,r1,q1⟩)
def tRetN:TS:=fun D _ H=>D.rt .non H
theorem ps_retN:PS X (.Return none pos) tRetN:=fun _ _ σ H _ I h=>wpAny_Return_none ⟨.non,σ,H,I,rfl,h⟩
def tIfS (c:TT) (t u:TS):TS:=fun D σ H=>c σ H fun b H1=>if b=true then t D σ H1 else u D σ H1
theorem ps_if {c:Expr}{a b:List Stmt}{tc:TT}(hc:PT X c tc) (ha:PSs X a t) (hb:PSs X b u):PS X (.If c a b pos) (tIfS tc t u):=by
 intro pins s σ H D I h
 refine wpAny_If (thn (hc pins s σ H _ I h) fun d s1 ⟨H1,I1,q1⟩=>?_)
 cases d with
 | true=>exact ha pins s1 σ H1 D I1 q1
 | false=>exact hb pins s1 σ H1 D I1 q1
def tNever:TS:=fun _ _ _=>False
theorem ps_never:PS X st tNever:=fun _ _ _ _ _ _ h=>h.elim
end
abbrev TG:=V→St→Hp→(St→Hp→Prop)→Prop
abbrev TGs:=List V→St→Hp→(St→Hp→Prop)→Prop
def PG (X:Cx) (target:Expr) (t:TG):Prop:=
 ∀ (pins:List (Addr×Obj)) (s:Shared) (σ:St) (H:Hp) (v:V) (u:Value) (Q:St→Hp→Prop),Inv X pins σ H s→RelV v u→t v σ H Q →
  wpAny (model X.prog X.w) X.A (assign target X.env u) (fun _ s'=>∃ σ' H',Inv X pins σ' H' s'∧Q σ' H') X.xe s
def PGs (X:Cx) (ts:List Expr) (t:TGs):Prop:=
 ∀ (pins:List (Addr×Obj)) (s:Shared) (σ:St) (H:Hp) (vs:List V) (us:List Value) (Q:St→Hp→Prop),Inv X pins σ H s→Vals vs us→t vs σ H Q →
  wpAny (model X.prog X.w) X.A (assignInOrder ((assignEach ts X.env).map (·.2)) us) (fun _ s'=>∃ σ' H',Inv X pins σ' H' s'∧Q σ' H') X.xe s
section
variable {X:Cx}{pos:Pos}
def gName (i:Nat):TG:=fun v σ H Q=>Q (σ.set i (some v)) H
theorem pg_name {i:Nat}{x:Str}(hN:X.N.Nodup) (hi:X.N[i]? = some x) (hx:Loc X.env.scope x) (hf:X.fn x=true∨X.env.scope.names.lookup x=some .local:=by first|exact .inl rfl|exact .inr rfl|assumption):PG X (.Name x pos) (gName i):=by
 intro pins s σ H v u Q I r h
 exact wpAny_assign_Name (store_ok I hN hi hx r (fun s' I'=>⟨_,H,I',h⟩) hf)
def gNil:TGs:=fun vs σ H Q=>vs=[]∧Q σ H
def gCons (t:TG) (u:TGs):TGs:=fun vs σ H Q=>∃ v r,vs=v::r∧t v σ H fun σ' H'=>u r σ' H' Q
theorem pgs_nil:PGs X [] gNil:=by
 intro pins s σ H vs us Q I r h
 obtain⟨e,h⟩:=h
 subst e
 cases r
 exact assignInOrder_nil ⟨σ,H,I,h⟩
theorem pgs_cons {e:Expr}{es:List Expr}{t:TG}{u:TGs}(h1:PG X e t) (h2:PGs X es u)
  (hs:(assignEach (e::es) X.env).map (·.2)=assign e X.env::(assignEach es X.env).map (·.2):=by rfl):PGs X (e::es) (gCons t u):=by
 intro pins s σ H vs us Q I r h
 obtain⟨v,vr,e1,h⟩:=h
 subst e1
 cases r with
 | cons r rr=>
  rw[hs]
  refine assignInOrder_cons (thn (h1 pins s σ H _ _ _ I r h) fun _ s1 ⟨σ1,H1,I1,q1⟩=>?_)
  exact h2 pins s1 σ1 H1 _ _ Q I1 rr q1
def gTup (K:PySem.W.Frag) (n:Nat) (t:TGs):TG:=fun v σ H Q=>∃ a xs,v=.ref a∧SqT K H a xs∧xs.length=n∧t xs σ H Q
theorem pg_tup {es:List Expr}{k:Nat}{t:TGs}{n:Nat}(hc:X.calm=true) (h:PGs X es t)
  (hn:(assignEach es X.env).length=n:=by rfl) (hst:(assignEach es X.env).findIdx? (·.1)=none:=by rfl):PG X (.Tuple es k pos) (gTup X.K n t):=by
 intro pins s σ H v u Q I r hw
 obtain⟨a,xs,e1,hq,hl,hw⟩:=hw
 subst e1
 cases r
 obtain⟨its,rv,ht,hz⟩:=I.tuple hq
 refine assign_Tuple_tuple (I.ok.hd hc) ht (by simp[hn,← hl,rv.length]) hst fun h' hx=>?_
 have I1:Inv X pins σ H { s with heap:=h' }:=I.kept (t':=s.toks) fun b o e=>hx b o (Nat.ne_of_lt (Heap.lt_size e)) e
 exact h pins _ σ H xs _ Q I1 (by simpa using rv) hw
def tAsg (te:TE) (g:TG):TS:=fun D σ H=>te σ H fun x H1=>g x σ H1 D.nx
theorem ps_set {i:Nat}{x:Str}{e:Expr}{te:TE}{pos':Pos}(hN:X.N.Nodup) (hi:X.N[i]? = some x) (hx:Loc X.env.scope x) (he:PE X e te) (hs:swapsWith e (some (.Name x pos')) pos.line X.env=pure false:=by rfl) (hf:X.fn x=true∨X.env.scope.names.lookup x=some .local:=by first|exact .inl rfl|exact .inr rfl|assumption) :
  PS X (.Assign [.Name x pos'] e pos) (tAsg te (gName i)):=by
 intro pins s σ H D I h
 refine wpAny_Assign_Name (thn (he pins s σ H _ I h) fun v s1 ⟨y,H1,I1,r1,q1⟩=>?_) hs
 exact store_ok I1 hN hi hx r1 (fun s2 I2=>⟨_,H1,I2,q1⟩) hf
end
section
variable {X:Cx}{pos:Pos}
end
structure It where
 go:Nat→Hp→Prop
 yld:Nat→Hp→V→Hp→Prop
 stop:Nat→Hp→Prop
def FpOk (X:Cx) (pins:List (Addr×Obj)) (H:Hp) (b:Addr):Prop:=
 H b=none∧b≠X.env.locals∧b∉X.fs∧(b∈X.ex∨X.s₀.heap.objs.size≤b)∧(∀ x c,X.env.cells.lookup x=some c→c≠b)∧∀ p∈X.pn++pins,p.1≠b
theorem Inv.fpOk {X:Cx}{pins:List (Addr×Obj)}{σ:St}{H H':Hp}{s:Shared}{b:Addr}(I:Inv X pins σ H s) (hb:s.heap.objs.size≤b) (hn:H' b=none):FpOk X pins H' b:=by
 refine⟨hn,Nat.ne_of_gt (Nat.lt_of_lt_of_le I.lt hb),I.nofs hb,.inr (Nat.le_trans I.sz hb),fun x c e z=>?_,fun p hp z=>?_⟩
 ·obtain⟨v,q⟩:=I.cell x c e
  exact absurd (Nat.lt_of_lt_of_le q.lt (by rw[z];exact hb)) (Nat.lt_irrefl _)
 ·exact absurd (Nat.lt_of_lt_of_le (Heap.lt_size (I.pin p hp).1) (by rw[z];exact hb)) (Nat.lt_irrefl _)
structure Turn (P:Program) (w:World) (K:PySem.W.Frag) (tg:Expr) (J:It) (fp:List Addr) (it:Addr) (tn:Nat→Heap→Prop):Prop where
 mem:it∈fp
 obj:∀ i h,tn i h→∀ b∈fp,∃ o,h.get? b=some o∧∀ v,o.data≠.cell v
 keep:∀ i h h',tn i h→(∀ b∈fp,∀ o,h.get? b=some o→h'.get? b=some o)→tn i h'
 item:∀ (X:Cx),X.prog=P→X.w=w→X.K=K→X.calm=true→∀ (i:Nat) (pins:List (Addr×Obj)) (s:Shared) (σ:St) (H:Hp) (E:Value→Shared→Prop),Inv X pins σ H s→(∀ b∈fp,FpOk X pins H b)→tn i s.heap→J.go i H →
  wpAny (model P w) X.A (pyNext (.ref it)) (fun r s1=>∃ u,r=some u ∧
   wpAny (model P w) X.A (letOwnedTupleGo tg (.ref it) u) (fun _ s2=>∃ x H',Inv X pins σ H' s2∧RelV x u∧J.yld i H x H'∧tn (i+1) s2.heap∧∀ b∈fp,H' b=none) E s1) E s
 done:∀ (X:Cx),X.prog=P→X.w=w→X.K=K→X.calm=true→∀ (i:Nat) (pins:List (Addr×Obj)) (s:Shared) (σ:St) (H:Hp) (E:Value→Shared→Prop),Inv X pins σ H s→(∀ b∈fp,FpOk X pins H b)→tn i s.heap→J.stop i H →
  wpAny (model P w) X.A (pyNext (.ref it)) (fun r s1=>r=none∧Inv X pins σ H s1) E s
 self:∀ (A:Around) (i:Nat) (s:Shared) (Q:Value→Shared→Prop) (E:Value→Shared→Prop),tn i s.heap→Q (.ref it) s→wpAny (model P w) A (pyIter (.ref it)) Q E s
abbrev TI:=St→Hp→(It→Hp→Prop)→Prop
def PIE (X:Cx) (pins:List (Addr×Obj)) (σ:St) (tg:Expr) (R:It→Hp→Prop) (itv:Value) (s2:Shared):Prop:=
 ∃ (it:Addr) (fp:List Addr) (tn:Nat→Heap→Prop) (J:It) (H':Hp),itv=.ref it∧Inv X pins σ H' s2∧Turn X.prog X.w X.K tg J fp it tn∧tn 0 s2.heap∧(∀ b∈fp,FpOk X pins H' b)∧R J H'
def PI (X:Cx) (tg iter:Expr) (wi:TI):Prop:=
 ∀ (pins:List (Addr×Obj)) (s:Shared) (σ:St) (H:Hp) (R:It→Hp→Prop),Inv X pins σ H s→wi σ H R →
  wpAny (model X.prog X.w) X.A (eval iter X.env) (fun v s1=>wpAny (model X.prog X.w) X.A (pyIter v) (PIE X pins σ tg R) X.xe s1) X.xe s
theorem go_of {M:Model}{A:Around}{E:Value→Shared→Prop}{s:Shared}{tg:Expr}{it:Addr}{u:Value}{o:Obj}{n:String}{vs:Array Value}{Q:Unit→Shared→Prop}(ho:s.heap.get? it=some o) (hc:o.cls=.type n) (hd:o.data=.fields vs)
    (hn:["enumerate","zip","dict_itemiterator","dict_reverseitemiterator","odict_iterator","itertools.zip_longest","itertools.pairwise"].contains n=false) (hQ:Q () s):wpAny M A (letOwnedTupleGo tg (.ref it) u) Q E s:=by
  unfold letOwnedTupleGo
  cases tg<;>first
    | exact wpAny_pure hQ
    | (cases u<;>first
        | exact wpAny_pure hQ
        | (refine wpAny_bind (wpAny_load ho ?_)
           rw[hc,hd]
           show wpAny M A (if (["enumerate","zip","dict_itemiterator","dict_reverseitemiterator","odict_iterator","itertools.zip_longest","itertools.pairwise"].contains n && vs[0]? == some (rawInt _))=true then _ else _) Q E s
           rw[if_neg (by intro h;rw[hn,Bool.false_and] at h;cases h)]
           exact wpAny_pure hQ))
def Itl (K:PySem.W.Frag) (a:Addr):It:=
 ⟨fun i H=>∃ xs x,SqL K H a xs∧xs[i]? = some x,fun i H x H'=>H'=H∧∀ xs,SqL K H a xs→xs[i]? = some x,fun i H=>∃ xs,SqL K H a xs∧xs.length≤i⟩
def Itt (K:PySem.W.Frag) (a:Addr):It:=
 ⟨fun i H=>∃ xs x,SqT K H a xs∧xs[i]? = some x,fun i H x H'=>H'=H∧∀ xs,SqT K H a xs→xs[i]? = some x,fun i H=>∃ xs,SqT K H a xs∧xs.length≤i⟩
def Itr (lo:Int) (n:Nat):It:=⟨fun i _=>i<n,fun i H x H'=>H'=H∧x=.int (lo+i),fun i _=>n≤i⟩
theorem turn_list {P:Program}{w:World}{K:PySem.W.Frag}{tg:Expr}(a it:Addr):Turn P w K tg (Itl K a) [it] it (fun i h=>h.IsListIter it a i) where
 mem:=by simp
 obj:=fun i h st b hb=>by
  have e:b=it:=by simpa using hb
  subst e
  obtain⟨o,e,c,d⟩:=st
  exact⟨o,e,fun v z=>by rw[d] at z;cases z⟩
 keep:=fun i h h' st k=>st.at fun o e=>k it (by simp) o e
 item:=by
  intro X hP hw hK hc i pins s σ H E I hf st hg
  subst hP hw hK
  obtain⟨xs,x,hq,hx⟩:=hg
  obtain⟨its,rv,p,hz⟩:=I.list hq
  obtain⟨u,hu,ru⟩:=rv.get hx
  obtain⟨f0,f1,f2,f3,f4,f5⟩:=hf it (by simp)
  refine wpAny_pyNext_list_item st p.isList (x:=u) (by simpa using hu) fun h' st' sb=>?_
  have I1:Inv X pins σ H { s with heap:=h' }:=I.turned (t':=s.toks) (fun b o hb e=>(sb.2 b hb).trans e) f0 f1 f3 f4 f5
  obtain⟨o,e,c,d⟩:=id st'
  exact⟨u,rfl,go_of (s:={ s with heap:=h' }) e c d (by decide) ⟨x,H,I1,ru,⟨rfl,fun ys hy=>by rw[I.list_inj hy hq];exact hx⟩,st',fun b hb=>(hf b hb).1⟩⟩
 done:=by
  intro X hP hw hK hc i pins s σ H E I hf st hg
  subst hP hw hK
  obtain⟨xs,hq,hx⟩:=hg
  obtain⟨its,rv,p,hz⟩:=I.list hq
  obtain⟨f0,f1,f2,f3,f4,f5⟩:=hf it (by simp)
  have hl:=rv.length
  exact wpAny_pyNext_list_end (I.ok.hd hc) st p.isList (by simp;omega) fun h' eb=>⟨rfl,I.turned (t':=s.toks) (fun b o hb e=>eb b o hb e) f0 f1 f3 f4 f5⟩
 self:=fun _ _ _ _ _ st h=>wpAny_pyIter_listiter st h
theorem turn_tuple {P:Program}{w:World}{K:PySem.W.Frag}{tg:Expr}(a it:Addr):Turn P w K tg (Itt K a) [it] it (fun i h=>h.IsTupleIter it a i) where
 mem:=by simp
 obj:=fun i h st b hb=>by
  have e:b=it:=by simpa using hb
  subst e
  obtain⟨o,e,c,d⟩:=st
  exact⟨o,e,fun v z=>by rw[d] at z;cases z⟩
 keep:=fun i h h' st k=>st.at fun o e=>k it (by simp) o e
 item:=by
  intro X hP hw hK hc i pins s σ H E I hf st hg
  subst hP hw hK
  obtain⟨xs,x,hq,hx⟩:=hg
  obtain⟨its,rv,p,hz⟩:=I.tuple hq
  obtain⟨u,hu,ru⟩:=rv.get hx
  obtain⟨f0,f1,f2,f3,f4,f5⟩:=hf it (by simp)
  refine wpAny_pyNext_tuple_item st (show s.heap.IsTuple a its.toArray from p) (x:=u) (by simpa using hu) fun h' st' sb=>?_
  have I1:Inv X pins σ H { s with heap:=h' }:=I.turned (t':=s.toks) (fun b o hb e=>(sb.2 b hb).trans e) f0 f1 f3 f4 f5
  obtain⟨o,e,c,d⟩:=id st'
  exact⟨u,rfl,go_of (s:={ s with heap:=h' }) e c d (by decide) ⟨x,H,I1,ru,⟨rfl,fun ys hy=>by rw[I.tuple_inj hy hq];exact hx⟩,st',fun b hb=>(hf b hb).1⟩⟩
 done:=by
  intro X hP hw hK hc i pins s σ H E I hf st hg
  subst hP hw hK
  obtain⟨xs,hq,hx⟩:=hg
  obtain⟨its,rv,p,hz⟩:=I.tuple hq
  obtain⟨f0,f1,f2,f3,f4,f5⟩:=hf it (by simp)
  have hl:=rv.length
  exact wpAny_pyNext_tuple_end (I.ok.hd hc) st (show s.heap.IsTuple a its.toArray from p) (by simp;omega) fun h' eb=>⟨rfl,I.turned (t':=s.toks) (fun b o hb e=>eb b o hb e) f0 f1 f3 f4 f5⟩
 self:=fun _ _ _ _ _ st h=>wpAny_pyIter_tupleiter st h
theorem turn_range {P:Program}{w:World}{K:PySem.W.Frag}{tg:Expr}(it:Addr) (lo:Int) (n:Nat):Turn P w K tg (Itr lo n) [it] it (fun i h=>IsRangeIter h it (lo+(i:Nat)*1) ((n:Int)-(i:Nat)) 1) where
 mem:=by simp
 obj:=fun i h st b hb=>by
  have e:b=it:=by simpa using hb
  subst e
  exact⟨_,st,fun v z=>by
   have z':Data.fields _=Data.cell v:=z
   cases z'⟩
 keep:=fun i h h' st k=>k it (by simp) _ st
 item:=by
  intro X hP hw hK hc i pins s σ H E I hf st hg
  subst hP hw hK
  obtain⟨f0,f1,f2,f3,f4,f5⟩:=hf it (by simp)
  have W:=Walks.range (prog:=X.prog) (w:=X.w) (I.ok.hd hc) it lo 1 n
  refine W.item i s _ _ hg st fun v h' tk hv st' kk=>?_
  obtain⟨t,rfl⟩:=hv
  have I1:Inv X pins σ H { s with heap:=h',toks:=tk }:=I.turned (fun b o hb e=>kk b o (by simpa using hb) e) f0 f1 f3 f4 f5
  refine⟨_,rfl,go_of (s:={ s with heap:=h',toks:=tk }) (n:="range_iterator") st' rfl rfl (by decide) ⟨.int (lo+i),H,I1,⟨t,?_⟩,⟨rfl,rfl⟩,st',fun b hb=>(hf b hb).1⟩⟩
  rw[Int.mul_one]
 done:=by
  intro X hP hw hK hc i pins s σ H E I hf st hg
  subst hP hw hK
  obtain⟨f0,f1,f2,f3,f4,f5⟩:=hf it (by simp)
  exact wpAny_pyNext_range_end (I.ok.hd hc) st (by have:n≤i:=hg;omega) fun h' eb=>⟨rfl,I.turned (t':=s.toks) (fun b o hb e=>eb b o hb e) f0 f1 f3 f4 f5⟩
 self:=fun _ _ _ _ _ st h=>wpAny_pyIter_rangeiter st h
end L2
namespace L2
open PySem PySem.Spec PyProof.Rows
section
variable {X:Cx}{tg:Expr}
def iList (K:PySem.W.Frag) (tl:TE):TI:=fun σ H R=>tl σ H fun x H1=>∃ a,x=.ref a∧(∃ xs,SqL K H1 a xs)∧R (Itl K a) H1
def iTup (K:PySem.W.Frag) (tl:TE):TI:=fun σ H R=>tl σ H fun x H1=>∃ a,x=.ref a∧(∃ xs,SqT K H1 a xs)∧R (Itt K a) H1
theorem pi_list {l:Expr}{tl:TE}(hl:PE X l tl):PI X tg l (iList X.K tl):=by
 intro pins s σ H R I h
 refine thn (hl pins s σ H _ I h) fun v s1 ⟨x,H1,I1,r1,q1⟩=>?_
 obtain⟨a,e,⟨xs,hq⟩,q⟩:=q1
 subst e
 cases r1
 obtain⟨its,rv,p,hz⟩:=I1.list hq
 refine wpAny_pyIter_list p.isList ?_
 refine⟨s1.heap.objs.size,[s1.heap.objs.size],_,_,H1,rfl,I1.kept (t':=s1.toks) fun b o e=>Heap.get?_push_of_some _ e,turn_list a _,⟨_,Heap.get?_push_size _ rfl,rfl,rfl⟩,fun b hb=>?_,q⟩
 have e:b=s1.heap.objs.size:=by simpa using hb
 subst e
 exact I1.fpOk (Nat.le_refl _) (I1.hok.fresh (Nat.le_refl _))
theorem pi_tup {l:Expr}{tl:TE}(hl:PE X l tl):PI X tg l (iTup X.K tl):=by
 intro pins s σ H R I h
 refine thn (hl pins s σ H _ I h) fun v s1 ⟨x,H1,I1,r1,q1⟩=>?_
 obtain⟨a,e,⟨xs,hq⟩,q⟩:=q1
 subst e
 cases r1
 obtain⟨its,rv,p,hz⟩:=I1.tuple hq
 refine wpAny_pyIter_tuple (show s1.heap.IsTuple a its.toArray from p) ?_
 refine⟨s1.heap.objs.size,[s1.heap.objs.size],_,_,H1,rfl,I1.kept (t':=s1.toks) fun b o e=>Heap.get?_push_of_some _ e,turn_tuple a _,⟨_,Heap.get?_push_size _ rfl,rfl,rfl⟩,fun b hb=>?_,q⟩
 have e:b=s1.heap.objs.size:=by simpa using hb
 subst e
 exact I1.fpOk (Nat.le_refl _) (I1.hok.fresh (Nat.le_refl _))
theorem range_it {pins:List (Addr×Obj)}{σ:St}{H:Hp}{s:Shared}{R:It→Hp→Prop}{E:Value→Shared→Prop}{lo hi:Int}{t u v:Tok}{tk:Nat}(I:Inv X pins σ H s) (h1 : -(2 ^ 62)≤lo) (h2:lo<2 ^ 62) (h3 : -(2 ^ 62)≤hi) (h4:hi<2 ^ 62)
  (q:R (Itr lo (hi-lo).toNat) H):wpAny (model X.prog X.w) X.A (pyIter (.ref s.heap.objs.size)) (PIE X pins σ tg R) E { s with heap:=s.heap.push { cls:=.type "range",data:=.fields #[.int lo t,.int hi u,.int 1 v] },toks:=tk }:=by
 refine wpAny_pyIter_range (IsRange.new ..) (small_one h1 h2 h3 h4) ?_
 have I1:Inv X pins σ H { s with heap:=s.heap.push { cls:=.type "range",data:=.fields #[.int lo t,.int hi u,.int 1 v] },toks:=tk }:=I.kept fun b o e=>Heap.get?_push_of_some _ e
 refine⟨(s.heap.push { cls:=.type "range",data:=.fields #[.int lo t,.int hi u,.int 1 v] }).objs.size,[(s.heap.push { cls:=.type "range",data:=.fields #[.int lo t,.int hi u,.int 1 v] }).objs.size],_,_,H,rfl,
  I1.kept (t':=tk) fun b o e=>Heap.get?_push_of_some _ e,turn_range _ lo (hi-lo).toNat,?_,fun b hb=>?_,q⟩
 ·have e1:lo+((0:Nat):Int)*1=lo:=by simp
  have e2:(((hi-lo).toNat:Nat):Int)-((0:Nat):Int)=Builtin.Range.rangeSize lo hi 1:=by rw[rangeSize_one];split<;>omega
  show IsRangeIter _ _ (lo+((0:Nat):Int)*1) ((((hi-lo).toNat:Nat):Int)-((0:Nat):Int)) 1
  rw[e1,e2]
  exact Heap.get?_push_size _ rfl
 ·have e:b=(s.heap.push { cls:=.type "range",data:=.fields #[.int lo t,.int hi u,.int 1 v] }).objs.size:=by simpa using hb
  subst e
  exact I1.fpOk (Nat.le_refl _) (I1.hok.fresh (Nat.le_refl _))
def iRng1 (ta:TA):TI:=fun σ H R=>ta σ H fun vs H1=>∃ j:Int,vs=[.int j] ∧ -(2 ^ 62)≤j∧j<2 ^ 62∧R (Itr 0 j.toNat) H1
theorem pi_range1 {a:Expr}{ta:TA}{p pos:Pos}(hg:Gl X "range") (hm:X.mg "range" = none) (ha:PA X [a] ta) (hs:starEach [a] X.env=[(false,eval a X.env)]:=by rfl):PI X tg (.Call (.Name "range" p) [a] [] pos) (iRng1 ta):=by
 intro pins s σ H R I h
 refine Call_ (ld_blt I hg hm boot_range (PyProof.Rows.callWith_type1 (thn (ha pos pins s σ H _ I h) fun us s1 ⟨vs,H1,I1,r1,q1⟩=>?_) hs rfl))
 obtain⟨j,e,q1,q2,q⟩:=q1
 subst e
 cases r1 with
 | cons r rr=>
  cases rr
  obtain⟨t,rfl⟩:=r
  exact call_range_1 (range_it I1 (by omega) (by omega) q1 q2 (by simpa using q))
def tFor (wi:TI) (g:TG) (tb:TS):TS:=fun D σ H=>wi σ H fun J H1=>∃ W:Nat→Nat→St→Hp→Prop,(∃ m,W 0 m σ H1)∧∀ i m σ H,W i m σ H →
 (J.stop i H∧D.nx σ H)∨(J.go i H∧∃ N:St→Hp→Prop,(∀ σ' H',N σ' H'→∃ m',m'<m∧W (i+1) m' σ' H')∧∀ x H',J.yld i H x H'→g x σ H' fun σ2 H2=>tb { D with nx:=N,ct:=N,bk:=D.nx } σ2 H2)
def pinsAt (fp:List Addr) (h:Heap):List (Addr×Obj):=fp.filterMap fun b=>(h.get? b).map fun o=>(b,o)
theorem mem_pinsAt {fp:List Addr}{h:Heap}{b:Addr}{o:Obj}(hb:b∈fp) (e:h.get? b=some o):(b,o)∈pinsAt fp h:=List.mem_filterMap.mpr ⟨b,hb,by rw[e];rfl⟩
theorem of_pinsAt {fp:List Addr}{h:Heap}{p:Addr×Obj}(hp:p∈pinsAt fp h):p.1∈fp∧h.get? p.1=some p.2:=by
 obtain⟨b,hb,e⟩:=List.mem_filterMap.mp hp
 cases q:h.get? b with
 | none=>rw[q] at e;cases e
 | some o=>
  rw[q] at e
  have e':(b,o)=p:=Option.some.inj e
  subst e'
  exact⟨hb,q⟩
theorem Inv.pinned {pins:List (Addr×Obj)}{σ:St}{H:Hp}{s:Shared}{fp:List Addr}(I:Inv X pins σ H s) (hf:∀ b∈fp,FpOk X pins H b) (ho:∀ b∈fp,∃ o,s.heap.get? b=some o∧∀ v,o.data≠.cell v):Inv X (pins++pinsAt fp s.heap) σ H s:=
 I.pins_of fun p hp=>(List.mem_append.mp hp).elim (fun z=>I.pin p (List.mem_append_right _ z)) fun z=>by
  obtain⟨hb,e⟩:=of_pinsAt z
  obtain⟨f0,f1,f2,_⟩:=hf p.1 hb
  obtain⟨o,e',d⟩:=ho p.1 hb
  rw[e] at e';cases e'
  exact⟨e,f0,f1,f2,d⟩
theorem Inv.unpinned {pins pl:List (Addr×Obj)}{σ:St}{H:Hp}{s:Shared}(I:Inv X (pins++pl) σ H s):Inv X pins σ H s:=I.pins_of fun p hp=>I.pin p (List.mem_append_right _ (List.mem_append_left _ hp))
theorem ps_for {iter:Expr}{body:List Stmt}{wi:TI}{g:TG}{tb:TS}{pos:Pos}(hp:PassesOwn (model X.prog X.w) X.A X.env X.xe) (hc:X.calm=true) (hi:PI X tg iter wi) (hg:PG X tg g) (hb:PSs X body tb)
  (hs:∀ x,foldedSetIterable iter X.env x=pure x:=by intro _;rfl):PS X (.For tg iter body [] pos) (tFor wi g tb):=by
 intro pins s σ H D I h
 refine wpAny_For (thn (hi pins s σ H _ I h) fun v s1 h1=>thn h1 fun itv s2 h2=>?_) hs
 obtain⟨it,fp,tn,J,H2,e,I2,T,st2,f2,W,⟨m0,w0⟩,turn⟩:=h2
 subst e
 have stat:∀ {H':Hp},(∀ b∈fp,H' b=none)→∀ b∈fp,FpOk X pins H' b:=fun hn b hb=>⟨hn b hb,(f2 b hb).2⟩
 refine codeAny_forLoop_any (fun n s'=>∃ i σ' H',Inv X pins σ' H' s'∧tn i s'.heap∧(∀ b∈fp,H' b=none)∧W i n σ' H') ?_ m0 ⟨0,σ,H2,I2,st2,fun b hb=>(f2 b hb).1,w0⟩
 rintro n s3 ⟨i,σ3,H3,I3,st3,fr3,w3⟩
 rcases turn i n σ3 H3 w3 with ⟨stop,qn⟩|⟨go,N,hN,step⟩
 ·refine wpAny_passesOwn hp (thn (T.done X rfl rfl rfl hc i pins s3 σ3 H3 X.xe I3 (stat fr3) st3 stop) fun r s4 ⟨hr,I4⟩=>?_)
  subst hr
  exact wpAny_execs_nil ⟨σ3,H3,I4,qn⟩
 ·refine wpAny_passesOwn hp (thn (T.item X rfl rfl rfl hc i pins s3 σ3 H3 X.xe I3 (stat fr3) st3 go) fun r s4 ⟨u,hr,h4⟩=>?_)
  subst hr
  refine wpAny_passesOwn hp (thn h4 fun _ s5 ⟨x,H5,I5,r5,y5,st5,fr5⟩=>?_)
  have I5':=I5.pinned (stat fr5) (T.obj _ _ st5)
  refine wpAny_passesOwn hp (thn (hg _ s5 σ3 H5 x u _ I5' r5 (step x H5 y5)) fun _ s6 ⟨σ6,H6,I6,q6⟩=>?_)
  refine wpAny_passesOwn hp (thn (hb _ s6 σ6 H6 _ I6 q6) fun f s7 q7=>?_)
  have again:∀ {σ7:St} {H7:Hp},Inv X (pins++pinsAt fp s5.heap) σ7 H7 s7→N σ7 H7→∃ m,m<n∧∃ i σ' H',Inv X pins σ' H' s7∧tn i s7.heap∧(∀ b∈fp,H' b=none)∧W i m σ' H':=fun {σ7 H7} I7 n7=>by
   obtain⟨m',hm,w7⟩:=hN σ7 H7 n7
   refine⟨m',hm,i+1,σ7,H7,I7.unpinned,T.keep _ _ _ st5 fun b hb o e=>(I7.pin (b,o) (List.mem_append_right _ (List.mem_append_right _ (mem_pinsAt hb e)))).1,fun b hb=>?_,w7⟩
   obtain⟨o,e,d⟩:=T.obj _ _ st5 b hb
   exact(I7.pin (b,o) (List.mem_append_right _ (List.mem_append_right _ (mem_pinsAt hb e)))).2.1
  cases f with
  | next=>obtain⟨σ7,H7,I7,n7⟩:=q7;exact again I7 n7
  | cont=>obtain⟨σ7,H7,I7,n7⟩:=q7;exact again I7 n7
  | brk=>obtain⟨σ7,H7,I7,q7⟩:=q7;exact⟨σ7,H7,I7.unpinned,q7⟩
  | ret v=>obtain⟨x7,σ7,H7,I7,r7,q7⟩:=q7;exact⟨x7,σ7,H7,I7.unpinned,r7,q7⟩
end
theorem for_list {K:PySem.W.Frag}{a:Addr}{xs:List V}{g:TG}{tb:TS}{D:Ends}{σ:St}{H:Hp}(Pv:Nat→St→Hp→Prop) (h0:Pv 0 σ H) (hl:∀ i σ H,i≤xs.length→Pv i σ H→SqL K H a xs)
  (hs:∀ i x σ H,xs[i]? = some x→Pv i σ H→g x σ H fun σ2 H2=>tb { D with nx:=Pv (i+1),ct:=Pv (i+1),bk:=D.nx } σ2 H2) (hd:∀ σ H,Pv xs.length σ H→D.nx σ H) :
  ∃ W:Nat→Nat→St→Hp→Prop,(∃ m,W 0 m σ H)∧∀ i m σ H,W i m σ H →
   ((Itl K a).stop i H∧D.nx σ H)∨((Itl K a).go i H∧∃ N:St→Hp→Prop,(∀ σ' H',N σ' H'→∃ m',m'<m∧W (i+1) m' σ' H')∧∀ x H',(Itl K a).yld i H x H'→g x σ H' fun σ2 H2=>tb { D with nx:=N,ct:=N,bk:=D.nx } σ2 H2):=by
 refine⟨fun i m σ H=>m=xs.length-i∧i≤xs.length∧Pv i σ H,⟨xs.length,by simp,Nat.zero_le _,h0⟩,?_⟩
 rintro i m σ H ⟨rfl,hi,p⟩
 have q:=hl i σ H hi p
 by_cases hlt:i<xs.length
 ·refine .inr ⟨⟨xs,xs[i],q,by simp[hlt]⟩,Pv (i+1),fun σ' H' p'=>⟨xs.length-(i+1),by omega,rfl,hlt,p'⟩,fun x H' y=>?_⟩
  obtain⟨e,y⟩:=y
  subst e
  exact hs i x σ _ (y xs q) p
 ·have e:i=xs.length:=by omega
  subst e
  exact .inl ⟨⟨xs,q,Nat.le_refl _⟩,hd σ H p⟩
theorem for_range {lo:Int}{n:Nat}{g:TG}{tb:TS}{D:Ends}{σ:St}{H:Hp}(Pv:Nat→St→Hp→Prop) (h0:Pv 0 σ H)
  (hs:∀ i σ H,i<n→Pv i σ H→g (.int (lo+i)) σ H fun σ2 H2=>tb { D with nx:=Pv (i+1),ct:=Pv (i+1),bk:=D.nx } σ2 H2) (hd:∀ σ H,Pv n σ H→D.nx σ H) :
  ∃ W:Nat→Nat→St→Hp→Prop,(∃ m,W 0 m σ H)∧∀ i m σ H,W i m σ H →
   ((Itr lo n).stop i H∧D.nx σ H)∨((Itr lo n).go i H∧∃ N:St→Hp→Prop,(∀ σ' H',N σ' H'→∃ m',m'<m∧W (i+1) m' σ' H')∧∀ x H',(Itr lo n).yld i H x H'→g x σ H' fun σ2 H2=>tb { D with nx:=N,ct:=N,bk:=D.nx } σ2 H2):=by
 refine⟨fun i m σ H=>m=n-i∧i≤n∧Pv i σ H,⟨n,by simp,Nat.zero_le _,h0⟩,?_⟩
 rintro i m σ H ⟨rfl,hi,p⟩
 by_cases hlt:i<n
 ·refine .inr ⟨hlt,Pv (i+1),fun σ' H' p'=>⟨n-(i+1),by omega,rfl,hlt,p'⟩,fun x H' y=>?_⟩
  obtain⟨e,y⟩:=y
  subst e y
  exact hs i σ _ hlt p
 ·have e:i=n:=by omega
  subst e
  exact .inl ⟨Nat.le_refl _,hd σ H p⟩
end L2
namespace L2
open PySem PySem.Spec PyProof.Rows
abbrev R2:=V→V→Hp→VK→Prop
def OpR (X:Cx) (f:Value→Value→Sem Value) (r:R2):Prop:=
 ∀ (pins:List (Addr×Obj)) (s:Shared) (σ:St) (H:Hp) (x y:V) (v u:Value) (Q:VK),Inv X pins σ H s→RelV x v→RelV y u→r x y H Q →
  wpAny (model X.prog X.w) X.A (f v u) (EP X pins σ Q) X.xe s
def CallR (X:Cx) (f:Value) (r:List V→Hp→VK→Prop):Prop:=
 ∀ (pins:List (Addr×Obj)) (s:Shared) (σ:St) (H:Hp) (xs:List V) (us:List Value) (Q:VK),Inv X pins σ H s→Vals xs us→r xs H Q →
  wpAny (model X.prog X.w) X.A (call f us) (EP X pins σ Q) X.xe s
def TruR (X:Cx) (r:V→Hp→(Bool→Hp→Prop)→Prop):Prop:=
 ∀ (pins:List (Addr×Obj)) (s:Shared) (σ:St) (H:Hp) (x:V) (v:Value) (Q:Bool→Hp→Prop),Inv X pins σ H s→RelV x v→r x H Q →
  wpAny (model X.prog X.w) X.A (truthy v) (TP X pins σ Q) X.xe s
def tOp (r:R2) (ta tb:TE):TE:=fun σ H Q=>ta σ H fun x H1=>tb σ H1 fun y H2=>r x y H2 Q
def rI (C:Int→Int→Prop) (g:Int→Int→V):R2:=fun x y H Q=>∃ i j,x=.int i∧y=.int j∧C i j∧Q (g i j) H
def rI0 (g:Int→Int→V):R2:=fun x y H Q=>∃ i j,x=.int i∧y=.int j∧Q (g i j) H
section
variable {X:Cx}{a b c:Expr}{ta tb tc:TE}{pos:Pos}
theorem binT (ha:PE X a ta) (hb:PE X b tb) {pins:List (Addr×Obj)}{s:Shared}{σ:St}{H:Hp}{R:V→V→Hp→Prop}(I:Inv X pins σ H s)
  (h:ta σ H fun x H1=>tb σ H1 fun y H2=>R x y H2) {Q:Value→Shared→Prop} {f:Value→Value→Sem Value}
  (hf:∀ v u s2 x y H2,Inv X pins σ H2 s2→RelV x v→RelV y u→R x y H2→wpAny (model X.prog X.w) X.A (f v u) Q X.xe s2) :
  wpAny (model X.prog X.w) X.A (eval a X.env) (fun v s₁=>wpAny (model X.prog X.w) X.A (eval b X.env) (fun u s₂=>wpAny (model X.prog X.w) X.A (f v u) Q X.xe s₂) X.xe s₁) X.xe s:=by
 refine thn (ha pins s σ H _ I h) fun v s1 ⟨x,H1,I1,r1,q1⟩=>?_
 refine thn (hb pins s1 σ H1 _ I1 q1) fun u s2 ⟨y,H2,I2,r2,q2⟩=>?_
 exact hf v u s2 x y H2 I2 r1 r2 q2
theorem pe_op {op:Operator}{r:R2}(ho:OpR X (binaryOp op) r) (ha:PE X a ta) (hb:PE X b tb):PE X (.BinOp a op b pos) (tOp r ta tb):=by
 intro pins s σ H Q I h
 exact wpAny_BinOp (binT ha hb I h fun v u s2 x y H2 I2 rx ry q=>ho pins s2 σ H2 x y v u Q I2 rx ry q)
theorem opI {f:Value→Value→Sem Value}{C:Int→Int→Prop}{g:Int→Int→Int}
  (rule:∀ (i j:Int) (t u:Tok) (s:Shared) (Q:Value→Shared→Prop) (E:Value→Shared→Prop),C i j→Q (.int (g i j) s.toks) { s with toks:=s.toks+1 }→wpAny (model X.prog X.w) X.A (f (.int i t) (.int j u)) Q E s) :
  OpR X f (rI C fun i j=>.int (g i j)):=by
 intro pins s σ H x y v u Q I rx ry h
 obtain⟨i,j,rfl,rfl,hc,q⟩:=h
 obtain⟨t,rfl⟩:=rx
 obtain⟨t',rfl⟩:=ry
 exact rule i j t t' s _ _ hc ⟨.int (g i j),H,I.tok _,⟨_,rfl⟩,q⟩
theorem opI0 {f:Value→Value→Sem Value}{g:Int→Int→Int}
  (rule:∀ (i j:Int) (t u:Tok) (s:Shared) (Q:Value→Shared→Prop) (E:Value→Shared→Prop),Q (.int (g i j) s.toks) { s with toks:=s.toks+1 }→wpAny (model X.prog X.w) X.A (f (.int i t) (.int j u)) Q E s) :
  OpR X f (rI0 fun i j=>.int (g i j)):=by
 intro pins s σ H x y v u Q I rx ry h
 obtain⟨i,j,rfl,rfl,q⟩:=h
 obtain⟨t,rfl⟩:=rx
 obtain⟨t',rfl⟩:=ry
 exact rule i j t t' s _ _ ⟨.int (g i j),H,I.tok _,⟨_,rfl⟩,q⟩
theorem opB0 {f:Value→Value→Sem Value}{g:Int→Int→Bool}
  (rule:∀ (i j:Int) (t u:Tok) (s:Shared) (Q:Value→Shared→Prop) (E:Value→Shared→Prop),Q (.bool (g i j)) s→wpAny (model X.prog X.w) X.A (f (.int i t) (.int j u)) Q E s) :
  OpR X f (rI0 fun i j=>.bl (g i j)):=by
 intro pins s σ H x y v u Q I rx ry h
 obtain⟨i,j,rfl,rfl,q⟩:=h
 obtain⟨t,rfl⟩:=rx
 obtain⟨t',rfl⟩:=ry
 exact rule i j t t' s _ _ ⟨.bl (g i j),H,I,rfl,q⟩
def CDiv (i j:Int):Prop:=0<j∧j<1073741824
def CMul (i j:Int):Prop:=(-(2 ^ 64)<i∧i<2 ^ 64)∨(-(2 ^ 64)<j∧j<2 ^ 64)
theorem CMul.ok {i j:Int}(h:CMul i j):IntMulOk i j:=by
 rcases h with ⟨h1,h2⟩|⟨h1,h2⟩
 ·exact .of_left (intBits_le_64 h1 h2)
 ·exact .of_right (intBits_le_64 h1 h2)
theorem op_add:OpR X (binaryOp .Add) (rI0 fun i j=>.int (i+j)):=opI0 fun _ _ _ _ _ _ _ q=>add_int q
theorem op_sub:OpR X (binaryOp .Sub) (rI0 fun i j=>.int (i-j)):=opI0 fun _ _ _ _ _ _ _ q=>sub_int q
theorem op_mul:OpR X (binaryOp .Mult) (rI CMul fun i j=>.int (i*j)):=opI fun _ _ _ _ _ _ _ hc q=>mul_int q hc.ok
theorem op_fdiv:OpR X (binaryOp .FloorDiv) (rI CDiv fun i j=>.int (i/j)):=opI fun i j _ _ _ _ _ hc q=>by
 have h1:(0:Int)<j:=hc.1
 have h2:j<1073741824:=hc.2
 exact floordiv_int (by omega) (by rw[Int.fdiv_eq_ediv_of_nonneg i (by omega)];exact q) (.inl (PyProof.noPylong_small (by omega)))
theorem op_mod:OpR X (binaryOp .Mod) (rI (fun _ j=>0<j) fun i j=>.int (i%j)):=opI fun i j _ _ _ _ _ hc q=>by
 have h1:(0:Int)<j:=hc
 exact mod_int' (by omega) (by rw[Int.fmod_eq_emod_of_nonneg i (by omega)];exact q)
end
def scal:V→V→Bool
 | .non,.non=>true | .non,.int _=>true | .int _,.non=>true | .non,.bl _=>true | .bl _,.non=>true | .non,.str _=>true | .str _,.non=>true
 | .int _,.int _=>true | .bl _,.bl _=>true | .str _,.str _=>true | .byt _,.byt _=>true
 | .int _,.str _=>true | .str _,.int _=>true | .bl _,.str _=>true | .str _,.bl _=>true
 | _,_=>false
def rEq:R2:=fun x y H Q=>scal x y=true∧Q (.bl (decide (x=y))) H
def rNe:R2:=fun x y H Q=>scal x y=true∧Q (.bl (!decide (x=y))) H
theorem dec_int {i j:Int}:decide (V.int i=V.int j)=(i == j):=by
 rw[Bool.eq_iff_iff]
 simp
theorem dec_bl {i j:Bool}:decide (V.bl i=V.bl j)=(i == j):=by
 rw[Bool.eq_iff_iff]
 simp
theorem dec_str {i j:Str}:decide (V.str i=V.str j)=(i == j):=by
 rw[Bool.eq_iff_iff]
 simp
theorem dec_byt {i j:Array UInt8}:decide (V.byt i=V.byt j)=(i.toList == j.toList):=by
 rw[Bool.eq_iff_iff]
 cases i
 cases j
 simp
section
variable {X:Cx}{a b c:Expr}{ta tb tc:TE}{pos:Pos}
theorem fin_bl {pins:List (Addr×Obj)}{σ:St}{H:Hp}{s:Shared}{Q:VK}{k k':Bool}(I:Inv X pins σ H s) (q:Q (.bl k) H) (e:k=k'):EP X pins σ Q (.bool k') s:=by
 subst e
 exact⟨.bl k,H,I,rfl,q⟩
theorem op_eq:OpR X (compareOp .Eq) rEq:=by
 intro pins s σ H x y v u Q I rx ry h
 obtain⟨hs,q⟩:=h
 cases x with
 | non=>
  cases rx
  cases y with
  | non=>cases ry;exact PySem.EqNone.eq_none_none (fin_bl I q (by simp))
  | bl j=>cases ry;exact PySem.EqNone.eq_none_bool (fin_bl I q (by simp))
  | int j=>obtain⟨t',rfl⟩:=ry;exact PySem.EqNone.eq_none_int (fin_bl I q (by simp))
  | str j=>obtain⟨t',rfl⟩:=ry;exact PySem.EqNone.eq_none_str (fin_bl I q (by simp))
  | _=>exact absurd (show false=true from hs) Bool.false_ne_true
 | bl i=>
  cases rx
  cases y with
  | non=>cases ry;exact PySem.EqNone.eq_bool_none (fin_bl I q (by simp))
  | bl j=>cases ry;exact eq_bool (fin_bl I q dec_bl)
  | str j=>obtain⟨t',rfl⟩:=ry;exact PySem.EqMixed.eq_bool_str (fin_bl I q (by simp))
  | _=>exact absurd (show false=true from hs) Bool.false_ne_true
 | int i=>
  obtain⟨t,rfl⟩:=rx
  cases y with
  | non=>cases ry;exact PySem.EqNone.eq_int_none (fin_bl I q (by simp))
  | int j=>obtain⟨t',rfl⟩:=ry;exact eq_int (fin_bl I q dec_int)
  | str j=>obtain⟨t',rfl⟩:=ry;exact PySem.EqMixed.eq_int_str (fin_bl I q (by simp))
  | _=>exact absurd (show false=true from hs) Bool.false_ne_true
 | str i=>
  obtain⟨t,rfl⟩:=rx
  cases y with
  | non=>cases ry;exact PySem.EqNone.eq_str_none (fin_bl I q (by simp))
  | bl j=>cases ry;exact PySem.EqMixed.eq_str_bool (fin_bl I q (by simp))
  | int j=>obtain⟨t',rfl⟩:=ry;exact PySem.EqMixed.eq_str_int (fin_bl I q (by simp))
  | str j=>obtain⟨t',rfl⟩:=ry;exact eq_str (fin_bl I q dec_str)
  | _=>exact absurd (show false=true from hs) Bool.false_ne_true
 | byt i=>
  obtain⟨t,rfl⟩:=rx
  cases y with
  | byt j=>obtain⟨t',rfl⟩:=ry;exact PySem.W.eq_bytes (fin_bl I q dec_byt)
  | _=>exact absurd (show false=true from hs) Bool.false_ne_true
 | _=>cases y<;>exact absurd (show false=true from hs) Bool.false_ne_true
theorem op_ne:OpR X (compareOp .NotEq) rNe:=by
 intro pins s σ H x y v u Q I rx ry h
 obtain⟨hs,q⟩:=h
 cases x with
 | non=>
  cases rx
  cases y with
  | non=>cases ry;exact PySem.EqNone.ne_none_none (fin_bl I q (by simp))
  | bl j=>cases ry;exact PySem.EqNone.ne_none_bool (fin_bl I q (by simp))
  | int j=>obtain⟨t',rfl⟩:=ry;exact PySem.EqNone.ne_none_int (fin_bl I q (by simp))
  | str j=>obtain⟨t',rfl⟩:=ry;exact PySem.EqNone.ne_none_str (fin_bl I q (by simp))
  | _=>exact absurd (show false=true from hs) Bool.false_ne_true
 | bl i=>
  cases rx
  cases y with
  | non=>cases ry;exact PySem.EqNone.ne_bool_none (fin_bl I q (by simp))
  | bl j=>cases ry;exact ne_bool (fin_bl I q (congrArg not dec_bl))
  | str j=>obtain⟨t',rfl⟩:=ry;exact PySem.EqMixed.ne_bool_str (fin_bl I q (by simp))
  | _=>exact absurd (show false=true from hs) Bool.false_ne_true
 | int i=>
  obtain⟨t,rfl⟩:=rx
  cases y with
  | non=>cases ry;exact PySem.EqNone.ne_int_none (fin_bl I q (by simp))
  | int j=>obtain⟨t',rfl⟩:=ry;exact ne_int (fin_bl I q (congrArg not dec_int))
  | str j=>obtain⟨t',rfl⟩:=ry;exact PySem.EqMixed.ne_int_str (fin_bl I q (by simp))
  | _=>exact absurd (show false=true from hs) Bool.false_ne_true
 | str i=>
  obtain⟨t,rfl⟩:=rx
  cases y with
  | non=>cases ry;exact PySem.EqNone.ne_str_none (fin_bl I q (by simp))
  | bl j=>cases ry;exact PySem.EqMixed.ne_str_bool (fin_bl I q (by simp))
  | int j=>obtain⟨t',rfl⟩:=ry;exact PySem.EqMixed.ne_str_int (fin_bl I q (by simp))
  | str j=>obtain⟨t',rfl⟩:=ry;exact ne_str (fin_bl I q (congrArg not dec_str))
  | _=>exact absurd (show false=true from hs) Bool.false_ne_true
 | byt i=>
  obtain⟨t,rfl⟩:=rx
  cases y with
  | byt j=>obtain⟨t',rfl⟩:=ry;exact PySem.W.ne_bytes (fin_bl I q (congrArg not dec_byt))
  | _=>exact absurd (show false=true from hs) Bool.false_ne_true
 | _=>cases y<;>exact absurd (show false=true from hs) Bool.false_ne_true
theorem op_lt:OpR X (compareOp .Lt) (rI0 fun i j=>.bl (decide (i<j))):=opB0 fun _ _ _ _ _ _ _ q=>lt_int q
theorem op_le:OpR X (compareOp .LtE) (rI0 fun i j=>.bl (decide (i≤j))):=opB0 fun _ _ _ _ _ _ _ q=>le_int q
theorem op_gt:OpR X (compareOp .Gt) (rI0 fun i j=>.bl (decide (j<i))):=opB0 fun _ _ _ _ _ _ _ q=>gt_int q
theorem op_ge:OpR X (compareOp .GtE) (rI0 fun i j=>.bl (decide (j≤i))):=opB0 fun _ _ _ _ _ _ _ q=>ge_int q
theorem op_notN:OpR X (compareOp .IsNot) (fun x y H Q=>y=.non∧Q (.bl (!decide (x=.non))) H):=by
 intro pins s σ H x y v u Q I rx ry h
 obtain⟨rfl,q⟩:=h
 cases ry
 refine isnot_none_gen (fin_bl I q ?_)
 cases x<;>first
  | (cases rx;rfl)
  | (obtain⟨t,rfl⟩:=rx;rfl)
theorem nomark (b:Expr) {op:CmpOp}(h:op≠.In:=by decide) (h2:op≠.NotIn:=by decide):behindInMarks op b=false:=by
 have e1:(op == CmpOp.In)=false:=by cases op<;>first|rfl|exact absurd rfl h
 have e2:(op == CmpOp.NotIn)=false:=by cases op<;>first|rfl|exact absurd rfl h2
 cases b<;>simp[behindInMarks,e1,e2]
theorem pe_cmpR {op:CmpOp}{r:R2}(ho:OpR X (compareOp op) r) (ha:PE X a ta) (hb:PE X b tb) (hm:behindInMarks op b=false):PE X (.Compare a [op] [b] pos) (tOp r ta tb):=by
 intro pins s σ H Q I h
 exact wpAny_Compare1 (binT ha hb I h fun v u s2 x y H2 I2 rx ry q=>ho pins s2 σ H2 x y v u Q I2 rx ry q) hm
def tTest (t:TE):TT:=fun σ H Q=>t σ H fun x H'=>∃ k,x=.bl k∧Q k H'
theorem pt_cmpR {op:CmpOp}{r:R2}(ho:OpR X (compareOp op) r) (ha:PE X a ta) (hb:PE X b tb) (hm:behindInMarks op b=false):PT X (.Compare a [op] [b] pos) (tTest (tOp r ta tb)):=by
 intro pins s σ H Q I h
 refine wpAny_isTrue_Compare1 (thn (ha pins s σ H _ I h) fun v s1 ⟨x,H1,I1,r1,q1⟩=>thn (hb pins s1 σ H1 _ I1 q1) fun u s2 ⟨y,H2,I2,r2,q2⟩=>
  thn (ho pins s2 σ H2 x y v u _ I2 r1 r2 q2) fun c s3 ⟨z,H3,I3,r3,k,e,q3⟩=>?_) hm
 subst e
 cases r3
 exact wpAny_truthy_bool ⟨H3,I3,q3⟩
def TruV (K:PySem.W.Frag) (x:V) (H:Hp) (k:Bool):Prop:=
 match x with
 | .non=>k=false
 | .bl b=>k=b
 | .int i=>k=(i != 0)
 | .str y=>y.length≤sizeLine∧k=((y.length:Int) != 0)
 | .byt y=>y.size≤sizeLine∧k=((y.size:Int) != 0)
 | .ref p=>(∃ xs,SqL K H p xs∧k = !xs.isEmpty)∨(∃ xs,SqT K H p xs∧k = !xs.isEmpty)∨∃ kvs,H p=some (.dK kvs)∧k = !kvs.isEmpty
 | _=>False
theorem isEmpty_kv {κ:Type}{kvs:List (κ×V)}{vs:List (κ×Value)}(r:KV kvs vs):(!vs.isEmpty) = !kvs.isEmpty:=by
 cases r<;>rfl
theorem isEmpty_of {xs:List V}{its:List Value}(r:Vals xs its):(!its.toArray.isEmpty) = !xs.isEmpty:=by
 cases r<;>simp
theorem line63:(sizeLine:Nat)<2 ^ 63:=by rw[sizeLine_eq];decide
theorem tru_ok:TruR X (fun x H Q=>∃ k,TruV X.K x H k∧Q k H):=by
 intro pins s σ H x v Q I rx h
 obtain⟨k,e,q⟩:=h
 have hl:=line63
 have hs:sizeLine=16777216:=sizeLine_eq
 cases x with
 | non=>
  cases rx
  have e':k=false:=e
  subst e'
  exact truthy_none ⟨H,I,q⟩
 | bl b=>
  cases rx
  have e':k=b:=e
  subst e'
  exact wpAny_truthy_bool ⟨H,I,q⟩
 | int i=>
  obtain⟨t,rfl⟩:=rx
  have e':k=(i != 0):=e
  subst e'
  exact PySem.P.truthy_int ⟨H,I,q⟩
 | str y=>
  obtain⟨t,rfl⟩:=rx
  obtain⟨hy,e'⟩:y.length≤sizeLine∧k=((y.length:Int) != 0):=e
  subst e'
  exact PySem.P.truthy_str (by omega) ⟨H,I.tok _,q⟩
 | byt y=>
  obtain⟨t,rfl⟩:=rx
  obtain⟨hy,e'⟩:y.size≤sizeLine∧k=((y.size:Int) != 0):=e
  subst e'
  exact PySem.W.truthy_bytes (by omega) ⟨H,I.tok _,q⟩
 | ref p=>
  cases rx
  have e':(∃ xs,SqL X.K H p xs∧k = !xs.isEmpty)∨(∃ xs,SqT X.K H p xs∧k = !xs.isEmpty)∨∃ kvs,H p=some (.dK kvs)∧k = !kvs.isEmpty:=e
  rcases e' with ⟨xs,hx,e'⟩|⟨xs,hx,e'⟩|⟨kvs,hx,e'⟩
  ·subst e'
   obtain⟨its,r,pl,hz⟩:=I.list hx
   have hlen:=r.length
   exact wpAny_truthy_list pl.isList (by simp only[List.size_toArray];omega) ⟨H,I.tok _,by rw[isEmpty_of r];exact q⟩
  ·subst e'
   obtain⟨its,r,pl,hz⟩:=I.tuple hx
   have hlen:=r.length
   exact truthy_tuple pl (by simp only[List.size_toArray];omega) ⟨H,I.tok _,by rw[isEmpty_of r];exact q⟩
  ·subst e'
   obtain⟨hz,hS,vs,r,m⟩:kvs.length≤sizeLine∧(p == sysModules)=false∧∃ vs,KV kvs vs∧s.heap.DictOf (mixKind X.prog X.w) p vs:=I.hok p _ hx
   have hlen:kvs.length=vs.length:=Paired.length r
   exact wpAny_truthy_dict hS m (by omega) ⟨H,I.tok _,by rw[isEmpty_kv r];exact q⟩
 | _=>exact(show False from e).elim
theorem vals1 {x:V}{us:List Value}(r:Vals [x] us):∃ u,us=[u]∧RelV x u:=by
 cases r with
 | cons r1 r2=>cases r2;exact⟨_,rfl,r1⟩
theorem vals2 {x y:V}{us:List Value}(r:Vals [x,y] us):∃ u w',us=[u,w']∧RelV x u∧RelV y w':=by
 cases r with
 | cons r1 r2=>
  cases r2 with
  | cons r3 r4=>cases r4;exact⟨_,_,rfl,r1,r3⟩
theorem call_max2 (hc:X.calm=true):CallR X (.builtin "max") (fun xs H Q=>∃ i j,xs=[.int i,.int j]∧Q (.int (if j>i then j else i)) H):=by
 intro pins s σ H xs us Q I r h
 obtain⟨i,j,rfl,q⟩:=h
 obtain⟨u,w',rfl,⟨t,rfl⟩,⟨t',rfl⟩⟩:=vals2 r
 refine max_two_ints (I.ok.hd hc) fun h' tk k=>⟨_,H,I.kept k,?_,q⟩
 by_cases hj:j>i
 ·rw[if_pos hj,if_pos hj];exact⟨_,rfl⟩
 ·rw[if_neg hj,if_neg hj];exact⟨_,rfl⟩
theorem call_min2 (hc:X.calm=true):CallR X (.builtin "min") (fun xs H Q=>∃ i j,xs=[.int i,.int j]∧Q (.int (if j<i then j else i)) H):=by
 intro pins s σ H xs us Q I r h
 obtain⟨i,j,rfl,q⟩:=h
 obtain⟨u,w',rfl,⟨t,rfl⟩,⟨t',rfl⟩⟩:=vals2 r
 refine min_two_ints (I.ok.hd hc) fun h' tk k=>⟨_,H,I.kept k,?_,q⟩
 by_cases hj:j<i
 ·rw[if_pos hj,if_pos hj];exact⟨_,rfl⟩
 ·rw[if_neg hj,if_neg hj];exact⟨_,rfl⟩
end
end L2
namespace L2
open PySem PySem.Spec PyProof.Rows
structure ObjM (h:Heap) (x dx C:Addr) (mA:Str→Option Value):Prop where
 obj:h.get? x=some (PySem.W.instObj C dx)
 ns:h.Ns1 dx mA
 ne:dx≠x
theorem lookIn_ns {h:Heap}{dx:Addr}{mA:Str→Option Value}(n:h.Ns1 dx mA):∃ od,h.get? dx=some od∧∀ name,PySem.W.lookIn name od=some (mA name):=by
 obtain⟨o,es,ep,ho,hd,hk,_,hm⟩:=n
 refine⟨o,ho,fun name=>?_⟩
 have e:=hm name
 unfold nsFind findBy at e
 rw[← Array.find?_toList] at e
 unfold PySem.W.lookIn
 rw[hd]
 dsimp only
 split
 ·rename_i y q
  rw[q] at e
  exact congrArg some e
 ·rename_i q
  rw[q] at e
  have a:es.toList.any (·.refKey)=false:=by
   rw[List.any_eq_false]
   intro y hy
   obtain⟨z,t,hkey⟩:=hk y (Array.mem_toList_iff.mp hy)
   simp[DictEntry.refKey,hkey]
  have a':¬ es.toList.any (·.refKey)=true:=by rw[a];exact Bool.false_ne_true
  rw[if_neg a']
  exact congrArg some e
theorem ObjM.look {h:Heap}{x dx C:Addr}{mA:Str→Option Value}(I:ObjM h x dx C mA):∃ od,PySem.W.InstAt h x (PySem.W.instObj C dx) C (some od)∧∀ name,PySem.W.lookIn name od=some (mA name):=
 let ⟨od,ho,hl⟩:=lookIn_ns I.ns
 ⟨od,⟨I.obj,rfl,rfl,ho⟩,hl⟩
section
variable {prog:Program}{w:World}{A:Around}{E:Value→Shared→Prop}{s:Shared}{K:PySem.W.Frag}{x dx C f:Addr}{mA:Str→Option Value}{name:Str}{v:Value}
theorem get_map {expr:Bool}{Q:Value→Shared→Prop}(X:K.In s.heap) (I:ObjM s.heap x dx C mA) (hg:PySem.W.plainGet K C name=true) (hh:PySem.W.hasDictIn K C=true)
  (ha:PySem.W.findIn K (.ref C) name=some none) (hv:mA name=some v) (hv':PySem.W.handedIn v=true) (h:Q v { s with toks:=s.toks+1 }) :
  wpAny (model prog w) A (getAttr (.ref x) name expr) Q E s:=by
 obtain⟨od,J,hl⟩:=I.look
 exact PySem.W.get_value X J (PySem.W.plainGet_of hg).1 (PySem.W.findObj_own hh ha rfl (by rw[hl,hv])) hv' h
theorem get_meth {pl:Sem Bool}{Q:Value×List Value→Shared→Prop}(X:K.In s.heap) (I:ObjM s.heap x dx C mA) (hg:PySem.W.plainGet K C name=true)
  (hf:PySem.W.findIn K (.ref C) name=some (some (.ref f))) (ht:PySem.W.isFn K (.ref f)=true) (hv:mA name=none) (h:Q (.ref f,[.ref x]) s) :
  wpAny (model prog w) A (getMethod (.ref x) name pl) Q E s:=by
 obtain⟨od,J,hl⟩:=I.look
 exact PySem.W.method_fn X J (PySem.W.plainGet_of hg).1 (PySem.W.plainGet_of hg).2 hf (beq_iff_eq.mp ht) (by show (PySem.W.lookIn name od).map (·.isSome)=some false;rw[hl,hv];rfl) h
theorem set_map {ns:List Str}{Q:Unit→Shared→Prop}(X:K.In s.heap) (I:ObjM s.heap x dx C mA)
  (hs:PySem.W.findIn K (.ref C) "__setattr__" = some (some (.builtin "object.__setattr__"))) (hp:PySem.W.plainOver K C=true) (ht:PySem.W.takerIn K C name=some none) (hh:PySem.W.hasDictIn K C=true)
  (hw:PySem.Within mA ns) (hsz:ns.length≤sizeLine)
  (h:∀ h',ObjM h' x dx C (fun y=>if y=name then some v else mA y)→Heap.SameBut dx s.heap h'→Q () { s with heap:=h',toks:=s.toks+2 }) :
  wpAny (model prog w) A (setAttr (.ref x) name v) Q E s:=by
 obtain⟨od,J,hl⟩:=I.look
 refine PySem.W.set_plain X J hs (PySem.W.osa_open (s:={ s with toks:=s.toks+1 }) (r:=none) X J hp ht fun b=>?_)
 obtain⟨cd,hc,hd'⟩:=PySem.W.any_some hh
 have hx:s.heap.get? x=some ⟨.ref C,some dx,.plain,#[]⟩:=I.obj
 refine wpAny_bind (wpAny_pure (wpAny_bind (wpAny_bind (wpAny_loadPart hx (wpAny_bind (PySem.W.Looks.here (s:={ s with toks:=s.toks+1 }) (PySem.W.looks_clsIn X hc) ?_))))))
 rw[hd']
 refine wpAny_pure (a:=some dx) (wpAny_bind (wpAny_pure (wpAny_bind ?_)))
 refine wpAny_nsSet1 (s:={ s with toks:=s.toks+1 }) I.ns fun h' hn2 hs2=>?_
 obtain⟨oD,esD,epD,hoD,hdD,hcD⟩:=hn2.count (PySem.Within.cons name v hw)
 refine wpAny_bind (wpAny_lookBehind hoD (by rw[hdD];exact pastItsLine_dict (Nat.le_trans hcD (by rw[List.length_cons];omega))) ?_)
 exact wpAny_pure (h _ ⟨(hs2.2 _ (Ne.symm I.ne)).trans I.obj,hn2,I.ne⟩ hs2)
theorem make_map {R:Result→Shared→Prop}{vs:List Value}{kw:List (Str×Value)}(X:K.In s.heap) (hm:PySem.W.makesIn K C=true)
  (hi:PySem.W.findIn K (.ref C) "__init__" = some (some (.ref f))) (hf:PySem.W.typeIn K (.ref f)=some (.type "function"))
  (h:codeAny (model prog w) (A.under (.builtin "type.__call__" ⟨.ref C::vs,kw⟩)) (.call (.ref f) ⟨.ref (s.heap.objs.size+1)::vs,kw⟩) (PySem.W.InitBack (s.heap.objs.size+1) R)
   { s with heap:=(s.heap.push PySem.W.emptyDict).push (PySem.W.instObj C s.heap.objs.size) }) :
  codeAny (model prog w) A (.call (.ref C) ⟨vs,kw⟩) R s:=by
 obtain⟨hh,g,d,t,os⟩:=s
 exact PySem.W.make_core (PySem.W.makes_of X hm) (PySem.W.looks_findIn X hi) (fun self=>PySem.W.bind_fn X self hf) (.inl rfl) h
theorem make_map0 {R:Result→Shared→Prop}(X:K.In s.heap) (hm:PySem.W.makesIn K C=true)
  (hi:PySem.W.findIn K (.ref C) "__init__" = some (some (.builtin "object.__init__")))
  (hb:∀ self,PySem.W.Looks (model prog w) s.heap (bindSpecial (.builtin "object.__init__") self) (.builtin "object.__init__",[self]))
  (h:codeAny (model prog w) (A.under (.builtin "type.__call__" ⟨[.ref C],[]⟩)) (.call (.builtin "object.__init__") ⟨[.ref (s.heap.objs.size+1)],[]⟩) (PySem.W.InitBack (s.heap.objs.size+1) R)
   { s with heap:=(s.heap.push PySem.W.emptyDict).push (PySem.W.instObj C s.heap.objs.size) }) :
  codeAny (model prog w) A (.call (.ref C) ⟨[],[]⟩) R s:=by
 obtain⟨hh,g,d,t,os⟩:=s
 exact PySem.W.make_core (PySem.W.makes_of X hm) (PySem.W.looks_findIn X hi) hb (.inr ⟨rfl,rfl⟩) h
end
def putF (f:Str) (v:V):List (Str×V)→List (Str×V)
 | []=>[(f,v)]
 | (g,x)::r=>if g=f then (g,v)::r else (g,x)::putF f v r
theorem lookup_putF (f g:Str) (v:V):∀ fs:List (Str×V),(putF f v fs).lookup g=if g=f then some v else fs.lookup g
 | []=>by
  show List.lookup g [(f,v)]=_
  by_cases h:g=f
  ·have hb:(g == f)=true:=beq_iff_eq.mpr h
   simp only[List.lookup,hb,if_pos h]
  ·have hb:(g == f)=false:=beq_eq_false_iff_ne.mpr h
   simp only[List.lookup,hb,if_neg h]
 | (k,x)::r=>by
  have ih:=lookup_putF f g v r
  rw[show putF f v ((k,x)::r)=(if k=f then (k,v)::r else (k,x)::putF f v r) from rfl]
  by_cases hk:k=f
  ·rw[if_pos hk]
   by_cases h:g=k
   ·have hb:(g == k)=true:=beq_iff_eq.mpr h
    simp only[List.lookup,hb,if_pos (h.trans hk)]
   ·have hb:(g == k)=false:=beq_eq_false_iff_ne.mpr h
    simp only[List.lookup,hb,if_neg (fun e:g=f=>h (e.trans hk.symm))]
  ·rw[if_neg hk]
   by_cases h:g=k
   ·have hb:(g == k)=true:=beq_iff_eq.mpr h
    simp only[List.lookup,hb,if_neg (fun e:g=f=>hk (h.symm.trans e))]
   ·have hb:(g == k)=false:=beq_eq_false_iff_ne.mpr h
    simp only[List.lookup,hb]
    exact ih
theorem keys_putF (f:Str) (v:V):∀ fs:List (Str×V),f∈(putF f v fs).map (·.1)∧∀ g,g∈fs.map (·.1)→g∈(putF f v fs).map (·.1)
 | []=>⟨by simp[putF],fun g h=>by simp at h⟩
 | (k,x)::r=>by
  obtain⟨i1,i2⟩:=keys_putF f v r
  rw[show putF f v ((k,x)::r)=(if k=f then (k,v)::r else (k,x)::putF f v r) from rfl]
  by_cases hk:k=f
  ·rw[if_pos hk]
   subst hk
   exact⟨by simp,fun g h=>by simpa using h⟩
  ·rw[if_neg hk]
   refine⟨?_,fun g h=>?_⟩
   ·rw[List.map_cons]
    exact List.mem_cons_of_mem _ i1
   ·rw[List.map_cons] at h ⊢
    rcases List.mem_cons.mp h with e|e
    ·exact List.mem_cons.mpr (.inl e)
    ·exact List.mem_cons_of_mem _ (i2 g e)
theorem length_putF (f:Str) (v:V):∀ fs:List (Str×V),(putF f v fs).length≤fs.length+1
 | []=>by simp[putF]
 | (k,x)::r=>by
  have ih:=length_putF f v r
  rw[show putF f v ((k,x)::r)=(if k=f then (k,v)::r else (k,x)::putF f v r) from rfl]
  by_cases hk:k=f
  ·rw[if_pos hk,List.length_cons,List.length_cons];omega
  ·rw[if_neg hk,List.length_cons,List.length_cons];omega
theorem RelO.some_of {v:V}{o:Option Value}(r:RelO (some v) o):∃ u,o=some u∧RelV v u:=by
 cases o with
 | none=>exact(show False from r).elim
 | some u=>exact⟨u,rfl,r⟩
theorem RelO.none_of {o:Option Value}(r:RelO none o):o=none:=by
 cases o with
 | none=>rfl
 | some u=>exact(show False from r).elim
theorem handed_of {v:V}{u:Value}(r:RelV v u):PySem.W.handedIn u=true:=by
 cases v with
 | non=>cases (show u=Value.none from r);rfl
 | bl b=>cases (show u=Value.bool b from r);rfl
 | int i=>obtain⟨t,e⟩:=(show ∃ t,u=Value.int i t from r);cases e;rfl
 | str x=>obtain⟨t,e⟩:=(show ∃ t,u=Value.str x t from r);cases e;rfl
 | byt b=>obtain⟨t,e⟩:=(show ∃ t,u=Value.bytes b t from r);cases e;rfl
 | flt b=>obtain⟨t,e⟩:=(show ∃ t,u=Value.float b t from r);cases e;rfl
 | ref a=>cases (show u=Value.ref a from r);rfl
 | ty n=>cases (show u=Value.type n from r);rfl
section
variable {P:Program}{w:World}{H H':Hp}{h h':Heap}{a C dx:Addr}{fs fs':List (Str×V)}
theorem ins_get (hok:HOk P w H h) (e:H a=some (.ins C dx fs)):∃ mA,ObjM h a dx C mA∧(∀ f,RelO (fs.lookup f) (mA f))∧PySem.Within mA (fs.map (·.1))∧fs.length≤1000∧H dx=some (.own a):=by
 obtain⟨d,z,ne,ob,mA,n,r,q⟩:=(show ObjOk P w H h a (.ins C dx fs) from hok a _ e)
 exact⟨mA,⟨ob,n,ne⟩,r,q,z,d⟩
end
structure Cls (K:PySem.W.Frag) (C:Addr):Prop where
 pg:PySem.W.plainGet K C Str.empty=true
 hd:PySem.W.hasDictIn K C=true
 po:PySem.W.plainOver K C=true
 sa:PySem.W.findIn K (.ref C) "__setattr__" = some (some (.builtin "object.__setattr__"))
theorem Cls.get {K:PySem.W.Frag}{C:Addr}(c:Cls K C) (f:Str):PySem.W.plainGet K C f=true:=c.pg
def NoAttr (K:PySem.W.Frag) (C:Addr) (f:Str):Prop:=PySem.W.findIn K (.ref C) f=some none
theorem NoAttr.taker {K:PySem.W.Frag}{C:Addr}{f:Str}(n:NoAttr K C f):PySem.W.takerIn K C f=some none:=by
 unfold PySem.W.takerIn
 rw[show PySem.W.findIn K (.ref C) f=some none from n]
 rfl
structure Meth (K:PySem.W.Frag) (C:Addr) (m:Str) (f:Addr):Prop where
 at_:PySem.W.findIn K (.ref C) m=some (some (.ref f))
 fn:PySem.W.isFn K (.ref f)=true
 kp:PySem.W.keepIn K (.ref f)=true
section
variable {X:Cx}{pins:List (Addr×Obj)}{σ:St}{H:Hp}{s:Shared}{a C dx:Addr}{fs:List (Str×V)}{f:Str}{v:V}{A:Around}{E:Value→Shared→Prop}
theorem getattr_ok {b:Bool}{Q:Value→Shared→Prop}(I:Inv X pins σ H s) (e:H a=some (.ins C dx fs)) (c:Cls X.K C) (n:NoAttr X.K C f) (l:fs.lookup f=some v)
  (h:∀ u s',Inv X pins σ H s'→RelV v u→Q u s'):wpAny (model X.prog X.w) A (getAttr (.ref a) f b) Q E s:=by
 obtain⟨mA,O,r,_,_,_⟩:=ins_get I.hok e
 obtain⟨u,hu,ru⟩:=RelO.some_of (v:=v) (o:=mA f) (by rw[← l];exact r f)
 exact get_map I.kIn O (c.get f) c.hd n hu (handed_of ru) (h u _ (I.tok _) ru)
theorem getmeth_ok {m:Str}{g:Addr}{pl:Sem Bool}{Q:Value×List Value→Shared→Prop}(I:Inv X pins σ H s) (e:H a=some (.ins C dx fs)) (c:Cls X.K C) (k:Meth X.K C m g) (l:fs.lookup m=none)
  (h:Q (.ref g,[.ref a]) s):wpAny (model X.prog X.w) A (getMethod (.ref a) m pl) Q E s:=by
 obtain⟨mA,O,r,_,_,_⟩:=ins_get I.hok e
 have hn:mA m=none:=RelO.none_of (by rw[← l];exact r m)
 exact get_meth I.kIn O (c.get m) k.at_ k.fn hn h
theorem setattr_ok {y:V}{u:Value}{Q:Unit→Shared→Prop}(I:Inv X pins σ H s) (e:H a=some (.ins C dx fs)) (c:Cls X.K C) (n:NoAttr X.K C f) (hl:fs.length<1000) (ry:RelV y u)
  (h:∀ s',Inv X pins σ (upd H a (.ins C dx (putF f y fs))) s'→Q () s'):wpAny (model X.prog X.w) A (setAttr (.ref a) f u) Q E s:=by
 obtain⟨mA,O,r,wi,_,ho⟩:=ins_get I.hok e
 have hz:(fs.map (·.1)).length≤sizeLine:=by rw[List.length_map,sizeLine_eq];omega
 refine set_map I.kIn O c.sa c.po n.taker c.hd wi hz fun h' O' sb=>h _ ?_
 have hd:∃ o,h'.get? dx=some o:=let ⟨o,_,_,e',_⟩:=O'.ns;⟨o,e'⟩
 refine I.write (x:=a) (e:=dx) (by rw[e];exact True.intro) (.inr ho) (fun b q hb z=>(sb.2 b hb).trans z) hd ?_
 refine⟨by rw[upd_ne O.ne];exact ho,?_,O.ne,O'.obj,_,O'.ns,fun g=>?_,fun g hg=>?_⟩
 ·have:=length_putF f y fs;omega
 ·show RelO ((putF f y fs).lookup g) (if g=f then some u else mA g)
  rw[lookup_putF]
  by_cases q:g=f
  ·rw[if_pos q,if_pos q];exact ry
  ·rw[if_neg q,if_neg q];exact r g
 ·by_cases q:g=f
  ·rw[q];exact(keys_putF f y fs).1
  ·refine(keys_putF f y fs).2 g (wi g fun z=>hg ?_)
   show (if g=f then some u else mA g)=none
   rw[if_neg q];exact z
theorem Inv.made (I:Inv X pins σ H s):Inv X pins σ (upd (upd H s.heap.objs.size (.own (s.heap.objs.size+1))) (s.heap.objs.size+1) (.ins C s.heap.objs.size []))
  { s with heap:=(s.heap.push PySem.W.emptyDict).push (PySem.W.instObj C s.heap.objs.size) }:=by
 have e1:(s.heap.push PySem.W.emptyDict).get? s.heap.objs.size=some PySem.W.emptyDict:=Heap.get?_push_size s.heap rfl
 have e2:((s.heap.push PySem.W.emptyDict).push (PySem.W.instObj C s.heap.objs.size)).get? (s.heap.objs.size+1)=some (PySem.W.instObj C s.heap.objs.size):=by
  have:=Heap.get?_push_size (s.heap.push PySem.W.emptyDict) (o:=PySem.W.instObj C s.heap.objs.size) rfl
  rwa [Heap.size_push] at this
 have e3:(s.heap.push PySem.W.emptyDict).Ns s.heap.objs.size (fun _=>none):=⟨PySem.W.emptyDict,#[],_,e1,rfl,(fun e he=>absurd he (by simp)),fun _=>rfl⟩
 have I1:=I.laid (a:=s.heap.objs.size) (o:=.own (s.heap.objs.size+1)) (h':=s.heap.push PySem.W.emptyDict) (t':=s.toks) (fun b u q=>Heap.get?_push_of_some _ q) (Nat.le_refl _) ⟨_,e1⟩
 refine I1.laid (a:=s.heap.objs.size+1) (o:=.ins C s.heap.objs.size []) (t':=s.toks) (fun b u q=>Heap.get?_push_of_some _ q) (Nat.le_of_eq (Heap.size_push _ _)) ?_
 have ne:s.heap.objs.size≠s.heap.objs.size+1:=Nat.ne_of_lt (Nat.lt_succ_self _)
 refine⟨by rw[upd_ne ne,upd_same],Nat.zero_le _,ne,e2,fun _=>none,(Heap.Ns1.of_empty e3).at fun o q=>Heap.get?_push_of_some _ q,fun _=>True.intro,fun y hy=>absurd rfl hy⟩
theorem attr_of {prog:Program}{w:World}{env:Env}{e:Expr}{f:Str}{pos:Pos}{s:Shared}{Q:Value→Shared→Prop}(hb:attributeBase e f env (eval e env)=eval e env)
  (h:wpAny (model prog w) A (eval e env) (fun o s₁=>wpAny (model prog w) A (getAttr o f true) Q E s₁) E s):wpAny (model prog w) A (eval (.Attribute e f pos) env) Q E s:=
 Attribute_any_ h (by rw[arm_eval_Attribute,hb])
end
def tFld (K:PySem.W.Frag) (ta:TE) (f:Str):TE:=fun σ H Q=>ta σ H fun x H1=>∃ a C dx fs v,x=.ref a∧H1 a=some (.ins C dx fs)∧Cls K C∧NoAttr K C f∧fs.lookup f=some v∧Q v H1
def sFld (K:PySem.W.Frag) (ta tv:TE) (f:Str):TS:=fun D σ H=>tv σ H fun y H1=>ta σ H1 fun x H2=>∃ a C dx fs,x=.ref a∧H2 a=some (.ins C dx fs)∧Cls K C∧NoAttr K C f∧fs.length<1000 ∧
 D.nx σ (upd H2 a (.ins C dx (putF f y fs)))
section
variable {X:Cx}{o e value:Expr}{f:Str}{pos pos' tpos:Pos}{ta tv:TE}
theorem pe_fld (he:PE X e ta) (hb:attributeBase e f X.env (eval e X.env)=eval e X.env):PE X (.Attribute e f pos) (tFld X.K ta f):=by
 intro pins s σ H Q I h
 refine attr_of hb (thn (he pins s σ H _ I h) fun u s1 ⟨x,H1,I1,rx,a,C,dx,fs,v,ex,ea,c,n,l,q⟩=>?_)
 subst ex
 obtain rfl:u=Value.ref a:=rx
 exact getattr_ok I1 ea c n l fun u' s2 I2 ru=>⟨v,H1,I2,ru,q⟩
theorem ps_fld (ha:PE X o ta) (hv:PE X value tv) (hs:swapsWith value (some (.Attribute o f pos')) pos.line X.env=pure false):PS X (.Assign [.Attribute o f pos'] value pos) (sFld X.K ta tv f):=by
 intro pins s σ H D I h
 refine plainObj_wpAny_Assign_Attribute (thn (hv pins s σ H _ I h) fun u s1 ⟨y,H1,I1,ry,q⟩=>thn (ha pins s1 σ H1 _ I1 q) fun ov s2 ⟨x,H2,I2,rx,a,C,dx,fs,ex,ea,c,n,l,q2⟩=>?_) hs
 subst ex
 obtain rfl:ov=Value.ref a:=rx
 exact setattr_ok I2 ea c n l ry fun s3 I3=>⟨σ,_,I3,q2⟩
end
section
variable {X:Cx}{pins:List (Addr×Obj)}{σ:St}{H:Hp}{s:Shared}{A:Around}{E:Value→Shared→Prop}{Q:Value→Shared→Prop}{c:Value}{b:Bool}
inductive TyOf (K:PySem.W.Frag) (H:Hp):V→Value→Prop where
 | non:TyOf K H .non (.type "NoneType")
 | bl (x:Bool):TyOf K H (.bl x) (.type "bool")
 | int (i:Int):TyOf K H (.int i) (.type "int")
 | str (x:Str):TyOf K H (.str x) (.type "str")
 | flt (x:UInt64):TyOf K H (.flt x) (.type "float")
 | lst {a:Addr} {xs:List V} (e:H a=some (.lst xs)):TyOf K H (.ref a) (.type "list")
 | frz {a:Addr} {o:Obj} {xs:List V} (e:H a=some (.frz o (.lst xs))):TyOf K H (.ref a) (.type "list")
 | tup {a:Addr} {xs:List V} (e:H a=some (.tup xs)):TyOf K H (.ref a) (.type "tuple")
 | dK {a:Addr} {kvs:List (Key×V)} (e:H a=some (.dK kvs)):TyOf K H (.ref a) (.type "dict")
 | dT {a:Addr} {kvs:List (List Key×V)} (e:H a=some (.dT kvs)):TyOf K H (.ref a) (.type "dict")
 | ins {a C dx:Addr} {fs:List (Str×V)} (e:H a=some (.ins C dx fs)) (cl:Cls K C) (ha:PySem.W.findIn K (.ref C) "__class__" = some (some (.builtin "object.__class__")))
   (hn:PySem.W.specialIn K (.builtin "object.__class__") "__get__" = some (some (.builtin "getset_descriptor.__get__"))) (htk:PySem.W.takesIn K (.builtin "object.__class__")=some true)
   (hm:PySem.W.mroIn K C (.type "object")=some true):TyOf K H (.ref a) (.ref C)
theorem isinst_ok {x:V}{u t:Value}(I:Inv X pins σ H s) (rx:RelV x u) (ty:TyOf X.K H x t) (e:PySem.W.kitOne X.K t c=some b) (h:∀ tk,Q (.bool b) { s with toks:=tk }) :
  wpAny (model X.prog X.w) A (call (.builtin "isinstance") [u,c]) Q E s:=by
 cases ty with
 | non=>cases (show u=Value.none from rx);exact PySem.W.kia_one PySem.W.kitx_none I.kIn True.intro e (fun z=>nomatch z) h
 | bl y=>cases (show u=Value.bool y from rx);exact PySem.W.kia_one PySem.W.kitx_bool I.kIn True.intro e (fun z=>nomatch z) h
 | int i=>obtain⟨t,q⟩:=(show ∃ t,u=Value.int i t from rx);cases q;exact PySem.W.kia_one PySem.W.kitx_int I.kIn True.intro e (fun z=>nomatch z) h
 | str y=>obtain⟨t,q⟩:=(show ∃ t,u=Value.str y t from rx);cases q;exact PySem.W.kia_one PySem.W.kitx_str I.kIn True.intro e (fun z=>nomatch z) h
 | flt y=>obtain⟨t,q⟩:=(show ∃ t,u=Value.float y t from rx);cases q;exact PySem.W.kia_one PySem.W.kitx_float I.kIn True.intro e (fun z=>nomatch z) h
 | @lst a xs ea=>
  cases (show u=Value.ref a from rx)
  obtain⟨_,_,n,_,h1⟩:=(show ObjOk X.prog X.w H s.heap a (.lst xs) from I.hok a _ ea)
  exact PySem.W.kia_one PySem.W.kitx_list I.kIn ⟨_,h1,rfl⟩ e (fun z=>nomatch z) h
 | @frz a ob xs ea=>
  cases (show u=Value.ref a from rx)
  obtain⟨_,_,_,n,_,h1⟩:=(show ObjOk X.prog X.w H s.heap a (.frz ob (.lst xs)) from I.hok a _ ea)
  exact PySem.W.kia_one PySem.W.kitx_list I.kIn ⟨_,h1,rfl⟩ e (fun z=>nomatch z) h
 | @tup a xs ea=>
  cases (show u=Value.ref a from rx)
  obtain⟨_,_,_,p⟩:=(show ObjOk X.prog X.w H s.heap a (.tup xs) from I.hok a _ ea)
  obtain⟨o,h1,h2,_⟩:=p
  exact PySem.W.kia_one PySem.W.kitx_tuple I.kIn ⟨o,h1,h2⟩ e (fun z=>nomatch z) h
 | @dK a kvs ea=>
  cases (show u=Value.ref a from rx)
  obtain⟨_,_,vs,_,p⟩:=(show ObjOk X.prog X.w H s.heap a (.dK kvs) from I.hok a _ ea)
  obtain⟨o,es,ep,h1,h2,_⟩:=p
  exact PySem.W.kia_one PySem.W.kitx_dict I.kIn ⟨o,h1,h2.1⟩ e (fun z=>nomatch z) h
 | @dT a kvs ea=>
  cases (show u=Value.ref a from rx)
  obtain⟨_,_,xs,_,o,es,ep,h1,h2,_⟩:=(show ObjOk X.prog X.w H s.heap a (.dT kvs) from I.hok a _ ea)
  exact PySem.W.kia_one PySem.W.kitx_dict I.kIn ⟨o,h1,h2.1⟩ e (fun z=>nomatch z) h
 | @ins a C dx fs ea cl ha hn htk hm=>
  cases (show u=Value.ref a from rx)
  obtain⟨mA,O,_⟩:=ins_get I.hok ea
  obtain⟨od,J,_⟩:=O.look
  exact PySem.W.kia_one (PySem.W.kitx_own (cl.get _) cl.hd ha hn htk hm) I.kIn J e (fun z=>nomatch z) h
end
end L2
namespace L2
open PySem PySem.Spec PyProof.Rows
structure Room (k:Nat) (A:Around):Prop where
 hd:A.handled=none
 dp:A.depth+3*k+5<recursionLimit
 un:A.units+16*k+200<cLine
theorem Room.mono {j k:Nat}{A:Around}(r:Room k A) (h:j≤k):Room j A:=⟨r.hd,by have:=r.dp;omega,by have:=r.un;omega⟩
theorem Room.deeper {k:Nat}{A:Around}(r:Room (k+1) A) (env:Env):Room k (A.deeper env):=
 ⟨r.hd,by have:=r.dp;show A.depth+1+3*k+5<_;omega,by have:=r.un;show A.units+3+16*k+200<_;omega⟩
theorem make_depth {A:Around}{C:Addr}{us:List Value}{kw:List (Str×Value)}:(A.under (.builtin "type.__call__" ⟨.ref C::us,kw⟩)).depth=A.depth+1:=by
 first|rfl|simp[Around.under,Code.weight,Code.isCreation,Code.isGuard,Code.isCaller,Code.frames,Code.isFrame,guardIds]
theorem make_units {A:Around}{C:Addr}{us:List Value}{kw:List (Str×Value)}:(A.under (.builtin "type.__call__" ⟨.ref C::us,kw⟩)).units=A.units+1:=by
 first|rfl|simp[Around.under,Code.cUnits,Code.frames,Code.isFrame]
theorem Room.make {k:Nat}{A:Around}(r:Room (k+1) A) (C:Addr) (us:List Value) (kw:List (Str×Value)):Room k (A.under (.builtin "type.__call__" ⟨.ref C::us,kw⟩)):=
 ⟨r.hd,by have:=r.dp;rw[make_depth];omega,by have:=r.un;rw[make_units];omega⟩
theorem Room.depth {k:Nat}{A:Around}(r:Room k A):A.depth<recursionLimit:=by have:=r.dp;omega
theorem Room.units {k:Nat}{A:Around}(r:Room k A):A.units+64<cLine:=by have:=r.un;omega
def tNil:TA:=fun _ H Q=>Q [] H
def tCons (ta:TE) (tr:TA):TA:=fun σ H Q=>ta σ H fun x H1=>tr σ H1 fun xs H2=>Q (x::xs) H2
section
variable {X:Cx}{e:Expr}{es:List Expr}{te:TE}{t:TA}{pos:Pos}
theorem pa_nil:PA X [] tNil:=fun _ _ _ _ H Q I h=>Calls.spliced_nil ⟨[],H,I,.nil,h⟩
theorem pa_cons (ha:PE X e te) (hr:PA X es t) (hs:starEach (e::es) X.env=(false,eval e X.env)::starEach es X.env:=by rfl):PA X (e::es) (tCons te t):=by
 intro pos pins s σ H Q I h
 rw[hs]
 show wpAny _ _ (spliced ((false,eval e X.env)::backTo pos (starEach es X.env))) _ _ s
 refine Calls.spliced_cons (thn (ha pins s σ H _ I h) fun u s1 ⟨x,H1,I1,r1,q1⟩=>?_)
 exact thn (hr pos pins s1 σ H1 _ I1 q1) fun us s2 ⟨xs,H2,I2,r2,q2⟩=>⟨x::xs,H2,I2,.cons r1 r2,q2⟩
def tTup (t:TA):TE:=fun σ H Q=>t σ H fun xs H1=>xs.length≤sizeLine∧∀ p,H1 p=none→Q (.ref p) (upd H1 p (.tup xs))
def tLst (t:TA):TE:=fun σ H Q=>t σ H fun xs H1=>xs.length≤sizeLine∧∀ p,H1 p=none→Q (.ref p) (upd H1 p (.lst xs))
theorem pe_tup {x1}(h:PA X es t):PE X (.Tuple es x1 pos) (tTup t):=by
 intro pins s σ H Q I hq
 refine wpAny_Tuple_spliced (thn (h pos pins s σ H _ I hq) fun us s1 ⟨xs,H1,I1,r,z,q⟩=>⟨by rw[← r.length];exact z,?_⟩)
 have hf:H1 s1.heap.objs.size=none:=I1.hok.fresh (Nat.le_refl _)
 refine⟨.ref s1.heap.objs.size,upd H1 s1.heap.objs.size (.tup xs),I1.laid (t':=s1.toks) (fun b u e=>Heap.get?_push_of_some _ e) (Nat.le_refl _) ?_,rfl,q _ hf⟩
 exact⟨z,us,r,⟨_,Heap.get?_push_size _ rfl,rfl,_,rfl⟩⟩
theorem pe_lst (h:PA X es t):PE X (.List es pos) (tLst t):=by
 intro pins s σ H Q I hq
 refine wpAny_List_spliced (thn (h pos pins s σ H _ I hq) fun us s1 ⟨xs,H1,I1,r,z,q⟩=>⟨by rw[← r.length];exact z,?_⟩)
 have hf:H1 s1.heap.objs.size=none:=I1.hok.fresh (Nat.le_refl _)
 refine⟨.ref s1.heap.objs.size,upd H1 s1.heap.objs.size (.lst xs),I1.laid (t':=s1.toks) (fun b u e=>Heap.get?_push_of_some _ e) (Nat.le_refl _) ?_,rfl,q _ hf⟩
 exact⟨z,us,0,r,Heap.get?_push_size _ rfl⟩
end
abbrev Sp:=List V→Hp→VK→XK→Prop
abbrev CXT:=List Env→Hp→Shared→XK→Value→Shared→Prop
structure Env0 (P:Program) (w:World) (K:PySem.W.Frag) (mg:Str→Option Value) (base:Heap) (A:Around) (outer:List Env) (s:Shared) (H:Hp):Prop where
 frames:A.frames=some outer
 mod:Mod K mg base
 bs:∀ b o,base.get? b=some o→s.heap.get? b=some o∧H b=none
 bsz:base.objs.size≤s.heap.objs.size
 funs:s.heap.FunFrames base outer
 frf:∀ b∈frs outer,H b=none
 hok:HOk P w H s.heap
 bare:AllBare s.gens
def CE (outer:List Env) (P:Program) (w:World) (H:Hp) (s:Shared) (Q:VK) (u:Value) (s':Shared):Prop:=
 ∃ v H',s'.os=s.os∧AllBare s'.gens∧Un (frs outer) [] H H' s.heap s'.heap∧HOk P w H' s'.heap∧RelV v u∧Q v H'
def CR (CX:CXT) (outer:List Env) (P:Program) (w:World) (H:Hp) (s:Shared) (Q:VK) (E:XK) (r:Result) (s':Shared):Prop:=
 match r with
 | .ok (.ret u)=>CE outer P w H s Q u s'
 | .ok _=>False
 | .error e=>CX outer H s E e s'
structure FnOk (P:Program) (w:World) (K:PySem.W.Frag) (mg:Str→Option Value) (base:Heap) (CX:CXT) (k:Nat) (f:Addr) (fd:FuncData) (ps:List Str) (sp:Sp):Prop where
 len:∀ vs H Q E,sp vs H Q E→vs.length=ps.length
 run:∀ (A:Around) (outer:List Env) (s:Shared) (H:Hp) (args:Args) (us:List Value) (vs:List V) (Q:VK) (E:XK),Room k A→Env0 P w K mg base A outer s H→BindsTo s fd args (ps.zip us)→Vals vs us→sp vs H Q E →
  codeAny (model P w) A (.call (.ref f) args) (CR CX outer P w H s Q E) s
theorem FnOk.mono {P:Program}{w:World}{K:PySem.W.Frag}{mg:Str→Option Value}{base:Heap}{CX:CXT}{j k:Nat}{f:Addr}{fd:FuncData}{ps:List Str}{sp:Sp}(F:FnOk P w K mg base CX j f fd ps sp) (h:j≤k) :
  FnOk P w K mg base CX k f fd ps sp:=⟨F.len,fun A outer s H args us vs Q E hr=>F.run A outer s H args us vs Q E (hr.mono h)⟩
theorem Env0.make {P:Program}{w:World}{K:PySem.W.Frag}{mg:Str→Option Value}{base:Heap}{A:Around}{outer:List Env}{s:Shared}{H:Hp}(e:Env0 P w K mg base A outer s H) (C:Addr) (us:List Value) (kw:List (Str×Value)) :
  Env0 P w K mg base (A.under (.builtin "type.__call__" ⟨.ref C::us,kw⟩)) outer s H:=⟨by first|exact e.frames|(simpa [Around.under,Code.envs,Code.isFrame,pushEnvs] using e.frames),e.mod,e.bs,e.bsz,e.funs,e.frf,e.hok,e.bare⟩
section
variable {X:Cx}{pins:List (Addr×Obj)}{σ:St}{H:Hp}{s s':Shared}
theorem Inv.env0 (I:Inv X pins σ H s):Env0 X.prog X.w X.K X.mg X.base X.A X.stack s H:=
 ⟨I.ok.frames,I.ok.mod,I.bs,Nat.le_trans I.ok.bsz I.sz,I.stack,I.stkFree,I.hok,I.bare⟩
theorem Inv.after {Q:VK}{u:Value}(I:Inv X pins σ H s) (h:CE X.stack X.prog X.w H s Q u s'):EP X pins σ Q u s':=by
 obtain⟨v,H',os,bare,un,hok,r,q⟩:=h
 obtain⟨hh,g,d,t,os'⟩:=s'
 obtain rfl:os'=s.os:=os
 exact⟨v,H',I.call (h':=hh) (g':=g) (d':=d) (t':=t) (ch:=[]) un hok bare (fun b z=>absurd z (by simp)),r,q⟩
end
def tCall (sp:Sp) (dvs:List V) (E:XK) (t:TA):TE:=fun σ H Q=>t σ H fun vs H1=>sp (vs++dvs) H1 Q E
def tMeth (C:Addr) (m:Str) (sp:Sp) (dvs:List V) (E:XK) (ta:TE) (t:TA):TE:=fun σ H Q=>ta σ H fun x H1=>∃ a dx fs,x=.ref a∧H1 a=some (.ins C dx fs)∧fs.lookup m=none ∧
 t σ H1 fun vs H2=>sp (x::(vs++dvs)) H2 Q E
def tMake (C:Addr) (sp:Sp) (dvs:List V) (E:XK) (t:TA):TE:=fun σ H Q=>t σ H fun vs H1=>∀ x dx,H1 x=none→H1 dx=none→dx≠x →
 sp (.ref x::(vs++dvs)) (upd (upd H1 dx (.own x)) x (.ins C dx [])) (fun v H2=>v=.non∧Q (.ref x) H2) E
def Binds (K:PySem.W.Frag) (fd:FuncData) (ps:List Str) (ds:List Value):Prop:=
 ∀ (s:Shared) (us:List Value),K.In s.heap→(us++ds).length=ps.length→BindsTo s fd ⟨us,[]⟩ (ps.zip (us++ds))
theorem Binds.all {K:PySem.W.Frag}{fd:FuncData}{ps:List Str}(h:∀ us:List Value,us.length=ps.length→bindArgs fd ⟨us,[]⟩=pure (ps.zip us)):Binds K fd ps []:=fun s us _ hl=>by
 rw[List.append_nil] at hl ⊢
 exact .of_eq (h us hl)
def Passes (CX:CXT) (X:Cx) (E:XK):Prop:=∀ (pins:List (Addr×Obj)) (σ:St) (H:Hp) (s:Shared) (e:Value) (s':Shared),Inv X pins σ H s→CX X.stack H s E e s'→X.xe e s'
section
variable {X:Cx}{CX:CXT}{k:Nat}{f C:Addr}{fd:FuncData}{ps:List Str}{sp:Sp}{dvs:List V}{ds:List Value}{E:XK}{x m:Str}{p pos apos:Pos}{e o:Expr}{es:List Expr}{ta:TE}{t:TA}
theorem run_fn {pins:List (Addr×Obj)}{σ:St}{H:Hp}{s:Shared}{Q:VK}{us:List Value}{vs:List V}(F:FnOk X.prog X.w X.K X.mg X.base CX k f fd ps sp) (hr:Room k X.A) (hb:Binds X.K fd ps ds) (hd:Vals dvs ds) (hx:Passes CX X E)
  (I:Inv X pins σ H s) (r:Vals vs us) (h:sp (vs++dvs) H Q E):wpAny (model X.prog X.w) X.A (call (.ref f) us) (EP X pins σ Q) X.xe s:=by
 have r2:Vals (vs++dvs) (us++ds):=r.append hd
 have hl:(us++ds).length=ps.length:=by rw[← r2.length];exact F.len _ _ _ _ h
 refine wpAny_call (codeAny_mono (F.run X.A X.stack s H ⟨us,[]⟩ (us++ds) (vs++dvs) Q E hr I.env0 (hb s us I.kIn hl) r2 h) fun r s' hq=>?_)
 cases r with
 | error e=>exact hx pins σ H s e s' I hq
 | ok fl=>
  cases fl with
  | ret u=>exact I.after hq
  | next=>exact False.elim hq
  | brk=>exact False.elim hq
  | cont=>exact False.elim hq
theorem pe_call (F:FnOk X.prog X.w X.K X.mg X.base CX k f fd ps sp) (hr:Room k X.A) (hg:Gl X x) (hm:X.mg x=some (.ref f)) (hk:PySem.W.keepIn X.K (.ref f)=true) (hb:Binds X.K fd ps ds) (hd:Vals dvs ds) (hx:Passes CX X E)
  (ha:PA X (e::es) t) (hdb:(x == ("__debug__" : Str))=false:=by decide) (he:starEach (e::es) X.env=(false,eval e X.env)::starEach es X.env:=by rfl) (hpl:(backTo pos (starEach es X.env)).any (·.1)=false:=by rfl) :
  PE X (.Call (.Name x p) (e::es) [] pos) (tCall sp dvs E t):=by
 intro pins s σ H Q I h
 refine wpAny_Call_Name_kw (ld_glob I hg hm ?_ hdb)
 refine PySem.W.callWith_K (h₀:=X.base) I.ok.mod.kin hk (thn (ha pos pins s σ H _ I h) fun us s1 ⟨vs,H1,I1,r,q⟩=>⟨I1.kIn,?_⟩) he hpl
 exact run_fn F hr hb hd hx I1 r q
theorem pe_meth {pl:Sem Bool}(he:PE X o ta) (c:Cls X.K C) (hm:Meth X.K C m f) (F:FnOk X.prog X.w X.K X.mg X.base CX k f fd ps sp) (hr:Room k X.A) (hb:Binds X.K fd ps ds) (hd:Vals dvs ds) (hx:Passes CX X E) (ha:PA X (e::es) t)
  (hst:starEach (e::es) X.env=(false,eval e X.env)::starEach es X.env:=by rfl) (hpl:(backTo pos (starEach es X.env)).any (·.1)=false:=by rfl)
  (ht:eval (.Call (.Attribute o m apos) (e::es) [] pos) X.env=(do
   let ov ← eval o X.env
   standAt apos.atName
   let (f,first) ← holding [ov] (getMethod ov m pl)
   callWith pos f first (backTo pos (starEach (e::es) X.env)) (backToKw pos (keywordEach [] X.env))):=by rfl) :
  PE X (.Call (.Attribute o m apos) (e::es) [] pos) (tMeth C m sp dvs E ta t):=by
 intro pins s σ H Q I h
 refine PySem.W.methodCall_KW (pl:=pl) (thn (he pins s σ H _ I h) fun u s1 ⟨x,H1,I1,rx,a,dx,fs,ex,ea,l,q⟩=>?_) ht
 subst ex
 obtain rfl:u=Value.ref a:=rx
 refine getmeth_ok I1 ea c hm l ?_
 refine PySem.W.callWith_K (first:=[.ref a]) (h₀:=X.base) I.ok.mod.kin hm.kp (thn (ha pos pins s1 σ H1 _ I1 q) fun us s2 ⟨vs,H2,I2,r,q2⟩=>⟨I2.kIn,?_⟩) hst hpl
 exact run_fn (us:=.ref a::us) (vs:=.ref a::vs) F hr hb hd hx I2 (.cons rfl r) q2
theorem pe_meth0 {pl:Sem Bool}(he:PE X o ta) (c:Cls X.K C) (hm:Meth X.K C m f) (F:FnOk X.prog X.w X.K X.mg X.base CX k f fd ps sp) (hr:Room k X.A) (hb:Binds X.K fd ps ds) (hd:Vals dvs ds) (hx:Passes CX X E)
  (ht:eval (.Call (.Attribute o m apos) [] [] pos) X.env=(do
   let ov ← eval o X.env
   standAt apos.atName
   let (f,first) ← holding [ov] (getMethod ov m pl)
   callWith pos f first (backTo pos (starEach [] X.env)) (backToKw pos (keywordEach [] X.env))):=by rfl) :
  PE X (.Call (.Attribute o m apos) [] [] pos) (tMeth C m sp dvs E ta tNil):=by
 intro pins s σ H Q I h
 refine PySem.W.methodCall_KW (pl:=pl) (thn (he pins s σ H _ I h) fun u s1 ⟨x,H1,I1,rx,a,dx,fs,ex,ea,l,q⟩=>?_) ht
 subst ex
 obtain rfl:u=Value.ref a:=rx
 refine getmeth_ok I1 ea c hm l ?_
 exact PySem.W.callWith_K0 (first:=[.ref a]) I1.kIn hm.kp (run_fn (us:=[.ref a]) (vs:=[.ref a]) F hr hb hd hx I1 (.cons rfl .nil) q)
structure Mk (K:PySem.W.Frag) (C f:Addr):Prop where
 makes:PySem.W.makesIn K C=true
 init:PySem.W.findIn K (.ref C) "__init__" = some (some (.ref f))
 fn:PySem.W.isFn K (.ref f)=true
 kp:PySem.W.keepIn K (.ref C)=true
theorem run_make {pins:List (Addr×Obj)}{σ:St}{H:Hp}{s:Shared}{Q:VK}{us:List Value}{vs:List V}(M:Mk X.K C f) (F:FnOk X.prog X.w X.K X.mg X.base CX k f fd ps sp) (hr:Room (k+1) X.A) (hb:Binds X.K fd ps ds) (hd:Vals dvs ds)
  (hx:Passes CX X E) (I:Inv X pins σ H s) (r:Vals vs us)
  (h:∀ x dx,H x=none→H dx=none→dx≠x→sp (.ref x::(vs++dvs)) (upd (upd H dx (.own x)) x (.ins C dx [])) (fun v H2=>v=.non∧Q (.ref x) H2) E) :
  wpAny (model X.prog X.w) X.A (call (.ref C) us) (EP X pins σ Q) X.xe s:=by
 have hq:=h (s.heap.objs.size+1) s.heap.objs.size (I.hok.fresh (Nat.le_succ _)) (I.hok.fresh (Nat.le_refl _)) (Nat.ne_of_lt (Nat.lt_succ_self _))
 have I2:=Inv.made (C:=C) I
 have r2:Vals (V.ref (s.heap.objs.size+1)::(vs++dvs)) (Value.ref (s.heap.objs.size+1)::(us++ds)):=.cons rfl (r.append hd)
 have hl:(Value.ref (s.heap.objs.size+1)::us++ds).length=ps.length:=by
  have e:=r2.length
  rw[F.len _ _ _ _ hq] at e
  exact e.symm
 refine wpAny_call (make_map (f:=f) I.kIn M.makes M.init (beq_iff_eq.mp M.fn) (codeAny_mono (F.run _ X.stack _ _ ⟨Value.ref (s.heap.objs.size+1)::us,[]⟩ (Value.ref (s.heap.objs.size+1)::(us++ds)) _ _ E (hr.make C us [])
  (I2.env0.make C us []) (hb _ (Value.ref (s.heap.objs.size+1)::us) I2.kIn hl) r2 hq) fun r s' hq'=>?_))
 cases r with
 | error e=>exact hx pins σ _ _ e s' I2 hq'
 | ok fl=>
  cases fl with
  | ret u=>
   obtain⟨v,H',I3,rv,ev,q3⟩:=I2.after hq'
   subst ev
   exact⟨rv,⟨V.ref (s.heap.objs.size+1),H',I3,rfl,q3⟩⟩
  | next=>exact False.elim hq'
  | brk=>exact False.elim hq'
  | cont=>exact False.elim hq'
theorem pe_make (M:Mk X.K C f) (F:FnOk X.prog X.w X.K X.mg X.base CX k f fd ps sp) (hr:Room (k+1) X.A) (hg:Gl X x) (hm:X.mg x=some (.ref C)) (hb:Binds X.K fd ps ds) (hd:Vals dvs ds) (hx:Passes CX X E)
  (ha:PA X (e::es) t) (hdb:(x == ("__debug__" : Str))=false:=by decide) (he:starEach (e::es) X.env=(false,eval e X.env)::starEach es X.env:=by rfl) (hpl:(backTo pos (starEach es X.env)).any (·.1)=false:=by rfl) :
  PE X (.Call (.Name x p) (e::es) [] pos) (tMake C sp dvs E t):=by
 intro pins s σ H Q I h
 refine wpAny_Call_Name_kw (ld_glob I hg hm ?_ hdb)
 refine PySem.W.callWith_K (h₀:=X.base) I.ok.mod.kin M.kp (thn (ha pos pins s σ H _ I h) fun us s1 ⟨vs,H1,I1,r,q⟩=>⟨I1.kIn,?_⟩) he hpl
 exact run_make M F hr hb hd hx I1 r q
end
section
variable {X:Cx}{CX:CXT}{k:Nat}{f C:Addr}{fd:FuncData}{ps ks:List Str}{sp:Sp}{E:XK}{x m:Str}{p pos apos kpos:Pos}{e o:Expr}{es:List Expr}{kws:List Keyword}{te ta:TE}{t tk:TA}{nm:Option Str}
variable {g:List Value→List Value→List Value}{gV:List V→List V→List V}
end
structure FnScope (N P:List Str) (sc:Scope):Prop where
 kind:sc.kind=.function
 co:sc.isCoroutine=false
 gen:sc.isGenerator=false
 nd:N.Nodup
 pre:N.take P.length=P
 par:∀ x∈P,sc.names.lookup x=some .local∨sc.names.lookup x=some .cell
 nofree:∀ y∈sc.names,y.2≠.free
theorem bindL_out {kindOf:Str→Option NameKind}{x:Str}:∀ {binds:List (Str×Value)}{m:Str→Option Value},(∀ v,(x,v)∉binds)→bindL kindOf binds m x=m x
 | [],_,_=>rfl
 | (n,v)::r,m,h=>by
  unfold bindL
  rw[bindL_out fun w hw=>h w (List.mem_cons_of_mem _ hw)]
  split
  ·have:x≠n:=by rintro rfl;exact h v List.mem_cons_self
   simp[this]
  ·rfl
theorem bindC_out {kindOf:Str→Option NameKind}{x:Str}:∀ {binds:List (Str×Value)}{m:Str→Option Value},(∀ v,(x,v)∉binds)→bindC kindOf binds m x=m x
 | [],_,_=>rfl
 | (n,v)::r,m,h=>by
  unfold bindC
  rw[bindC_out fun w hw=>h w (List.mem_cons_of_mem _ hw)]
  split
  ·rfl
  ·have:x≠n:=by rintro rfl;exact h v List.mem_cons_self
   simp[this]
theorem bindL_get {kindOf:Str→Option NameKind}{x:Str}{v:Value}:∀ {P:List Str}{vs:List Value}{i:Nat}{m:Str→Option Value},P.Nodup→P[i]? = some x→vs[i]? = some v→kindOf x=some .local →
  bindL kindOf (P.zip vs) m x=some v
 | [],_,_,_,_,h,_,_=>by simp at h
 | _::_,[],_,_,_,_,h,_=>by simp at h
 | p::P,w::vs,0,m,nd,h1,h2,hk=>by
  simp at h1 h2;subst h1;subst h2
  show bindL kindOf ((p,w)::P.zip vs) m p=_
  unfold bindL
  rw[bindL_out fun v hv=>(List.nodup_cons.mp nd).1 (List.of_mem_zip hv).1,if_pos hk]
  simp
 | p::P,w::vs,i+1,m,nd,h1,h2,hk=>by
  show bindL kindOf ((p,w)::P.zip vs) m x=_
  unfold bindL
  exact bindL_get (i:=i) (List.nodup_cons.mp nd).2 (by simpa using h1) (by simpa using h2) hk
theorem bindC_get {kindOf:Str→Option NameKind}{x:Str}{v:Value}:∀ {P:List Str}{vs:List Value}{i:Nat}{m:Str→Option Value},P.Nodup→P[i]? = some x→vs[i]? = some v→kindOf x≠some .local →
  bindC kindOf (P.zip vs) m x=some v
 | [],_,_,_,_,h,_,_=>by simp at h
 | _::_,[],_,_,_,_,h,_=>by simp at h
 | p::P,w::vs,0,m,nd,h1,h2,hk=>by
  simp at h1 h2;subst h1;subst h2
  show bindC kindOf ((p,w)::P.zip vs) m p=_
  unfold bindC
  rw[bindC_out fun v hv=>(List.nodup_cons.mp nd).1 (List.of_mem_zip hv).1,if_neg hk]
  simp
 | p::P,w::vs,i+1,m,nd,h1,h2,hk=>by
  show bindC kindOf ((p,w)::P.zip vs) m x=_
  unfold bindC
  exact bindC_get (i:=i) (List.nodup_cons.mp nd).2 (by simpa using h1) (by simpa using h2) hk
def start (N:List Str) (vs:List V):St:=vs.map some++List.replicate (N.length-vs.length) none
def cxOf (CX:CXT) (P:Program) (w:World) (K:PySem.W.Frag) (mg:Str→Option Value) (base:Heap) (N:List Str) (qual:Str) (scope:Scope) (f:Addr) (cd:Value) (A:Around) (outer:List Env) (s:Shared) (H:Hp) (E:XK):Cx where
 prog:=P
 w:=w
 K:=K
 mg:=mg
 base:=base
 A:=A.deeper (envOfC qual scope s.heap.objs.size f cd)
 N:=N
 s₀:=s
 H₀:=H
 env:=envOfC qual scope s.heap.objs.size f cd
 outer:=outer
 stack:=envOfC qual scope s.heap.objs.size f cd::outer
 ex:=[]
 calm:=true
 fn:=fun _=>true
 pn:=[]
 xe:=fun e s'=>wpAny (model P w) (A.deeper (envOfC qual scope s.heap.objs.size f cd)) (leaving (envOfC qual scope s.heap.objs.size f cd) e) (fun _ s''=>CX outer H s E e s'') (fun e' s''=>CX outer H s E e' s'') s'
theorem cell_has {sc:Scope}{n:Nat}{x:Str}(h:sc.names.lookup x=some .cell):∃ c,(cellsFrom n sc.names []).lookup x=some c:=by
 have q:=PySem.W.cellsFrom_some sc.names n [] (.inl h)
 exact Option.isSome_iff_exists.mp q
theorem inv_start {CX:CXT}{P:Program}{w:World}{K:PySem.W.Frag}{mg:Str→Option Value}{base:Heap}{N ps:List Str}{qual:Str}{scope:Scope}{f:Addr}{cd:Value}{A:Around}{outer:List Env}{s s1:Shared}{H:Hp}{E:XK}{us:List Value}{vs:List V}
  (S:FnScope N ps scope) (hd:A.handled=none) (e0:Env0 P w K mg base A outer s H) (hl:vs.length=ps.length) (r:Vals vs us)
  (x:InCallC s s.heap.objs.size (bindL (envOfC qual scope s.heap.objs.size f cd).kindOf (ps.zip us) fun _=>none) (cellsFrom (s.heap.objs.size+1) scope.names []) (bindC (envOfC qual scope s.heap.objs.size f cd).kindOf (ps.zip us) fun _=>none) s1) :
  Inv (cxOf CX P w K mg base N qual scope f cd A outer s H E) [] (start N vs) H s1:=by
 have hpl:ps.length≤N.length:=by have:=congrArg List.length S.pre;rw[List.length_take] at this;omega
 obtain⟨h1,tk,rfl,hk⟩:=x.done
 have noA:∀ b:Addr,b∉(cxOf CX P w K mg base N qual scope f cd A outer s H E).ex:=fun b z=>absurd (show b∈([]:List Addr) from z) (by simp)
 refine⟨⟨e0.mod,S.kind,rfl,rfl,Nat.le_refl _,fun y z c h1 h2=>?_,fun y hy=>?_,fun y c _ h=>?_,fun _=>hd,Around.frames_deeper e0.frames,.inr ⟨rfl,rfl⟩,fun b z=>absurd z (noA b),e0.bs,e0.bsz,fun b _ _=>noA b,fun b z=>absurd z (noA b),e0.funs,e0.frf⟩,
  rfl,e0.bare,Un.kept hk,⟨_,x.toInCall.ns,fun i y v h1 h2 h3=>?_⟩,fun y c h=>⟨_,x.cell y c h⟩,e0.hok.fresh (Nat.le_refl _),fun y c h=>?_,fun p hp=>absurd (show p∈([]:List (Addr×Obj)) from hp) (by simp),e0.hok.kept hk,?_⟩
 ·exact name_of_addr x.apart (PySem.mem_of_lookup h1) (PySem.mem_of_lookup h2)
 ·have hy:scope.names.lookup y=some .cell∨scope.names.lookup y=some .free:=hy
  rcases hy with hy|hy
  ·exact cell_has hy
  ·exact absurd rfl (S.nofree _ (PySem.mem_of_lookup hy))
 ·exact Nat.le_of_lt (x.above y c (PySem.mem_of_lookup h))
 ·have hi:i<vs.length:=by
   unfold start at h2
   by_cases hi:i<vs.length
   ·exact hi
   ·rw[List.getElem?_append_right (by simpa using hi)] at h2
    rw[List.getElem?_replicate] at h2
    split at h2<;>cases h2
  have ha:vs[i]? = some v:=by
   unfold start at h2
   rw[List.getElem?_append_left (by simpa using hi),List.getElem?_map] at h2
   cases e:vs[i]? with
   | none=>rw[e] at h2;cases h2
   | some a=>rw[e] at h2;cases h2;rfl
  obtain⟨u,hu,rv⟩:=r.get ha
  have hp:ps[i]? = some y:=by
   rw[← S.pre,List.getElem?_take_of_lt (by omega)];exact h1
  have ndP:ps.Nodup:=by rw[← S.pre];exact S.nd.sublist (List.take_sublist _ _)
  refine⟨u,rv,?_⟩
  rcases S.par y (List.mem_of_getElem? hp) with k|k
  ·exact .inl ⟨k,bindL_get ndP hp hu k⟩
  ·obtain⟨c,e⟩:=cell_has (n:=s.heap.objs.size+1) k
   refine .inr ⟨.inl k,c,e,?_⟩
   have q:=x.cell y c e
   rw[bindC_get ndP hp hu (by show scope.names.lookup y≠_;rw[k];decide)] at q
   exact q
 ·exact .inl (e0.hok.fresh (Nat.le_of_lt (x.above y c (PySem.mem_of_lookup h))))
 ·unfold start
  show _=N.length
  rw[List.length_append,List.length_map,List.length_replicate]
  omega
theorem fn_of {CX:CXT}{P:Program}{w:World}{K:PySem.W.Frag}{mg:Str→Option Value}{base:Heap}{k:Nat}{f:Addr}{name qual:Str}{params:Arguments}{body:List Stmt}{scope:Scope}{dV kV doc pm cdv ct oc:Value}{an od:Option Addr}
  {osl:Array (Option Value)}{N ps:List Str}{sp:Sp}(lk:K.lookup f=some ⟨oc,od,.func (PySem.W.fnOf name qual params body scope dV kV doc pm an cdv ct),osl⟩) (hcd:PySem.W.codeIn K cdv qual=true) (S:FnScope N ps scope)
  (len:∀ vs H Q E,sp vs H Q E→vs.length=ps.length)
  (hbody:∀ (A:Around) (outer:List Env) (s:Shared) (H:Hp) (vs:List V) (Q:VK) (E:XK),Room k (A.deeper (envOfC qual scope s.heap.objs.size f cdv))→sp vs H Q E →
   ∃ t,PSs (cxOf CX P w K mg base N qual scope f cdv A outer s H E) body t∧t { nx:=fun _ H'=>Q .non H',rt:=Q } (start N vs) H) :
  FnOk P w K mg base CX (k+1) f (PySem.W.fnOf name qual params body scope dV kV doc pm an cdv ct) ps sp:=by
 refine⟨len,fun A outer s H args us vs Q E hr e0 hb r hsp=>?_⟩
 have hl:=len _ _ _ _ hsp
 have KX:K.In s.heap:=e0.mod.kin.keeps fun b o e=>(e0.bs b o e).1
 have lim:s.heap.NoLimit:=e0.mod.nolimit.keeps fun b o e=>(e0.bs b o e).1
 have hkind:∀ y∈ps.zip us,scope.names.lookup y.1=some .local∨(scope.names.lookup y.1=some .cell∧((cellsFrom (s.heap.objs.size+1) scope.names []).lookup y.1).isSome=true):=fun ⟨n,v⟩ hy=>by
  rcases S.par n (List.of_mem_zip hy).1 with q|q
  ·exact .inl q
  ·exact .inr ⟨q,PySem.W.cellsFrom_some _ _ _ (.inl q)⟩
 refine codeAny_call_function hr.depth (KX _ _ lk) rfl S.co S.gen rfl (PySem.W.codeRec_of KX hcd) (hb _ _ _ _ ?_)
 refine wpAny_newFunctionEnv_cells S.kind hkind fun env he s1 x=>?_
 subst he
 refine⟨lim.keeps x.toInCall.keep,codeAny_func ?_⟩
 obtain⟨t,ht,hq⟩:=hbody A outer s H vs Q E (hr.deeper _) hsp
 have I:Inv (cxOf CX P w K mg base N qual scope f cdv A outer s H E) [] (start N vs) H s1:=inv_start S hr.hd e0 hl r x
 refine wpAny_mono (ht [] s1 (start N vs) H _ I hq) (fun fl s' hs=>?_) fun e s' hs=>hs
 have fin:∀ {σ':St} {H':Hp} {v:V} {u:Value},Inv (cxOf CX P w K mg base N qual scope f cdv A outer s H E) [] σ' H' s'→RelV v u→Q v H'→CE outer P w H s Q u s':=
  fun {σ' H' v u} J rv q=>⟨v,H',J.os,J.bare,J.base,J.hok,rv,q⟩
 cases fl with
 | ret u=>
  obtain⟨v,σ',H',J,rv,q⟩:=hs
  exact fin J rv q
 | next=>
  obtain⟨σ',H',J,q⟩:=hs
  exact fin (v:=V.non) (u:=Value.none) J rfl q
 | brk=>
  obtain⟨_,_,_,q⟩:=hs
  exact False.elim q
 | cont=>
  obtain⟨_,_,_,q⟩:=hs
  exact False.elim q
end L2
namespace L2
open PySem PySem.Spec PyProof.Rows
section
variable {X:Cx}{x:Str}{p pos:Pos}{e:Expr}{es:List Expr}{t:TA}{id T:String}{r:List V→Hp→VK→Prop}
def tCB (r:List V→Hp→VK→Prop) (t:TA):TE:=fun σ H Q=>t σ H fun vs H1=>r vs H1 Q
theorem pe_callB (hc:CallR X (.builtin id) r) (hg:Gl X x) (hm:X.mg x=none) (hv:bootBuiltins x=some (.builtin id)) (ha:PA X (e::es) t) (hn:x ≠ "__name__":=by decide) (hdb:(x == ("__debug__" : Str))=false:=by decide)
  (he:starEach (e::es) X.env=(false,eval e X.env)::starEach es X.env:=by rfl) (hpl:(backTo pos (starEach es X.env)).any (·.1)=false:=by rfl):PE X (.Call (.Name x p) (e::es) [] pos) (tCB r t):=by
 intro pins s σ H Q I h
 refine wpAny_Call_Name_kw (ld_blt I hg hm hv ?_ hn hdb)
 exact PyProof.Rows.callWith_builtin1 (thn (ha pos pins s σ H _ I h) fun us s1 ⟨vs,H1,I1,r1,q1⟩=>hc pins s1 σ H1 vs us Q I1 r1 q1) he hpl
theorem pe_callTy (hc:CallR X (.type T) r) (hg:Gl X x) (hm:X.mg x=none) (hv:bootBuiltins x=some (.type T)) (ha:PA X (e::es) t) (hn:x ≠ "__name__":=by decide) (hdb:(x == ("__debug__" : Str))=false:=by decide)
  (he:starEach (e::es) X.env=(false,eval e X.env)::starEach es X.env:=by rfl) (hpl:(backTo pos (starEach es X.env)).any (·.1)=false:=by rfl):PE X (.Call (.Name x p) (e::es) [] pos) (tCB r t):=by
 intro pins s σ H Q I h
 refine wpAny_Call_Name_kw (ld_blt I hg hm hv ?_ hn hdb)
 exact PyProof.Rows.callWith_type1 (thn (ha pos pins s σ H _ I h) fun us s1 ⟨vs,H1,I1,r1,q1⟩=>hc pins s1 σ H1 vs us Q I1 r1 q1) he hpl
end
end L2
namespace HT
open PySem PyProof.Rows
section
open PySem.SeqAt
open PySem.AutoSeq1 (wpAny_loadPart')
open PySem.MeetsSeq PySem.MeetsSeq2 PySem.MeetsSeq3
end
section
variable {prog:Program}{w:World}{A:Around}{E:Value→Shared→Prop}{s:Shared}
def sIx (n d:Nat):Option Int→Nat
 | none=>d
 | some v=>if v<0 then (v+(n:Int)).toNat else min v.toNat n
end
end HT
namespace L2
open PySem PySem.Spec PyProof.Rows
abbrev TO:=St→Hp→(Option Int→Hp→Prop)→Prop
def PO (X:Cx) (e:Option Expr) (t:TO):Prop:=
 ∀ (pins:List (Addr×Obj)) (s:Shared) (σ:St) (H:Hp) (Q:Option Int→Hp→Prop),Inv X pins σ H s→t σ H Q →
  wpAny (model X.prog X.w) X.A (evalPart e X.env) (fun u s'=>∃ o H',Inv X pins σ H' s'∧IsPart u o∧Q o H') X.xe s
def tNoPart:TO:=fun _ H Q=>Q none H
def tPart (t:TE):TO:=fun σ H Q=>t σ H fun x H1=>∃ i,x=.int i∧Q (some i) H1
section
variable {X:Cx}{e:Expr}{te:TE}{lo hi:Option Expr}{tl th:TO}{pos p2:Pos}
theorem po_none:PO X none tNoPart:=by
 intro pins s σ H Q I h
 rw[evalPart_none]
 exact wpAny_pure ⟨none,H,I,.none,h⟩
theorem po_some (h:PE X e te):PO X (some e) (tPart te):=by
 intro pins s σ H Q I hw
 rw[evalPart_some]
 refine thn (h pins s σ H _ I hw) fun u s1 ⟨x,H1,I1,r1,q1⟩=>?_
 obtain⟨i,rfl,q⟩:=q1
 obtain⟨t,rfl⟩:=r1
 exact⟨some i,H1,I1,.int i t,q⟩
def SlR (X:Cx) (r:V→Option Int→Option Int→Hp→VK→Prop):Prop:=
 ∀ (pins:List (Addr×Obj)) (s:Shared) (σ:St) (H:Hp) (x:V) (v vl vu:Value) (lo hi:Option Int) (sl:Addr) (Q:VK),Inv X pins σ H s→RelV x v→s.heap.IsSliceOf sl vl vu .none→IsPart vl lo→IsPart vu hi→r x lo hi H Q →
  ∃ T id,typeLookup (.type T) "__getitem__" = pure (some (.builtin id))∧s.TypeIs v T∧wpAny (model X.prog X.w) X.A (getItem v (.ref sl)) (EP X pins σ Q) X.xe s
def tSl (r:V→Option Int→Option Int→Hp→VK→Prop) (te:TE) (tl th:TO):TE:=fun σ H Q=>te σ H fun x H1=>tl σ H1 fun l H2=>th σ H2 fun u H3=>r x l u H3 Q
theorem pe_slice {r:V→Option Int→Option Int→Hp→VK→Prop}(hr:SlR X r) (he:PE X e te) (hl:PO X lo tl) (hu:PO X hi th):PE X (.Subscript e (.Slice lo hi none p2) pos) (tSl r te tl th):=by
 intro pins s σ H Q I h
 refine Subscript_ (thn (he pins s σ H _ I h) fun v s1 ⟨x,H1,I1,r1,q1⟩=>?_)
 refine wpAny_Slice (thn (hl pins s1 σ H1 _ I1 q1) fun vl s2 ⟨l,H2,I2,pl,q2⟩=>thn (hu pins s2 σ H2 _ I2 q2) fun vu s3 ⟨u,H3,I3,pu,q3⟩=>?_)
 rw[evalPart_none]
 refine wpAny_pure ?_
 have I4:Inv X pins σ H3 { s3 with heap:=s3.heap.push { cls:=.type "slice",data:=.fields #[vl,vu,.none] } }:=I3.kept (t':=s3.toks) fun b ob q=>Heap.get?_push_of_some _ q
 obtain⟨T,id,hT,ht,hg⟩:=hr pins { s3 with heap:=s3.heap.push { cls:=.type "slice",data:=.fields #[vl,vu,.none] } } σ H3 x v vl vu l u s3.heap.objs.size Q I4 r1 (Heap.IsSliceOf.new ..) pl pu q3
 show wpAny (model X.prog X.w) X.A (subscriptTail e (.Slice lo hi none p2) v (.ref s3.heap.objs.size)) (EP X pins σ Q) X.xe { s3 with heap:=s3.heap.push { cls:=.type "slice",data:=.fields #[vl,vu,.none] } }
 exact tail_any (ops:=[.ref s3.heap.objs.size,v]) ht hT hg (by with_unfolding_all rfl)
def cutV (xs:List V) (lo hi:Option Int):List V:=(xs.drop (HT.sIx xs.length 0 lo)).take (HT.sIx xs.length xs.length hi-HT.sIx xs.length 0 lo)
theorem cutV_length (xs:List V) (lo hi:Option Int):(cutV xs lo hi).length≤xs.length:=by
 unfold cutV
 rw[List.length_take,List.length_drop]
 omega
end
end L2
namespace L2
open PySem PySem.Spec PyProof.Rows
def ixN (n:Nat) (i:Int):Option Nat:=if 0≤i then (if i<n then some i.toNat else none) else if -(n:Int)≤i then some (i+n).toNat else none
def atI {α:Type}(xs:List α) (i:Int):Option α:=(ixN xs.length i).bind fun j=>xs[j]?
theorem ixN_seq {n:Nat}{i:Int}{j:Nat}(h:ixN n i=some j):seqIndex? i n=some j∧j<n ∧ -(n:Int)≤i∧i<n:=by
 unfold ixN at h
 by_cases h0:0≤i
 ·rw[if_pos h0] at h
  by_cases h1:i<n
  ·rw[if_pos h1] at h
   have e:i.toNat=j:=Option.some.inj h
   exact⟨by rw[seqIndex_of h0 h1,e],by omega,by omega,h1⟩
  ·rw[if_neg h1] at h;cases h
 ·rw[if_neg h0] at h
  by_cases h1 : -(n:Int)≤i
  ·rw[if_pos h1] at h
   have e:(i+n).toNat=j:=Option.some.inj h
   exact⟨by rw[seqIndex_neg (by omega) h1,e],by omega,h1,by omega⟩
  ·rw[if_neg h1] at h;cases h
theorem atI_get {α:Type}{xs:List α}{i:Int}{v:α}(h:atI xs i=some v):∃ j,seqIndex? i xs.length=some j∧xs[j]? = some v∧j<xs.length ∧ -(xs.length:Int)≤i∧i<xs.length:=by
 unfold atI at h
 cases e:ixN xs.length i with
 | none=>rw[e] at h;cases h
 | some j=>
  rw[e] at h
  obtain⟨h1,h2,h3,h4⟩:=ixN_seq e
  exact⟨j,h1,h,h2,h3,h4⟩
theorem atI_nat {α:Type}{xs:List α}{j:Nat}{v:α}(h:xs[j]? = some v):atI xs (j:Int)=some v:=by
 have hj:j<xs.length:=(List.getElem?_eq_some_iff.mp h).1
 have e:ixN xs.length (j:Int)=some j:=by
  unfold ixN
  rw[if_pos (by omega),if_pos (by omega)];simp
 unfold atI;rw[e];exact h
def PlainIx (b:Expr):Prop:=∀ o i,subscripted b false o i=operate [o,i] (getItem o i)
def IxR (X:Cx) (r:R2):Prop:=
 ∀ (value slice:Expr) (pins:List (Addr×Obj)) (s:Shared) (σ:St) (H:Hp) (x y:V) (v u:Value) (Q:VK),Inv X pins σ H s→RelV x v→RelV y u→r x y H Q →
  subscripted slice false v u=operate [v,u] (getItem v u)→wpAny (model X.prog X.w) X.A (subscriptTail value slice v u) (EP X pins σ Q) X.xe s
def MtR (X:Cx) (id:String) (r:V→List V→Hp→VK→Prop):Prop:=
 ∀ (pins:List (Addr×Obj)) (s:Shared) (σ:St) (H:Hp) (x:V) (xs:List V) (v:Value) (us:List Value) (Q:VK),Inv X pins σ H s→RelV x v→Vals xs us→r x xs H Q →
  wpAny (model X.prog X.w) X.A (call (.builtin id) (v::us)) (EP X pins σ Q) X.xe s
section
variable {X:Cx}{a b:Expr}{ta tb:TE}{pos:Pos}
theorem pe_ix {r:R2}(hr:IxR X r) (ha:PE X a ta) (hb:PE X b tb) (hs:PlainIx b):PE X (.Subscript a b pos) (tOp r ta tb):=by
 intro pins s σ H Q I h
 exact Subscript_ (binT ha hb I h fun v u s2 x y H2 I2 rx ry q=>hr a b pins s2 σ H2 x y v u Q I2 rx ry q (hs _ _))
def rIxL (K:PySem.W.Frag):R2:=fun x y H Q=>∃ p xs i v,x=.ref p∧y=.int i∧SqL K H p xs∧atI xs i=some v∧Q v H
def rIxT (K:PySem.W.Frag):R2:=fun x y H Q=>∃ p xs i v,x=.ref p∧y=.int i∧SqT K H p xs∧atI xs i=some v∧Q v H
theorem ix_list:IxR X (rIxL X.K):=by
 intro value slice pins s σ H x y v u Q I rx ry h hs
 obtain⟨p,xs,i,z,rfl,rfl,hq,he,q⟩:=h
 cases rx
 obtain⟨t,rfl⟩:=ry
 obtain⟨its,r,pl,hz⟩:=I.list hq
 obtain⟨j,h1,h2,h3,h4,h5⟩:=atI_get he
 obtain⟨w,ew,rw'⟩:=r.get h2
 have hl:=r.length
 have hn:=line63
 have fin:EP X pins σ Q w s:=⟨z,H,I,rw',q⟩
 by_cases h0:0≤i
 ·have hj:i.toNat=j:=by
   rw[seqIndex_of h0 h5] at h1
   exact Option.some.inj h1
  exact item_listR pl.isList h0 (by omega) (by rw[hj];simpa using ew) fin hs
 ·have hj:(i+(its.toArray.size:Int)).toNat=j:=by
   rw[seqIndex_neg (by omega) h4] at h1
   rw[List.size_toArray,← hl]
   exact Option.some.inj h1
  exact subscriptTail_builtinR (x:=w) pl.isList.typeIs slot_list_getitem.lookup
   (wpAny_getItem_list_neg (Q:=fun r s'=>r=w∧EP X pins σ Q r s') pl.isList (by omega) (by rw[List.size_toArray]<;>omega) (by omega) (by rw[hj];simpa using ew) ⟨rfl,fin⟩) hs
theorem ix_tup:IxR X (rIxT X.K):=by
 intro value slice pins s σ H x y v u Q I rx ry h hs
 obtain⟨p,xs,i,z,rfl,rfl,hq,he,q⟩:=h
 cases rx
 obtain⟨t,rfl⟩:=ry
 obtain⟨its,r,pl,hz⟩:=I.tuple hq
 obtain⟨j,h1,h2,h3,h4,h5⟩:=atI_get he
 obtain⟨w,ew,rw'⟩:=r.get h2
 have hl:=r.length
 have hn:=line63
 have fin:EP X pins σ Q w s:=⟨z,H,I,rw',q⟩
 exact subscriptTail_builtinR (x:=w) pl.typeIs slot_tuple_getitem.lookup
  (getItem_tuple (j:=j) (Q:=fun r s'=>r=w∧EP X pins σ Q r s') pl (by omega) (by omega) (by rw[List.size_toArray,← hl];exact h1) (by simpa using ew) ⟨rfl,fin⟩) hs
theorem slice_bounds (lo hi:Option Int) (n:Nat):(sliceBounds lo hi none n).1=((HT.sIx n 0 lo:Nat):Int)∧(sliceBounds lo hi none n).2.1=((HT.sIx n n hi:Nat):Int)∧(sliceBounds lo hi none n).2.2=1:=by
 refine⟨?_,?_,rfl⟩
 ·cases lo with
  | none=>simp[sliceBounds,HT.sIx]
  | some i=>
   simp only[sliceBounds,HT.sIx,Option.getD_none,show (1:Int)>0 by decide,if_true]
   by_cases h:i<0
   ·simp only[h,if_true]<;>omega
   ·simp only[h,if_false]<;>omega
 ·cases hi with
  | none=>simp[sliceBounds,HT.sIx]
  | some i=>
   simp only[sliceBounds,HT.sIx,Option.getD_none,show (1:Int)>0 by decide,if_true]
   by_cases h:i<0
   ·simp only[h,if_true]<;>omega
   ·simp only[h,if_false]<;>omega
theorem slicePick_cut (its:List Value) (lo hi:Option Int):slicePick its.toArray lo hi none=((its.drop (HT.sIx its.length 0 lo)).take (HT.sIx its.length its.length hi-HT.sIx its.length 0 lo)).toArray:=by
 obtain⟨h1,h2,h3⟩:=slice_bounds lo hi its.toArray.size
 unfold slicePick
 rw[h1,h2,h3]
 simp only[sliceRange_one,pick_run,List.size_toArray]<;>rfl
def rSlL (K:PySem.W.Frag):V→Option Int→Option Int→Hp→VK→Prop:=fun x lo hi H Q=>∃ a xs,x=.ref a∧SqL K H a xs∧∀ p,H p=none→Q (.ref p) (upd H p (.lst (cutV xs lo hi)))
theorem sl_list:SlR X (rSlL X.K):=by
 intro pins s σ H x v vl vu lo hi sl Q I rx hs pl pu h
 obtain⟨a,xs,rfl,hx,q⟩:=h
 cases rx
 obtain⟨its,r,ht,hz⟩:=I.list hx
 have hlen:=r.length
 refine⟨"list",_,slot_list_getitem.lookup,ht.isList.typeIs,?_⟩
 refine wpAny_getItem_list_slice ht.isList hs pl pu .none (by simp) ?_ (by rw[List.size_toArray]<;>omega)
 rw[slicePick_cut,← hlen]
 refine⟨.ref s.heap.objs.size,_,I.laid (t':=s.toks) (o:=.lst (cutV xs lo hi)) (fun b ob q=>Heap.get?_push_of_some _ q) (Nat.le_refl _) ?_,rfl,q _ (I.hok.fresh (Nat.le_refl _))⟩
 exact⟨Nat.le_trans (cutV_length xs lo hi) hz,_,0,(r.drop (HT.sIx xs.length 0 lo)).take (HT.sIx xs.length xs.length hi-HT.sIx xs.length 0 lo),Heap.get?_push_size _ rfl⟩
def flatV:V→Bool
 | .non=>true
 | .bl _=>true
 | .int _=>true
 | .str _=>true
 | _=>false
def eqV:V→V→Bool
 | .non,.non=>true
 | .bl a,.bl b=>a == b
 | .bl a,.int b=>(if a then 1 else 0) == b
 | .int a,.bl b=>a == (if b then 1 else 0)
 | .int a,.int b=>a == b
 | .str a,.str b=>a == b
 | _,_=>false
theorem eqAt_V {A:Around}{s:Shared}{y x:V}{u v:Value}(ry:RelV y u) (rx:RelV x v) (fy:flatV y=true) (fx:flatV x=true):SeqAt.EqAt A s u v (eqV y x):=by
 cases y with
 | non=>
  cases ry
  cases x with
  | non=>cases rx;exact SeqAt.EqAt.same _
  | bl b=>cases rx;exact SeqAt.EqAt.none_bool b
  | int b=>obtain⟨t,rfl⟩:=rx;exact SeqAt.EqAt.none_int b t
  | str b=>obtain⟨t,rfl⟩:=rx;exact SeqAt.EqAt.none_str b t
  | _=>exact absurd (show false=true from fx) Bool.false_ne_true
 | bl a=>
  cases ry
  cases x with
  | non=>cases rx;exact SeqAt.EqAt.bool_none a
  | bl b=>cases rx;exact SeqAt.EqAt.bool_bool a b
  | int b=>obtain⟨t,rfl⟩:=rx;exact SeqAt.EqAt.bool_int a b t
  | str b=>obtain⟨t,rfl⟩:=rx;exact SeqAt.EqAt.bool_str a b t
  | _=>exact absurd (show false=true from fx) Bool.false_ne_true
 | int a=>
  obtain⟨t',rfl⟩:=ry
  cases x with
  | non=>cases rx;exact SeqAt.EqAt.int_none a t'
  | bl b=>cases rx;exact SeqAt.EqAt.int_bool a t' b
  | int b=>obtain⟨t,rfl⟩:=rx;exact SeqAt.EqAt.int_int a t' b t
  | str b=>obtain⟨t,rfl⟩:=rx;exact SeqAt.EqAt.int_str a t' b t
  | _=>exact absurd (show false=true from fx) Bool.false_ne_true
 | str a=>
  obtain⟨t',rfl⟩:=ry
  cases x with
  | non=>cases rx;exact SeqAt.EqAt.str_none a t'
  | bl b=>cases rx;exact SeqAt.EqAt.str_bool a t' b
  | int b=>obtain⟨t,rfl⟩:=rx;exact SeqAt.EqAt.str_int a t' b t
  | str b=>obtain⟨t,rfl⟩:=rx;exact SeqAt.EqAt.str_str a t' b t
  | _=>exact absurd (show false=true from fx) Bool.false_ne_true
 | _=>exact absurd (show false=true from fy) Bool.false_ne_true
def eqU (x:V) (u:Value):Bool:=match u with
 | .none=>eqV .non x
 | .bool b=>eqV (.bl b) x
 | .int i _=>eqV (.int i) x
 | .str z _=>eqV (.str z) x
 | _=>false
theorem eqU_of {x y:V}{u:Value}(r:RelV y u) (f:flatV y=true):eqU x u=eqV y x:=by
 cases y with
 | non=>cases r;rfl
 | bl b=>cases r;rfl
 | int i=>obtain⟨t,rfl⟩:=r;rfl
 | str z=>obtain⟨t,rfl⟩:=r;rfl
 | _=>exact absurd (show false=true from f) Bool.false_ne_true
theorem any_eqU {x:V}:∀ {xs:List V}{us:List Value},Vals xs us→xs.all flatV=true→us.any (eqU x)=xs.any fun y=>eqV y x
 | _,_,.nil,_=>rfl
 | y::xs,u::us,.cons r t,f=>by
  rw[List.all_cons,Bool.and_eq_true] at f
  rw[List.any_cons,List.any_cons,eqU_of r f.1,any_eqU t f.2]
theorem mem_eqAt {A:Around}{s:Shared}{x:V}{v:Value}(rx:RelV x v) (fx:flatV x=true):∀ {xs:List V}{us:List Value},Vals xs us→xs.all flatV=true→∀ u∈us,SeqAt.EqAt A s u v (eqU x u)
 | _,_,.nil,_=>fun u hu=>by cases hu
 | y::xs,u::us,.cons r t,f=>fun u' hu=>by
  rw[List.all_cons,Bool.and_eq_true] at f
  rcases List.mem_cons.mp hu with rfl|hu
  ·rw[eqU_of r f.1];exact eqAt_V r rx f.1 fx
  ·exact mem_eqAt rx fx t f.2 u' hu
def inV (x:V) (xs:List V):Bool:=xs.any fun y=>eqV y x
def rIn (K:PySem.W.Frag) (neg:Bool):R2:=fun x y H Q=>∃ p xs,y=.ref p∧(SqL K H p xs∨SqT K H p xs)∧flatV x=true∧xs.all flatV=true∧Q (.bl (if neg then !inV x xs else inV x xs)) H
theorem op_in_seq:OpR X (compareOp .In) (rIn X.K false):=by
 intro pins s σ H x y v u Q I rx ry h
 obtain⟨p,xs,rfl,hq,fx,fs,q⟩:=h
 cases ry
 rcases hq with hq|hq
 ·obtain⟨its,r,pl,hz⟩:=I.list hq
  refine SeqAt.in_listAt (eqU x) pl.isList (fun w hw=>mem_eqAt rx fx r fs w (by simpa using hw)) ⟨.bl _,H,I,rfl,?_⟩
  rw[show its.toArray.any (eqU x)=its.any (eqU x) by simp,any_eqU r fs]
  exact q
 ·obtain⟨its,r,pl,hz⟩:=I.tuple hq
  refine SeqAt.in_tupleAt (eqU x) pl (fun w hw=>mem_eqAt rx fx r fs w (by simpa using hw)) ⟨.bl _,H,I,rfl,?_⟩
  rw[show its.toArray.any (eqU x)=its.any (eqU x) by simp,any_eqU r fs]
  exact q
theorem call_len_seq:CallR X (.builtin "len") (fun xs H Q=>∃ p ys,xs=[.ref p]∧(SqL X.K H p ys∨SqT X.K H p ys)∧Q (.int ys.length) H):=by
 intro pins s σ H xs us Q I r h
 obtain⟨p,ys,rfl,hq,q⟩:=h
 obtain⟨u,rfl,rx⟩:=vals1 r
 cases rx
 have hn:=line63
 rcases hq with hq|hq
 ·obtain⟨its,r',pl,hz⟩:=I.list hq
  have hlen:=r'.length
  exact Calls.call_len_list pl.isList (by simp only[List.size_toArray]<;>omega) ⟨.int ys.length,H,I.tok _,⟨s.toks+1,by rw[List.size_toArray,hlen]⟩,q⟩
 ·obtain⟨its,r',pl,hz⟩:=I.tuple hq
  have hlen:=r'.length
  exact len_tuple pl (by simp only[List.size_toArray]<;>omega) ⟨.int ys.length,H,I.tok _,⟨s.toks+1,by rw[List.size_toArray,hlen]⟩,q⟩
theorem call_list_of:CallR X (.type "list") (fun xs H Q=>∃ p ys,xs=[.ref p]∧(SqL X.K H p ys∨SqT X.K H p ys)∧∀ l,H l=none→Q (.ref l) (upd H l (.lst ys))):=by
 intro pins s σ H xs us Q I r h
 obtain⟨p,ys,rfl,hq,q⟩:=h
 obtain⟨u,rfl,rx⟩:=vals1 r
 cases rx
 have fin:∀ (its:List Value),Vals ys its→ys.length≤sizeLine→∀ (h':Heap) (c':Nat),(∀ b o',s.heap.get? b=some o'→h'.get? b=some o') →
   h'.get? s.heap.objs.size=some { cls:=.type "list",dict:=none,data:=.seq its.toArray c',slots:=#[] }→EP X pins σ Q (.ref s.heap.objs.size) { s with heap:=h' }:=fun its r' hz h' c' kp e=>
  ⟨.ref s.heap.objs.size,_,I.laid (t':=s.toks) kp (Nat.le_refl _) (show ObjOk X.prog X.w _ h' _ (.lst ys) from ⟨hz,its,c',r',e⟩),rfl,q _ (I.hok.fresh (Nat.le_refl _))⟩
 rcases hq with hq|hq
 ·obtain⟨its,r',pl,hz⟩:=I.list hq
  have hlen:=r'.length
  obtain⟨o,ho,hc,n,hd⟩:=pl.isList
  exact call_list_seq p (.inl rfl) ho hc hd (fun h' c' kp e=>fin its r' hz h' c' kp e) (by simp only[List.size_toArray]<;>omega)
 ·obtain⟨its,r',pl,hz⟩:=I.tuple hq
  have hlen:=r'.length
  obtain⟨o,ho,hc,n,hd⟩:=pl
  exact call_list_seq p (.inr rfl) ho hc hd (fun h' c' kp e=>fin its r' hz h' c' kp e) (by simp only[List.size_toArray]<;>omega)
theorem call_tuple_of:CallR X (.type "tuple") (fun xs H Q=>∃ p ys,xs=[.ref p]∧((SqL X.K H p ys∧∀ l,H l=none→Q (.ref l) (upd H l (.tup ys)))∨(SqT X.K H p ys∧Q (.ref p) H))):=by
 intro pins s σ H xs us Q I r h
 obtain⟨p,ys,rfl,h⟩:=h
 obtain⟨u,rfl,rx⟩:=vals1 r
 cases rx
 rcases h with ⟨hq,q⟩|⟨hq,q⟩
 ·obtain⟨its,r',pl,hz⟩:=I.list hq
  have hlen:=r'.length
  refine call_tuple_list pl.isList (fun h' kp=>?_) (by simp only[List.size_toArray]<;>omega)
  have I1:Inv X pins σ H { s with heap:=h' }:=I.kept (t':=s.toks) kp
  have I2:Inv X pins σ (upd H h'.objs.size (.tup ys)) { s with heap:=h'.push { cls:=.type "tuple",data:=.seq its.toArray } }:=
   I1.laid (t':=s.toks) (fun b o e=>Heap.get?_push_of_some _ e) (Nat.le_refl _) (show ObjOk X.prog X.w _ _ _ (.tup ys) from ⟨hz,its,r',IsTup.new _ _⟩)
  exact⟨.ref h'.objs.size,_,I2,rfl,q _ (I1.hok.fresh (Nat.le_refl _))⟩
 ·obtain⟨its,r',pl,hz⟩:=I.tuple hq
  exact call_tuple_same pl ⟨.ref p,H,I,rfl,q⟩
def tyV (K:PySem.W.Frag) (T:String) (x:V) (H:Hp):Prop:=match x with
 | .str _=>T = "str"
 | .int _=>T = "int"
 | .ref p=>(T = "list" ∧ ∃ xs,SqL K H p xs)∨(T = "tuple" ∧ ∃ o,K.lookup p=some o∧o.cls=.type "tuple" ∧ o.dict=none) ∨
   (T = "dict" ∧ ((∃ kvs,H p=some (.dK kvs))∨∃ kvs,H p=some (.dT kvs)))∨(T = "set" ∧ ∃ S n,H p=some (.set S n))
 | _=>False
theorem tyV_is {pins:List (Addr×Obj)}{σ:St}{H:Hp}{s:Shared}{T:String}{x:V}{v:Value}(I:Inv X pins σ H s) (r:RelV x v) (ty:tyV X.K T x H) :
  s.TypeIs v T∧∀ a,v=.ref a→∃ ob,s.heap.get? a=some ob∧ob.dict=none:=by
 cases x with
 | str z=>
  obtain⟨t,rfl⟩:=r
  cases (show T = "str" from ty)
  exact⟨typeIs_str s z t,fun _ e=>nomatch e⟩
 | int i=>
  obtain⟨t,rfl⟩:=r
  cases (show T = "int" from ty)
  exact⟨typeIs_int s i t,fun _ e=>nomatch e⟩
 | ref p=>
  cases r
  rcases ty with ⟨rfl,xs,hq⟩|⟨rfl,o,hk,hc,hd⟩|⟨rfl,hk⟩|⟨rfl,S,n,hk⟩
  ·obtain⟨its,_,pl,_⟩:=I.list hq
   refine⟨pl.isList.typeIs,fun a e=>?_⟩
   cases e
   obtain⟨o,n,e,c,hd,_⟩:=pl
   exact⟨o,e,hd⟩
  ·refine⟨⟨o,I.kIn p o hk,hc⟩,fun a e=>?_⟩
   cases e
   exact⟨o,I.kIn _ o hk,hd⟩
  ·have z:∃ o,s.heap.get? p=some o∧o.ExactDict:=by
    rcases hk with ⟨kvs,hk⟩|⟨kvs,hk⟩
    ·obtain⟨_,_,_,_,o,_,_,e,ex,_⟩:=I.hok p _ hk
     exact⟨o,e,ex⟩
    ·obtain⟨_,_,_,_,o,_,_,e,ex,_⟩:=I.hok p _ hk
     exact⟨o,e,ex⟩
   obtain⟨o,e,ex⟩:=z
   refine⟨⟨o,e,ex.1⟩,fun a e2=>?_⟩
   cases e2
   exact⟨o,e,ex.2.1⟩
  ·obtain⟨o,_,_,_,e,ex,_⟩:=I.hok p _ hk
   refine⟨⟨o,e,ex.1⟩,fun a e2=>?_⟩
   cases e2
   exact⟨o,e,ex.2.1⟩
 | _=>exact False.elim ty
def tBM0 (K:PySem.W.Frag) (T:String) (r:V→List V→Hp→VK→Prop) (to:TE):TE:=fun σ H Q=>to σ H fun x H1=>tyV K T x H1∧r x [] H1 Q
def tBM (K:PySem.W.Frag) (T:String) (r:V→List V→Hp→VK→Prop) (to:TE) (t:TA):TE:=fun σ H Q=>to σ H fun x H1=>tyV K T x H1∧t σ H1 fun xs H2=>r x xs H2 Q
variable {o e:Expr}{es:List Expr}{to:TE}{t:TA}{name:Str}{apos cpos:Pos}{T id:String}{r:V→List V→Hp→VK→Prop}
theorem pe_bm0 (pa:PlainAttrs T) (slot:Slot T name id) (hty:typeOf (.builtin id)=pure (.type "method_descriptor")) (hm:MtR X id r) (ho:PE X o to)
  (hbase:attributeBase o name X.env (eval o X.env)=eval o X.env:=by rfl) (hline:(apos.endLine == cpos.line)=true:=by rfl):PE X (.Call (.Attribute o name apos) [] [] cpos) (tBM0 X.K T r to):=by
 intro pins s σ H Q I h
 refine wpAny_Call_method0_late hbase hline (thn (ho pins s σ H _ I h) fun v s1 ⟨x,H1,I1,r1,ty,q1⟩=>?_)
 obtain⟨h1,h2⟩:=tyV_is I1 r1 ty
 exact⟨T,id,pa,slot,hty,h1,h2,Calls.callWith_builtin rfl (PySem.evalArgs_none (hm pins s1 σ H1 x [] v [] Q I1 r1 .nil q1))⟩
theorem pe_bm (pa:PlainAttrs T) (slot:Slot T name id) (hty:typeOf (.builtin id)=pure (.type "method_descriptor")) (hm:MtR X id r) (ho:PE X o to) (ha:PA X (e::es) t)
  (hbase:attributeBase o name X.env (eval o X.env)=eval o X.env:=by rfl)
  (hfew:((backTo cpos (starEach (e::es) X.env)).all (fun x=>!x.1) && (backToKw cpos (keywordEach [] X.env)).all (fun x=>x.1.isSome)
   && decide ((e::es).length+([]:List Keyword).length+(if ([]:List Keyword).isEmpty then 0 else 1)<30))=true:=by rfl)
  (hline:(apos.endLine == cpos.line)=true:=by rfl) (hs:starEach (e::es) X.env=(false,eval e X.env)::starEach es X.env:=by rfl) (hplain:(backTo cpos (starEach es X.env)).any (·.1)=false:=by rfl) :
  PE X (.Call (.Attribute o name apos) (e::es) [] cpos) (tBM X.K T r to t):=by
 intro pins s σ H Q I h
 refine wpAny_Call_method_late hbase hfew hline rfl (thn (ho pins s σ H _ I h) fun v s1 ⟨x,H1,I1,r1,ty,q1⟩=>?_)
 obtain⟨h1,h2⟩:=tyV_is I1 r1 ty
 refine⟨T,id,pa,slot,hty,h1,h2,?_⟩
 have hA:=ha cpos pins s1 σ H1 _ I1 q1
 rw[hs] at hA ⊢
 refine Calls.callWith_builtin (by show (false || (backTo cpos (starEach es X.env)).any (·.1))=false;rw[hplain]<;>rfl) (Calls.evalArgs_plain ?_)
 exact thn hA fun us s2 ⟨vs,H2,I2,r2,q2⟩=>hm pins s2 σ H2 x vs v us Q I2 r1 r2 q2
end
end L2
namespace L2
open PySem PySem.Spec PyProof.Rows
def MtM (X:Cx) (id:String) (r:V→List V→Hp→VK→Prop):Prop:=
 ∀ (pins:List (Addr×Obj)) (s:Shared) (σ:St) (H:Hp) (x:V) (xs:List V) (v:Value) (us:List Value) (Q:VK),Inv X pins σ H s→RelV x v→Vals xs us→r x xs H Q →
  wpAny (model X.prog X.w) X.A (call (.builtin id) (v::us)) (EP X pins σ Q) X.xe s
theorem Vals.one:∀ {x:V}{us:List Value},Vals [x] us→∃ u,us=[u]∧RelV x u
 | _,_,.cons r .nil=>⟨_,rfl,r⟩
theorem Vals.zero:∀ {us:List Value},Vals [] us→us=[]
 | _,.nil=>rfl
section
variable {X:Cx}{pins:List (Addr×Obj)}{σ:St}{H:Hp}{s:Shared}{l b:Addr}{xs ys zs:List V}
theorem Inv.lset {its its':List Value}{n:Nat}{f:Array Value→Array Value}{t':Nat}(I:Inv X pins σ H s) (hH:H l=some (.lst xs))
  (e:s.heap.get? l=some { cls:=.type "list",data:=.seq its.toArray n }) (hf:f its.toArray=its'.toArray) (hv:Vals ys its') (hz:ys.length≤sizeLine) :
  Inv X pins σ (upd H l (.lst ys)) { s with heap:=s.heap.update l (Obj.mapSeq f),toks:=t' }:=by
 have q:=PySem.IsL.update e f
 rw[hf] at q
 refine I.write (x:=l) (e:=l) (by rw[hH];exact trivial) (.inl rfl) (fun b' u hb hu=>(Heap.get?_update_other s.heap (Obj.mapSeq f) (Ne.symm hb)).trans hu) ⟨_,q⟩ ?_
 exact⟨hz,its',_,hv,q⟩
theorem Inv.fresh (I:Inv X pins σ H s):H s.heap.objs.size=none:=I.hok.fresh (Nat.le_refl _)
theorem Inv.lstM (I:Inv X pins σ H s) (hH:H l=some (.lst xs)):xs.length≤sizeLine∧∃ (its:List Value) (n:Nat),Vals xs its∧xs.length=its.length∧s.heap.get? l=some { cls:=.type "list",data:=.seq its.toArray n }:=by
 obtain⟨z,its,n,r,e⟩:=I.hok l _ hH
 exact⟨z,its,n,r,r.length,e⟩
end
section
variable {X:Cx}
def rAppend:V→List V→Hp→VK→Prop:=fun x vs H Q=>∃ l xs y,x=.ref l∧vs=[y]∧H l=some (.lst xs)∧xs.length<sizeLine∧Q .non (upd H l (.lst (xs++[y])))
theorem mt_append:MtM X "list.append" rAppend:=by
 intro pins s σ H x vs v us Q I rx rv h
 obtain⟨l,xs,y,rfl,rfl,hH,hz,q⟩:=h
 cases rx
 obtain⟨u,rfl,ru⟩:=rv.one
 obtain⟨z,its,n,r,hl,e⟩:=I.lstM hH
 refine call_meets F.slot_list_append ⟨_,e,rfl⟩ F.entry_list_append (F.args_list_append_2 _ _) (PySem.list_append l its.toArray n u (by rw[List.size_toArray];omega)) ⟨e,?_⟩
 refine⟨.non,_,I.lset (its':=its++[u]) hH e (by simp) (r.append (.cons ru .nil)) ?_,rfl,q⟩
 rw[List.length_append,List.length_singleton]
 omega
def rClear:V→List V→Hp→VK→Prop:=fun x vs H Q=>∃ l xs,x=.ref l∧vs=[]∧H l=some (.lst xs)∧Q .non (upd H l (.lst []))
theorem mt_clear:MtM X "list.clear" rClear:=by
 intro pins s σ H x vs v us Q I rx rv h
 obtain⟨l,xs,rfl,rfl,hH,q⟩:=h
 cases rx
 have hus:=rv.zero
 subst hus
 obtain⟨z,its,n,r,hl,e⟩:=I.lstM hH
 refine call_meets F.slot_list_clear ⟨_,e,rfl⟩ F.entry_list_clear (F.args_list_clear_1 _) (AutoSeq1.list_clear_list_0 l its.toArray n (by rw[List.size_toArray];omega)) ⟨e,?_⟩
 exact⟨.non,_,I.lset (its':=[]) (ys:=[]) hH e rfl .nil (Nat.zero_le _),rfl,q⟩
end
section
variable {prog:Program}{w:World}{A:Around}{E:Value→Shared→Prop}{s:Shared}
end
section
variable {X:Cx}
end
end L2
namespace L2
open PySem PySem.Spec PyProof.Rows
section
variable {κ:Type} [DecidableEq κ]
def valV (kvs:List (κ×V)) (k:κ):Option V:=(kvs.find? fun kv=>decide (kv.1=k)).map (·.2)
def putK (kvs:List (κ×V)) (k:κ) (v:V):List (κ×V):=
 if (kvs.any fun kv=>decide (kv.1=k))=true then kvs.map (fun kv=>if kv.1=k then (kv.1,v) else kv) else kvs++[(k,v)]
def dropK (kvs:List (κ×V)) (k:κ):List (κ×V):=kvs.filter fun kv=>decide (kv.1≠k)
theorem valV_nil {k:κ}:valV ([]:List (κ×V)) k=none:=rfl
theorem valV_pos {p:κ×V}{r:List (κ×V)}{k:κ}(e:p.1=k):valV (p::r) k=some p.2:=by simp[valV,List.find?_cons,e]
theorem valV_neg {p:κ×V}{r:List (κ×V)}{k:κ}(e:¬ p.1=k):valV (p::r) k=valV r k:=by simp[valV,List.find?_cons,e]
theorem valV_any (k:κ):∀ kvs:List (κ×V),(kvs.any fun kv=>decide (kv.1=k))=(valV kvs k).isSome
 | []=>rfl
 | p::r=>by
  rw[List.any_cons]
  by_cases e:p.1=k
  ·simp only[valV_pos e,decide_eq_true e,Bool.true_or,Option.isSome_some]
  ·rw[valV_neg e,decide_eq_false e,Bool.false_or];exact valV_any k r
theorem valV_map (k j:κ) (y:V):∀ kvs:List (κ×V),valV (kvs.map fun kv=>if kv.1=k then (kv.1,y) else kv) j=(valV kvs j).map fun x=>if j=k then y else x
 | []=>rfl
 | p::r=>by
  have ih:=valV_map k j y r
  rw[List.map_cons]
  by_cases h:p.1=k
  ·rw[if_pos h]
   by_cases e:p.1=j
   ·rw[valV_pos (p:=(p.1,y)) e,valV_pos e,Option.map_some,if_pos (e.symm.trans h)]
   ·rw[valV_neg (p:=(p.1,y)) e,valV_neg e,ih]
  ·rw[if_neg h]
   by_cases e:p.1=j
   ·rw[valV_pos (p:=p) e,valV_pos e,Option.map_some,if_neg (fun z=>h (e.trans z))]
   ·rw[valV_neg (p:=p) e,valV_neg e,ih]
theorem valV_snoc (k j:κ) (y:V):∀ kvs:List (κ×V),valV kvs k=none→valV (kvs++[(k,y)]) j=if j=k then some y else valV kvs j
 | [],_=>by
  by_cases e:k=j
  ·rw[if_pos e.symm];exact valV_pos (p:=(k,y)) e
  ·rw[if_neg (fun z=>e z.symm)];exact valV_neg (p:=(k,y)) e
 | p::r,hn=>by
  rw[List.cons_append]
  have hk:¬ p.1=k:=fun z=>by rw[valV_pos z] at hn;cases hn
  rw[valV_neg hk] at hn
  have ih:=valV_snoc k j y r hn
  by_cases e:p.1=j
  ·rw[valV_pos e,valV_pos e,if_neg (fun z=>hk (e.trans z))]
  ·rw[valV_neg e,valV_neg e,ih]
theorem valV_put (kvs:List (κ×V)) (k j:κ) (y:V):valV (putK kvs k y) j=if j=k then some y else valV kvs j:=by
 unfold putK
 by_cases a:(kvs.any fun kv=>decide (kv.1=k))=true
 ·rw[if_pos a,valV_map]
  rw[valV_any] at a
  by_cases e:j=k
  ·obtain⟨x,hx⟩:=Option.isSome_iff_exists.mp a
   rw[if_pos e,e,hx,Option.map_some,if_pos rfl]
  ·rw[if_neg e]
   cases valV kvs j with
   | none=>rfl
   | some x=>rw[Option.map_some,if_neg e]
 ·rw[if_neg a]
  refine valV_snoc k j y kvs ?_
  rw[valV_any] at a
  cases q:valV kvs k with
  | none=>rfl
  | some x=>rw[q] at a;exact(a rfl).elim
theorem length_putK (kvs:List (κ×V)) (k:κ) (v:V):(putK kvs k v).length≤kvs.length+1:=by
 unfold putK
 split
 ·rw[List.length_map];omega
 ·rw[List.length_append,List.length_cons,List.length_nil];omega
theorem putK_new {kvs:List (κ×V)}{k:κ}(v:V) (h:valV kvs k=none):putK kvs k v=kvs++[(k,v)]:=by
 unfold putK
 rw[valV_any,h]
 exact if_neg (by decide)
theorem RelO.isSome_eq {o:Option V}{u:Option Value}(r:RelO o u):o.isSome=u.isSome:=by
 cases o with
 | none=>cases u with
  | none=>rfl
  | some _=>exact(show False from r).elim
 | some _=>cases u with
  | none=>exact(show False from r).elim
  | some _=>rfl
theorem RelO.getD {o:Option V}{u:Option Value}{d:V}{d':Value}(r:RelO o u) (rd:RelV d d'):RelV (o.getD d) (u.getD d'):=by
 cases o with
 | none=>cases u with
  | none=>exact rd
  | some _=>exact(show False from r).elim
 | some _=>cases u with
  | none=>exact(show False from r).elim
  | some _=>exact r
theorem KV.val {kvs:List (κ×V)}{vs:List (κ×Value)}(r:KV kvs vs) (k:κ):RelO (valV kvs k) (valueAt vs k):=by
 unfold KV at r
 induction r with
 | nil=>exact True.intro
 | @cons p q ps qs h t ih=>
  obtain⟨h1,h2⟩:=h
  by_cases e:p.1=k
  ·have e':q.1=k:=h1.symm.trans e
   have b:valueAt (q::qs) k=some q.2:=by simp[valueAt,List.find?_cons,e']
   rw[valV_pos e,b];exact h2
  ·have e':¬ q.1=k:=fun z=>e (h1.trans z)
   have b:valueAt (q::qs) k=valueAt qs k:=by simp[valueAt,List.find?_cons,e']
   rw[valV_neg e,b];exact ih
theorem KV.any {kvs:List (κ×V)}{vs:List (κ×Value)}(r:KV kvs vs) (k:κ):(kvs.any fun kv=>decide (kv.1=k))=vs.any fun kv=>decide (kv.1=k):=by
 unfold KV at r
 induction r with
 | nil=>rfl
 | cons h t ih=>rw[List.any_cons,List.any_cons,ih,h.1]
theorem KV.repl {kvs:List (κ×V)}{vs:List (κ×Value)}(r:KV kvs vs) (k:κ) {y:V}{u:Value}(ry:RelV y u) :
  KV (kvs.map fun kv=>if kv.1=k then (kv.1,y) else kv) (vs.map fun kv=>if kv.1=k then (kv.1,u) else kv):=by
 unfold KV at r ⊢
 induction r with
 | nil=>exact .nil
 | @cons p q ps qs h t ih=>
  rw[List.map_cons,List.map_cons]
  refine .cons ?_ ih
  obtain⟨h1,h2⟩:=h
  by_cases e:p.1=k
  ·rw[if_pos e,if_pos (h1.symm.trans e)];exact⟨h1,ry⟩
  ·rw[if_neg e,if_neg (fun z=>e (h1.trans z))];exact⟨h1,h2⟩
theorem KV.put {kvs:List (κ×V)}{vs:List (κ×Value)}(r:KV kvs vs) (k:κ) {y:V}{u:Value}(ry:RelV y u):KV (putK kvs k y) (stored vs k u):=by
 unfold putK stored
 rw[r.any k]
 by_cases e:(vs.any fun kv=>decide (kv.1=k))=true
 ·rw[if_pos e,if_pos e];exact r.repl k ry
 ·rw[if_neg e,if_neg e];exact Paired.snoc r ⟨rfl,ry⟩
theorem KV.length {kvs:List (κ×V)}{vs:List (κ×Value)}(r:KV kvs vs):kvs.length=vs.length:=Paired.length r
theorem dropK_le (kvs:List (κ×V)) (k:κ):(dropK kvs k).length≤kvs.length:=List.length_filter_le _ _
end
theorem kV_is {P:Program}{w:World}{k:Key}{u:Value}(r:RelV (kV k) u):(mixKind P w).is k u=true:=by
 cases k with
 | inl i=>obtain⟨t,e⟩:=(show ∃ t,u=Value.int i t from r);subst e;exact mixKind_int P w i t
 | inr x=>obtain⟨t,e⟩:=(show ∃ t,u=Value.str x t from r);subst e;exact mixKind_str P w x t
theorem items_are {P:Program}{w:World}:∀ {ks:List Key}{us:List Value},Vals (ks.map kV) us→ItemsAre (mixKind P w) ks us
 | [],_,r=>by rw[List.map_nil] at r;cases r;exact .nil
 | k::ks,_,r=>by
  rw[List.map_cons] at r
  cases r with
  | cons h t=>exact .cons (kV_is h) (items_are t)
abbrev KT (H:Hp):List (List Key×V)→List (List Key×Addr×Value)→Prop:=Paired fun p q=>p.1=q.1∧H q.2.1=some (.tup (p.1.map kV))∧RelV p.2 q.2.2
theorem KT.val {H:Hp}{kvs:List (List Key×V)}{xs:List (List Key×Addr×Value)}(r:KT H kvs xs) (k:List Key):RelO (valV kvs k) ((atKey xs k).map (·.2)):=by
 induction r with
 | nil=>exact True.intro
 | @cons p q ps qs h t ih=>
  obtain⟨h1,_,h2⟩:=h
  by_cases e:p.1=k
  ·have e':q.1=k:=h1.symm.trans e
   have b:atKey (q::qs) k=some q.2:=by simp[atKey,List.find?_cons,e']
   rw[valV_pos e,b];exact h2
  ·have e':¬ q.1=k:=fun z=>e (h1.trans z)
   have b:atKey (q::qs) k=atKey qs k:=by simp[atKey,List.find?_cons,e']
   rw[valV_neg e,b];exact ih
theorem KT.repl {H:Hp}{kvs:List (List Key×V)}{xs:List (List Key×Addr×Value)}(r:KT H kvs xs) (k:List Key) {y:V}{u:Value}(ry:RelV y u) :
  KT H (kvs.map fun kv=>if kv.1=k then (kv.1,y) else kv) (xs.map (putAt k u)):=by
 induction r with
 | nil=>exact .nil
 | @cons p q ps qs h t ih=>
  rw[List.map_cons,List.map_cons]
  refine .cons ?_ ih
  obtain⟨h1,h2,h3⟩:=h
  unfold putAt
  by_cases e:p.1=k
  ·rw[if_pos e,if_pos (h1.symm.trans e)];exact⟨h1,h2,ry⟩
  ·rw[if_neg e,if_neg (fun z=>e (h1.trans z))];exact⟨h1,h2,h3⟩
theorem KT.put {H:Hp}{kvs:List (List Key×V)}{xs:List (List Key×Addr×Value)}(r:KT H kvs xs) (k:List Key) {b:Addr}{y:V}{u:Value}(hb:H b=some (.tup (k.map kV))) (ry:RelV y u) :
  KT H (putK kvs k y) (storedH xs k b u):=by
 have e:(kvs.any fun kv=>decide (kv.1=k))=(atKey xs k).isSome:=by
  rw[valV_any,(r.val k).isSome_eq,Option.isSome_map]
 unfold putK storedH
 rw[e]
 by_cases q:(atKey xs k).isSome=true
 ·rw[if_pos q,if_pos q];exact r.repl k ry
 ·rw[if_neg q,if_neg q];exact Paired.snoc r ⟨rfl,hb,ry⟩
theorem KT.keeps {H H':Hp}{kvs:List (List Key×V)}{xs:List (List Key×Addr×Value)}(r:KT H kvs xs) (ht:∀ b ys,H b=some (.tup ys)→H' b=some (.tup ys)):KT H' kvs xs:=
 Paired.mapP r fun _ _ z=>⟨z.1,ht _ _ z.2.1,z.2.2⟩
section
variable {P:Program}{w:World}{H:Hp}{h:Heap}{a:Addr}
theorem rd_of {u:HO}(ok:HOk P w H h) (e:Rd H a u):ObjOk P w H h a u:=e.ok ok
theorem dk_rd {kvs:List (Key×V)}(ok:HOk P w H h) (e:Rd H a (.dK kvs)):kvs.length≤sizeLine∧(a == sysModules)=false∧∃ vs,KV kvs vs∧h.DictOf (mixKind P w) a vs:=
 show ObjOk P w H h a (.dK kvs) from rd_of ok e
theorem dk_of {kvs:List (Key×V)}(ok:HOk P w H h) (e:H a=some (.dK kvs)):kvs.length≤sizeLine∧(a == sysModules)=false∧∃ vs,KV kvs vs∧h.DictOf (mixKind P w) a vs:=dk_rd ok (.inl e)
theorem key_of {ks:List Key}(ok:HOk P w H h) (e:H a=some (.tup (ks.map kV))):(tupleKind (mixKind P w)).is h ks a:=by
 obtain⟨_,its,r,o,h1,h2,n,h3⟩:=(show ObjOk P w H h a (.tup (ks.map kV)) from ok a _ e)
 exact⟨o,its.toArray,n,h1,h2,h3,by simpa using items_are r⟩
theorem dt_rd {kvs:List (List Key×V)}(ok:HOk P w H h) (e:Rd H a (.dT kvs)):kvs.length≤sizeLine∧(a == sysModules)=false ∧
  ∃ xs,KT H kvs xs∧h.DictOfH (tupleKind (mixKind P w)) a xs:=by
 obtain⟨z,y,xs,r,o,es,ep,h1,h2,h3,h4,h5⟩:=(show ObjOk P w H h a (.dT kvs) from rd_of ok e)
 refine⟨z,y,xs,r,o,es,ep,h1,h2,h3,h4,fun x hx=>?_,h5⟩
 have all:∀ {l:List (List Key×V)} {m:List (List Key×Addr×Value)},KT H l m→∀ x∈m,(tupleKind (mixKind P w)).is h x.1 x.2.1:=by
  intro l m q
  induction q with
  | nil=>intro x hx;exact nomatch hx
  | @cons p q ps qs hq t ih=>
   intro x hx
   rcases List.mem_cons.mp hx with e|hx
   ·subst e
    exact key_of ok (by rw[← hq.1];exact hq.2.1)
   ·exact ih x hx
 exact all r x hx
theorem dt_of {kvs:List (List Key×V)}(ok:HOk P w H h) (e:H a=some (.dT kvs)):kvs.length≤sizeLine∧(a == sysModules)=false ∧
  ∃ xs,KT H kvs xs∧h.DictOfH (tupleKind (mixKind P w)) a xs:=dt_rd ok (.inl e)
end
def DGet (H:Hp) (a:Addr) (y:V) (r:Option V):Prop:=
 (∃ kvs k,Rd H a (.dK kvs)∧y=kV k∧r=valV kvs k)∨∃ kvs k b,Rd H a (.dT kvs)∧y=.ref b∧H b=some (.tup (k.map kV))∧r=valV kvs k
def DPut (H:Hp) (a:Addr) (y v:V) (H':Hp):Prop:=
 (∃ kvs k,H a=some (.dK kvs)∧y=kV k∧kvs.length<sizeLine∧H'=upd H a (.dK (putK kvs k v))) ∨
 ∃ kvs k b,H a=some (.dT kvs)∧y=.ref b∧H b=some (.tup (k.map kV))∧kvs.length<sizeLine∧H'=upd H a (.dT (putK kvs k v))
theorem DGet.k {H:Hp}{a:Addr}{kvs:List (Key×V)}{k:Key}(e:H a=some (.dK kvs)):DGet H a (kV k) (valV kvs k):=.inl ⟨kvs,k,.inl e,rfl,rfl⟩
theorem DGet.t {H:Hp}{a b:Addr}{kvs:List (List Key×V)}{k:List Key}(e:H a=some (.dT kvs)) (eb:H b=some (.tup (k.map kV))):DGet H a (.ref b) (valV kvs k):=.inr ⟨kvs,k,b,.inl e,rfl,eb,rfl⟩
theorem DPut.k {H:Hp}{a:Addr}{kvs:List (Key×V)}{k:Key}{v:V}(e:H a=some (.dK kvs)) (hl:kvs.length<sizeLine):DPut H a (kV k) v (upd H a (.dK (putK kvs k v))):=.inl ⟨kvs,k,e,rfl,hl,rfl⟩
theorem DPut.t {H:Hp}{a b:Addr}{kvs:List (List Key×V)}{k:List Key}{v:V}(e:H a=some (.dT kvs)) (eb:H b=some (.tup (k.map kV))) (hl:kvs.length<sizeLine) :
  DPut H a (.ref b) v (upd H a (.dT (putK kvs k v))):=.inr ⟨kvs,k,b,e,rfl,eb,hl,rfl⟩
section
variable {X:Cx}{pins:List (Addr×Obj)}{σ:St}{H:Hp}{s:Shared}{a:Addr}{y v:V}{u r:Value}{o:Option V}{A:Around}{E:Value→Shared→Prop}
theorem Inv.big (I:Inv X pins σ H s):sysModules<s.heap.objs.size:=by
 have h:mainGlobals<s.heap.objs.size:=(I.mod.glob.keeps I.bk).lt
 exact Nat.lt_trans (by decide) h
theorem d_getItem {Q:Value→Shared→Prop}(hu:A.units+1<cLine) (I:Inv X pins σ H s) (g:DGet H a y (some v)) (ry:RelV y u) (h:∀ w' s',Inv X pins σ H s'→RelV v w'→Q w' s') :
  wpAny (model X.prog X.w) A (getItem (.ref a) u) Q E s:=by
 rcases g with ⟨kvs,k,e,ey,l⟩|⟨kvs,k,b,e,ey,eb,l⟩
 ·subst ey
  obtain⟨z,hd,vs,rel,dd⟩:=dk_rd I.hok e
  obtain⟨w',hw,rw'⟩:=RelO.some_of (v:=v) (o:=valueAt vs k) (by rw[l];exact rel.val k)
  exact wpAny_getItem_of (kV_is ry) dd.mapOf hw (h w' _ (I.tok _) rw')
 ·subst ey
  cases (show u=Value.ref b from ry)
  obtain⟨z,hd,xs,rel,dd⟩:=dt_rd I.hok e
  obtain⟨w',hw,rw'⟩:=RelO.some_of (v:=v) (o:=(atKey xs k).map (·.2)) (by rw[l];exact rel.val k)
  obtain⟨p,hp,hp2⟩:=Option.map_eq_some_iff.mp hw
  refine wpAny_getItem_heap (tupleKind_room_in1 hu) (key_of I.hok eb) dd hp ?_
  rw[hp2]
  exact h w' _ (I.tok _) rw'
theorem d_notIn {Q:Value→Shared→Prop}(hu:A.units+1<cLine) (I:Inv X pins σ H s) (g:DGet H a y o) (ry:RelV y u) (h:∀ s',Inv X pins σ H s'→Q (.bool (!o.isSome)) s') :
  wpAny (model X.prog X.w) A (compareOp .NotIn u (.ref a)) Q E s:=by
 rcases g with ⟨kvs,k,e,ey,l⟩|⟨kvs,k,b,e,ey,eb,l⟩
 ·subst ey
  obtain⟨z,hd,vs,rel,dd⟩:=dk_rd I.hok e
  refine wpAny_notIn_of (kV_is ry) hd dd.mapOf ?_
  rw[← (rel.val k).isSome_eq,← l]
  exact h _ (I.tok _)
 ·subst ey
  cases (show u=Value.ref b from ry)
  obtain⟨z,hd,xs,rel,dd⟩:=dt_rd I.hok e
  refine wpAny_notIn_heap (tupleKind_room_in1 hu) (key_of I.hok eb) hd dd ?_
  have q:=(rel.val k).isSome_eq
  rw[Option.isSome_map] at q
  rw[← q,← l]
  exact h _ (I.tok _)
theorem d_write {h':Heap}{t':Nat}{ob:HO}(I:Inv X pins σ H s) (mu:Mut (H a)) (hs:Heap.SameBut a s.heap h') (he:∃ q,h'.get? a=some q) (new:ObjOk X.prog X.w (upd H a ob) h' a ob) :
  Inv X pins σ (upd H a ob) { s with heap:=h',toks:=t' }:=
 I.write (x:=a) (e:=a) mu (.inl rfl) (fun b q hb z=>(hs.2 b hb).trans z) he new
theorem dk_new {P:Program}{w:World}{H':Hp}{h':Heap}{kvs:List (Key×V)}{vs:List (Key×Value)}(z:kvs.length≤sizeLine) (hd:(a == sysModules)=false) (rel:KV kvs vs) (dd:h'.DictOf (mixKind P w) a vs) :
  ObjOk P w H' h' a (.dK kvs):=⟨z,hd,vs,rel,dd⟩
theorem d_setItem {H':Hp}{Q:Unit→Shared→Prop}(hu:A.units+1<cLine) (I:Inv X pins σ H s) (g:DPut H a y v H') (ry:RelV y u) (rv:RelV v r) (h:∀ s',Inv X pins σ H' s'→Q () s') :
  wpAny (model X.prog X.w) A (setItem (.ref a) u r) Q E s:=by
 rcases g with ⟨kvs,k,e,ey,l,eH⟩|⟨kvs,k,b,e,ey,eb,l,eH⟩
 ·subst ey eH
  obtain⟨z,hd,vs,rel,dd⟩:=dk_of I.hok e
  have hz:vs.length≤sizeLine:=by rw[← rel.length];exact z
  have hl:(putK kvs k v).length≤sizeLine:=by have:=length_putK kvs k v;omega
  refine wpAny_setItem_pairs (hsz:=hz) (kV_is ry) dd fun h' dd' hs=>h _ ?_
  have he:∃ q,h'.get? a=some q:=let ⟨q,_,_,hq,_⟩:=dd';⟨q,hq⟩
  exact d_write I (by rw[e];exact True.intro) hs he (dk_new hl hd (rel.put k rv) dd')
 ·subst ey eH
  cases (show u=Value.ref b from ry)
  obtain⟨z,hd,xs,rel,dd⟩:=dt_of I.hok e
  have hz:xs.length≤sizeLine:=by rw[← Paired.length rel];exact z
  have hl:(putK kvs k v).length≤sizeLine:=by have:=length_putK kvs k v;omega
  refine wpAny_setItem_heap (hsz:=hz) (tupleKind_room_in1 hu) (key_of I.hok eb) dd fun h' dd' hs=>h _ ?_
  obtain⟨q,es,ep,hq,h2,h3,h4,_,h5⟩:=dd'
  refine d_write I (by rw[e];exact True.intro) hs ⟨q,hq⟩ ⟨hl,hd,_,(rel.put k eb rv).keeps fun c ys ec=>?_,q,es,ep,hq,h2,h3,h4,h5⟩
  rw[upd_ne (ne_of ec e (fun z=>nomatch z))]
  exact ec
end
section
variable {X:Cx}{pins:List (Addr×Obj)}{σ:St}{H:Hp}{s:Shared}{a:Addr}{kvs:List (Key×V)}{k:Key}{u:Value}{A:Around}{E:Value→Shared→Prop}
end
def NoSl (i:Expr):Prop:=∀ ov iv,subscripted i false ov iv=operate [ov,iv] (getItem ov iv)
theorem subD_of {prog:Program}{w:World}{A:Around}{E:Value→Shared→Prop}{s:Shared}{env:Env}{value slice:Expr}{pos:Pos}{T id:String}{Q:Value→Shared→Prop}
  (hl:typeLookup (.type T) "__getitem__" = pure (some (.builtin id))) (hs:NoSl slice)
  (h:wpAny (model prog w) A (eval value env) (fun o s₁=>wpAny (model prog w) A (eval slice env) (fun i s₂=>s₂.TypeIs o T∧wpAny (model prog w) A (getItem o i) Q E s₂) E s₁) E s) :
  wpAny (model prog w) A (eval (.Subscript value slice pos) env) Q E s:=by
 refine Subscript_ (wpAny_mono h (fun o s₁ h₁=>wpAny_mono h₁ (fun i s₂ h₂=>?_) fun _ _ x=>x) fun _ _ x=>x)
 obtain⟨hT,h₂⟩:=h₂
 unfold subscriptTail
 refine wpAny_bind ?_
 rw[getitemInPython_of_ne hT.not_modules]
 refine wpAny_bind (wpAny_specialOf hT hl ?_)
 have fin:wpAny (model prog w) A (subscripted slice false o i) (fun r s₃=>wpAny (model prog w) A (letTemporaryGo value o r >>= fun _=>pure r) Q E s₃) E s₂:=by
  rw[hs o i]
  exact wpAny_operating (wpAny_mono h₂ (fun r s₃ h₃=>wpAny_bind (wpAny_letTemporaryGo (wpAny_pure h₃))) fun _ _ x=>x)
 first
  | exact wpAny_pure (wpAny_bind fin)
  | exact wpAny_bind (wpAny_pure (wpAny_bind fin))
  | exact wpAny_bind fin
theorem dict_typeIs {X:Cx}{pins:List (Addr×Obj)}{σ:St}{H:Hp}{s:Shared}{a:Addr}{y:V}{o:Option V}(I:Inv X pins σ H s) (g:DGet H a y o):s.TypeIs (.ref a) "dict":=by
 rcases g with ⟨kvs,k,e,_,_⟩|⟨kvs,k,b,e,_,_,_⟩
 ·obtain⟨_,_,vs,_,dd⟩:=dk_rd I.hok e
  exact dd.typeIs
 ·obtain⟨_,_,xs,_,dd⟩:=dt_rd I.hok e
  exact dd.typeIs
def tDGet (td ty:TE):TE:=fun σ H Q=>td σ H fun x H1=>ty σ H1 fun y H2=>∃ a v,x=.ref a∧DGet H2 a y (some v)∧Q v H2
def tDNotIn (ty td:TE):TE:=fun σ H Q=>ty σ H fun y H1=>td σ H1 fun x H2=>∃ a o,x=.ref a∧DGet H2 a y o∧Q (.bl (!o.isSome)) H2
def sDPut (td ty tv:TE):TS:=fun D σ H=>tv σ H fun v H1=>td σ H1 fun x H2=>ty σ H2 fun y H3=>∃ a H4,x=.ref a∧DPut H3 a y v H4∧D.nx σ H4
section
variable {X:Cx}{o i e value:Expr}{pos pos' tpos:Pos}{td ty tv:TE}
theorem pe_dget (hu:X.A.units+1<cLine) (ho:PE X o td) (hi:PE X i ty) (hs:NoSl i):PE X (.Subscript o i pos) (tDGet td ty):=by
 intro pins s σ H Q I h
 refine subD_of PySem.F.slot_dict_getitem.lookup hs (thn (ho pins s σ H _ I h) fun u s1 ⟨x,H1,I1,rx,q1⟩=>thn (hi pins s1 σ H1 _ I1 q1) fun iv s2 ⟨y,H2,I2,ry,a,v,ex,g,q2⟩=>?_)
 subst ex
 obtain rfl:u=Value.ref a:=rx
 exact⟨dict_typeIs I2 g,d_getItem hu I2 g ry fun w' s3 I3 rw'=>⟨v,H2,I3,rw',q2⟩⟩
theorem pc_dnotin (hu:X.A.units+1<cLine) (hi:PE X i ty) (ho:PE X o td):PC X .NotIn i o (tDNotIn ty td):=by
 intro pins s σ H Q I h
 refine thn (hi pins s σ H _ I h) fun iv s1 ⟨y,H1,I1,ry,q1⟩=>thn (ho pins s1 σ H1 _ I1 q1) fun u s2 ⟨x,H2,I2,rx,a,ov,ex,g,q2⟩=>?_
 subst ex
 obtain rfl:u=Value.ref a:=rx
 exact d_notIn hu I2 g ry fun s3 I3=>⟨.bl (!ov.isSome),H2,I3,rfl,q2⟩
theorem ps_dput (hu:X.A.units+1<cLine) (ho:PE X o td) (hi:PE X i ty) (hv:PE X value tv) (hs:swapsWith value (some (.Subscript o i pos')) pos.line X.env=pure false) :
  PS X (.Assign [.Subscript o i pos'] value pos) (sDPut td ty tv):=by
 intro pins s σ H D I h
 refine wpAny_Assign_Subscript (thn (hv pins s σ H _ I h) fun r s1 ⟨v,H1,I1,rv,q1⟩=>thn (ho pins s1 σ H1 _ I1 q1) fun u s2 ⟨x,H2,I2,rx,q2⟩=>thn (hi pins s2 σ H2 _ I2 q2) fun iv s3 ⟨y,H3,I3,ry,a,H4,ex,g,q3⟩=>?_) hs
 subst ex
 obtain rfl:u=Value.ref a:=rx
 exact d_setItem hu I3 g ry rv fun s4 I4=>⟨σ,H4,I4,q3⟩
end
theorem dk_empty {P:Program}{w:World}{H:Hp}(h:Heap) (hb:sysModules<h.objs.size):ObjOk P w H (h.push { cls:=.type "dict",data:=.dict #[] }) h.objs.size (.dK []):=
 ⟨Nat.zero_le _,beq_eq_false_iff_ne.mpr (Ne.symm (Nat.ne_of_lt hb)),[],.nil,Heap.DictOf.new h⟩
theorem dt_empty {P:Program}{w:World}{H:Hp}(h:Heap) (hb:sysModules<h.objs.size):ObjOk P w H (h.push { cls:=.type "dict",data:=.dict #[] }) h.objs.size (.dT []):=
 ⟨Nat.zero_le _,beq_eq_false_iff_ne.mpr (Ne.symm (Nat.ne_of_lt hb)),[],.nil,_,#[],0,Heap.get?_push_size _ rfl,⟨rfl,rfl,rfl⟩,rfl,rfl,List.nodup_nil⟩
def tDNewK:TE:=fun _ H Q=>∀ p,H p=none→Q (.ref p) (upd H p (.dK []))
def tDNewT:TE:=fun _ H Q=>∀ p,H p=none→Q (.ref p) (upd H p (.dT []))
section
variable {X:Cx}{pos:Pos}
theorem pe_dnewK:PE X (.Dict [] [] pos) tDNewK:=fun pins s σ H Q I h=>
 wpAny_Dict_empty ⟨.ref s.heap.objs.size,_,I.laid (a:=s.heap.objs.size) (o:=.dK []) (t':=s.toks) (fun _ _ q=>Heap.get?_push_of_some _ q) (Nat.le_refl _) (dk_empty s.heap I.big),rfl,h _ (I.hok.fresh (Nat.le_refl _))⟩
theorem pe_dnewT:PE X (.Dict [] [] pos) tDNewT:=fun pins s σ H Q I h=>
 wpAny_Dict_empty ⟨.ref s.heap.objs.size,_,I.laid (a:=s.heap.objs.size) (o:=.dT []) (t':=s.toks) (fun _ _ q=>Heap.get?_push_of_some _ q) (Nat.le_refl _) (dt_empty s.heap I.big),rfl,h _ (I.hok.fresh (Nat.le_refl _))⟩
end
structure M1 (X:Cx) (o:Expr) (m:Str) (apos:Pos) (e:Expr) (cpos:Pos):Prop where
 base:attributeBase o m X.env (eval o X.env)=eval o X.env
 few:((backTo cpos (starEach [e] X.env)).all (fun x=>!x.1) && (backToKw cpos (keywordEach [] X.env)).all (fun x=>x.1.isSome)
  && decide (([e]:List Expr).length+([]:List Keyword).length+(if ([]:List Keyword).isEmpty then 0 else 1)<30))=true
 line:(apos.endLine == cpos.line)=true
 trees:backTo cpos (starEach [e] X.env)=[(false,eval e X.env)]
structure M2 (X:Cx) (o:Expr) (m:Str) (apos:Pos) (e f:Expr) (cpos:Pos):Prop where
 base:attributeBase o m X.env (eval o X.env)=eval o X.env
 few:((backTo cpos (starEach [e,f] X.env)).all (fun x=>!x.1) && (backToKw cpos (keywordEach [] X.env)).all (fun x=>x.1.isSome)
  && decide (([e,f]:List Expr).length+([]:List Keyword).length+(if ([]:List Keyword).isEmpty then 0 else 1)<30))=true
 line:(apos.endLine == cpos.line)=true
 trees:backTo cpos (starEach [e,f] X.env)=[(false,eval e X.env),(false,eval f X.env)]
def IsD (H:Hp) (a:Addr):Prop:=(∃ kvs,Rd H a (.dK kvs))∨∃ kvs,Rd H a (.dT kvs)
theorem isD_at {X:Cx}{pins:List (Addr×Obj)}{σ:St}{H:Hp}{s:Shared}{a:Addr}(I:Inv X pins σ H s) (d:IsD H a) :
  s.TypeIs (.ref a) "dict" ∧ (∀ b,Value.ref a=.ref b→∃ ob,s.heap.get? b=some ob∧ob.dict=none)∧(a == sysModules)=false:=by
 rcases d with ⟨kvs,e⟩|⟨kvs,e⟩
 ·obtain⟨_,hd,vs,_,dd⟩:=dk_rd I.hok e
  refine⟨dd.typeIs,fun b q=>?_,hd⟩
  cases q
  obtain⟨ob,_,_,h1,h2,_⟩:=dd
  exact⟨ob,h1,h2.2.1⟩
 ·obtain⟨_,hd,xs,_,dd⟩:=dt_rd I.hok e
  refine⟨dd.typeIs,fun b q=>?_,hd⟩
  cases q
  obtain⟨ob,_,_,h1,h2,_⟩:=dd
  exact⟨ob,h1,h2.2.1⟩
section
variable {X:Cx}{pins:List (Addr×Obj)}{σ:St}{H:Hp}{s:Shared}{a:Addr}{y d:V}{u r:Value}{o:Option V}{A:Around}{E:Value→Shared→Prop}
theorem d_get2 {Q:Value→Shared→Prop}(hu:A.units+1<cLine) (I:Inv X pins σ H s) (g:DGet H a y o) (ry:RelV y u) (rd:RelV d r) (h:∀ w' s',Inv X pins σ H s'→RelV (o.getD d) w'→Q w' s') :
  wpAny (model X.prog X.w) A (call (.builtin "dict.get") [.ref a,u,r]) Q E s:=by
 rcases g with ⟨kvs,k,e,ey,l⟩|⟨kvs,k,b,e,ey,eb,l⟩
 ·subst ey
  obtain⟨z,hd,vs,rel,dd⟩:=dk_rd I.hok e
  refine call_meetsIn PySem.F.slot_dict_get dd.typeIs PySem.F.entry_dict_get (PySem.F.args_dict_get_3 _ _ _) (meets_dict_get_default (mixKind X.prog X.w) a (kV_is ry) hd r) ⟨_,dd.mapOf,h _ _ (I.tok _) ?_⟩
  rw[l]
  exact(rel.val k).getD rd
 ·subst ey
  cases (show u=Value.ref b from ry)
  obtain⟨z,hd,xs,rel,dd⟩:=dt_rd I.hok e
  refine call_meetsIn PySem.F.slot_dict_get dd.typeIs PySem.F.entry_dict_get (PySem.F.args_dict_get_3 _ _ _) (meetsH_dict_get_default (tupleKind (mixKind X.prog X.w)) a b hd r) ⟨tupleKind_room_in1 hu,k,xs,key_of I.hok eb,dd,h _ _ (I.tok _) ?_⟩
  rw[l]
  exact(rel.val k).getD rd
end
def tDGet2 (td ty tx:TE):TE:=fun σ H Q=>td σ H fun x H1=>∃ a,x=.ref a∧IsD H1 a∧ty σ H1 fun y H2=>tx σ H2 fun z H3=>∃ o,DGet H3 a y o∧Q (o.getD z) H3
section
variable {X:Cx}{o e f:Expr}{apos cpos:Pos}{td ty tx:TE}
theorem pe_dget2 (hu:X.A.units+1<cLine) (ho:PE X o td) (he:PE X e ty) (hf:PE X f tx) (m:M2 X o "get" apos e f cpos):PE X (.Call (.Attribute o "get" apos) [e,f] [] cpos) (tDGet2 td ty tx):=by
 intro pins s σ H Q I h
 refine wpAny_Call_method m.base m.few m.line PySem.F.plainAttrs_dict PySem.F.slot_dict_get PySem.F.type_dict_get (thn (ho pins s σ H _ I h) fun u s1 ⟨x,H1,I1,rx,a,ex,d,q1⟩=>?_)
 subst ex
 obtain rfl:u=Value.ref a:=rx
 obtain⟨t1,t2,_⟩:=isD_at I1 d
 refine⟨t1,t2,?_⟩
 rw[m.trees]
 refine Calls.callWith_builtin rfl (Calls.evalArgs_plain (Calls.spliced_cons (thn (he pins s1 σ H1 _ I1 q1) fun iv s2 ⟨y,H2,I2,ry,q2⟩=>
  Calls.spliced_cons (thn (hf pins s2 σ H2 _ I2 q2) fun fv s3 ⟨z,H3,I3,rz,ov,g,q3⟩=>Calls.spliced_nil ?_))))
 exact d_get2 hu I3 g ry rz fun w' s4 I4 rw'=>⟨_,H3,I4,rw',q3⟩
end
section
variable {X:Cx}{pins:List (Addr×Obj)}{σ:St}{H:Hp}{s:Shared}{a:Addr}{kvs:List (Key×V)}{A:Around}{E:Value→Shared→Prop}
end
section
variable {X:Cx}{pins:List (Addr×Obj)}{σ:St}{H:Hp}{s:Shared}{a:Addr}{y:V}{u:Value}{A:Around}{E:Value→Shared→Prop}
end
end L2
namespace Att
open PySem PySem.W PySem.Calls PyProof.Rows
theorem ints_of_wellAll {P:Params}{h:Heap}:∀ (ns:List Int) (vs:List Value),WellAll P h vs (ns.map WData.int)→IntsAre vs ns:=by
 intro ns
 induction ns with
 | nil=>
  intro vs w
  rw[List.map_nil] at w
  cases w
  exact .nil
 | cons n ns ih=>
  intro vs w
  rw[List.map_cons] at w
  cases w with
  | cons a b=>
   cases a
   exact .cons _ _ (ih _ b)
theorem script_of {l:OpenLaw}{n:Nat}(hn:l.most=some n) {P:Params}{h:Heap}{args:List WData}{vals:List Value}
  (hpre:l.row.toRowW.claim.pre args=true) (hwl:WellAll P h vals args) :
  ∃ a vs ns,vals=[Value.ref a]∧args=[WData.list (ns.map WData.int)]∧h.get? a=some { cls:=.type "list",data:=.seq vs.toArray }∧IntsAre vs ns∧ns.length≤n:=by
 have hsh:WShape.hasAll [] args [.list .int]=true:=(pre_splitW hpre).1
 have hc:l.pre.holds [] { args:=args }=true:=(pre_splitW hpre).2
 obtain⟨d,r,rfl,h1,h2⟩:=hasAllW_cons hsh
 obtain rfl:=hasAllW_nil h2
 obtain⟨xs,rfl,h3⟩:=hasW_list h1
 obtain⟨ns,rfl⟩:=items_int h3
 have hlen:ns.length≤n:=by
  unfold OpenLaw.pre at hc
  have h4:(WTm.not (.lt (.lit (.int (n:Int))) (.len (.arg 0)))).holds [] { args:=[.list (ns.map .int)] }=true:=by
   have h4:=(holds_andW hc).1
   rw[hn] at h4
   exact h4
  have h5:=condW_of h4 (w_not (w_lt w_lit (w_len_list (w_arg rfl))))
  rw[List.length_map] at h5
  refine Nat.le_of_not_lt fun q=>?_
  have q':(n:Int)<((ns.length:Nat):Int):=by omega
  first
   | (rw[decide_eq_true q'] at h5;exact absurd h5 (by decide))
   | (simp at h5;omega)
 cases hwl with
 | cons w1 w2=>
  cases w2
  cases w1 with
  | list ho hall=>exact⟨_,_,ns,rfl,rfl,ho,ints_of_wellAll ns _ hall,hlen⟩
theorem post_true (l:OpenLaw) (args:List WData):l.row.toRowW.claim.post args (.bool true) args=true:=
 postW_of (r:=l.row.toRowW) (X:=(true == true))
  (show WShape.has [] (.bool true) .bool=true by first|rfl|decide|simp[WShape.has,WShape.arms,WShape.armsAll])
  (show (WTm.eq .res (.lit (.bool true))).value [] { args:=args,res:=some (.bool true),after:=args }=some (.bool (true == true)) from w_eq_bool (w_res rfl) w_lit) rfl
theorem attach_call {l:OpenLaw}{n:Nat}{q:Program}{loose:List Str}{XP:(Str→Option Value)→Heap→Prop}{YP:World→Heap→Prop}{d:DefRec}
  (hn:l.most=some n) (hdf:d.params.defaults=[])
  (call:∀ (w:World) (s₀ s₁:Shared) (mg mb:Str→Option Value) (fa:Addr) (o:Obj) (pm cd doc:Value) (a:Addr) (vs:List Value) (ns:List Int),
   Ground q loose [] XP w s₀ mg mb s₁.heap→YP w s₁.heap →
   s₁.heap.get? fa=some o→o.data=.func (docDef d.name d.params d.body d.scope pm cd doc)→s₁.heap.CodeRec cd d.name→mg d.name=some (.ref fa) →
   s₁.heap.get? a=some { cls:=.type "list",data:=.seq vs.toArray }→IntsAre vs ns→ns.length≤n→s₁.gens = #[] →
   codeAny (model l.prog w) callerA (.call (.ref fa) ⟨[.ref a],[]⟩) (fun r s'=>r=.ok (.ret (.bool true))∧OldK s₁.heap s'.heap∧s'.os=s₁.os∧AllBare s'.gens) s₁) :
  WalkO q loose XP YP l.row.toRowW d [] (fun f vs=>PySem.call f vs):=by
 intro w s₀ s₁ mg mb G Y fa o pm cd doc dV kV ho hd hcd hD hmg hg args vals as hpre hlay hrd hwl hlo
 obtain rfl:dV=.none:=Dflts.none hD hdf
 obtain rfl:kV=.none:=Dflts.noKw hD
 obtain⟨a,vs,ns,rfl,rfl,hobj,hints,hlen⟩:=script_of hn hpre hwl
 refine enter_call (codeAny_mono (call w s₀ s₁ mg mb fa o pm cd doc a vs ns G Y ho (fd_plain hd) hcd hmg hobj hints hlen hg) fun r s' hq=>?_)
 obtain⟨rfl,h2,h3,h4⟩:=hq
 exact⟨.inl ⟨.bool true,.bool true,[],rfl,fun _=>rfl,.bool true,post_true l _,fun _=>⟨List.Pairwise.nil,fun _ hm=>(nomatch hm)⟩⟩,h2,h3,h4⟩
section
variable {prog:Program}{w:World}{A:Around}{E:Value→Shared→Prop}{s:Shared}{K:Frag}
def ledger (h:Heap) (L d:Addr):List (Addr×Obj):=(List.range h.objs.size).filterMap fun a=>if a=L∨a=d then none else (h.get? a).map fun o=>(a,o)
end
end Att
namespace L2
open PySem PySem.Spec PyProof.Rows
theorem vals_ints:∀ {vs:List Value}{ns:List Int},IntsAre vs ns→Vals (ns.map V.int) vs
 | _,_,.nil=>.nil
 | _,_,.cons n t h=>.cons ⟨t,rfl⟩ (vals_ints h)
end L2
namespace L2
open PySem PySem.Spec PyProof.Rows
end L2
namespace L2
open PySem PySem.Spec PyProof.Rows
def inClass (s:Stmt) (j:Nat):Stmt:=match s with
 | .ClassDef _ _ _ body _ _ _ _ _ _ _=>body.getD j (.Pass ⟨0,0,0,0⟩)
 | _=>.Pass ⟨0,0,0,0⟩
def defArgs (s:Stmt):Arguments:=match s with
 | .FunctionDef _ a _ _ _ _ _ _ _ _=>a
 | _=>{ posonlyargs:=[],args:=[],vararg:=none,kwonlyargs:=[],kw_defaults:=[],kwarg:=none,defaults:=[] }
def defBody (s:Stmt):List Stmt:=match s with
 | .FunctionDef _ _ b _ _ _ _ _ _ _=>b
 | _=>[]
def defScope (s:Stmt):Scope:=match s with
 | .FunctionDef _ _ _ _ _ _ sc _ _ _=>sc
 | _=>{ kind:=.function,names:=[],isGenerator:=false,isCoroutine:=false }
structure Fun (K:PySem.W.Frag) (x qual:Str) (st:Stmt) (f:Addr) (fd:FuncData):Prop where
 ex:∃ (oc:Value) (od:Option Addr) (kV doc pm:Value) (an:Option Addr) (cdv ct:Value) (osl:Array (Option Value)),
  fd=PySem.W.fnOf x qual (defArgs st) (defBody st) (defScope st) .none kV doc pm an cdv ct∧K.lookup f=some ⟨oc,od,.func fd,osl⟩∧PySem.W.codeIn K cdv qual=true
 kp:PySem.W.keepIn K (.ref f)=true
section
variable {P:Program}{w:World}{K:PySem.W.Frag}{mg:Str→Option Value}{base:Heap}
theorem Fun.binds {x qual:Str}{st:Stmt}{f:Addr}{fd:FuncData}{ps:List Str}(F:Fun K x qual st f fd)
  (h:∀ (kV doc pm:Value) (an:Option Addr) (cdv ct:Value) (us:List Value),us.length=ps.length→bindArgs (PySem.W.fnOf x qual (defArgs st) (defBody st) (defScope st) .none kV doc pm an cdv ct) ⟨us,[]⟩=pure (ps.zip us)):Binds K fd ps []:=by
 obtain⟨oc,od,kV,doc,pm,an,cdv,ct,osl,rfl,lk,hcd⟩:=F.ex
 exact .all (h kV doc pm an cdv ct)
theorem fun_mk {x qual:Str}{st:Stmt}{f:Addr}{oc:Value}{od an:Option Addr}{osl:Array (Option Value)}{kV doc pm cdv ct:Value}(l:K.lookup f=some ⟨oc,od,.func (PySem.W.fnOf x qual (defArgs st) (defBody st) (defScope st) .none kV doc pm an cdv ct),osl⟩)
  (c:PySem.W.codeIn K cdv qual=true) (k:PySem.W.keepIn K (.ref f)=true):Fun K x qual st f (PySem.W.fnOf x qual (defArgs st) (defBody st) (defScope st) .none kV doc pm an cdv ct):=⟨⟨oc,od,kV,doc,pm,an,cdv,ct,osl,rfl,l,c⟩,k⟩
end
theorem hu_of {A:Around}{k:Nat}(hr:Room k A):A.units+1<cLine:=Nat.lt_of_le_of_lt (Nat.add_le_add_left (by decide:1≤64) _) hr.units
theorem small1000 {n:Nat}(h:n≤1000):n<sizeLine:=Nat.lt_of_le_of_lt h (by decide)
section
variable {X:Cx}
theorem pv (i:Nat) {x:Str}{pos:Pos}(hN:X.N[i]? = some x:=by rfl) (hv:Vis X.env.scope x:=by first|exact Or.inl rfl|exact Or.inr (Or.inl rfl)|exact Or.inr (Or.inr rfl)) (hd:(x == ("__debug__" : Str))=false:=by decide)
  (hcd:(x == ("__classdict__" : Str))=false:=by decide):PE X (.Name x pos) (tVar i):=pe_var hN hv hd hcd
end
theorem iteF {A B:Prop}(h:B):if false=true then A else B:=by
 rw[if_neg Bool.false_ne_true]
 exact h
theorem iteT {A B:Prop}(h:A):if true=true then A else B:=by
 rw[if_pos rfl]
 exact h
theorem ite2 {c A B:Prop} [Decidable c] (h1:c→A) (h2:¬ c→B):if c then A else B:=by
 by_cases h:c
 ·rw[if_pos h]
  exact h1 h
 ·rw[if_neg h]
  exact h2 h
def Same (H H':Hp):Prop:=∀ b o,H b=some o→H' b=some o
theorem Same.refl (H:Hp):Same H H:=fun _ _ h=>h
theorem Same.trans {H H1 H2:Hp}(a:Same H H1) (b:Same H1 H2):Same H H2:=fun c o h=>b c o (a c o h)
theorem Same.free {H H':Hp}(e:Same H H') {l:Addr}(h:H' l=Option.none):H l=Option.none:=by
 cases q:H l with
 | none=>rfl
 | some o=>
  rw[e l o q] at h
  cases h
theorem Same.seq {K:PySem.W.Frag}{H H':Hp}{a:Addr}{xs:List V}(e:Same H H') (h:SqL K H a xs):SqL K H' a xs:=by
 rcases h with (h|⟨o,h⟩)|h
 ·exact .inl (.inl (e _ _ h))
 ·exact .inl (.inr ⟨o,e _ _ h⟩)
 ·exact .inr h
end L2
namespace L2
open PySem PySem.Spec PyProof.Rows
section
variable {X:Cx}
end
section
variable {κ:Type} [DecidableEq κ]
theorem valV_not {kvs:List (κ×V)}{k:κ}(h:valV kvs k=none):¬ k∈kvs.map (·.1):=by
 intro m
 obtain⟨p,hp,e⟩:=List.mem_map.mp m
 have q:(kvs.any fun kv=>decide (kv.1=k))=true:=List.any_eq_true.mpr ⟨p,hp,decide_eq_true e⟩
 rw[valV_any,h] at q
 exact absurd q (by simp)
end
end L2
set_option Elab.async false
set_option linter.all false
set_option maxRecDepth 100000
namespace L2
open PySem PySem.Spec PyProof.Rows
theorem closure_some {sc:Scope}{env:Env}(h:∀ y∈sc.names,y.2=.free→∃ c,env.cells.lookup y.1=some c) :
  ∃ cl,closureFor sc env=pure cl∧(∀ x c,cl.lookup x=some c→env.cells.lookup x=some c)∧∀ y∈sc.names,y.2=.free→∃ c,cl.lookup y.1=some c:=by
 have go:∀ (names:List (Str×NameKind)) (cs:List (Str×Addr)),(∀ y∈names,y.2=.free→∃ c,env.cells.lookup y.1=some c)→(∀ x c,cs.lookup x=some c→env.cells.lookup x=some c) →
   ∃ cl,(forIn names cs fun (x:Str×NameKind) (r:List (Str×Addr))=>(if (x.2 == NameKind.free)=true then do let c ← cellOf env x.1;pure (ForInStep.yield ((x.1,c)::r)) else pure (ForInStep.yield r):Sem (ForInStep (List (Str×Addr)))))=pure cl ∧
    (∀ x c,cl.lookup x=some c→env.cells.lookup x=some c)∧(∀ y∈names,y.2=.free→∃ c,cl.lookup y.1=some c)∧∀ x c,cs.lookup x=some c→∃ c',cl.lookup x=some c':=by
  intro names
  induction names with
  | nil=>intro cs _ hcs;exact⟨cs,rfl,hcs,fun y hy=>by simp at hy,fun x c e=>⟨c,e⟩⟩
  | cons y r ih=>
   intro cs hn hcs
   by_cases hy:y.2=.free
   ·obtain⟨c,hc⟩:=hn y List.mem_cons_self hy
    obtain⟨cl,e,h1,h2,h3⟩:=ih ((y.1,c)::cs) (fun z hz=>hn z (List.mem_cons_of_mem _ hz)) (fun x c' e=>by
     rw[List.lookup_cons] at e
     by_cases hx:x=y.1
     ·subst hx;simp at e;subst e;exact hc
     ·have:(x == y.1)=false:=by simpa using hx
      rw[this] at e;exact hcs x c' e)
    refine⟨cl,?_,h1,fun z hz hf=>?_,fun x c' e'=>?_⟩
    ·rw[List.forIn_cons]
     have e1:(y.2 == NameKind.free)=true:=by rw[hy];rfl
     have e2:cellOf env y.1=pure c:=by unfold cellOf;rw[hc]
     rw[e1,e2]
     exact e
    ·rcases List.mem_cons.mp hz with rfl|hz
     ·exact h3 z.1 c (by simp)
     ·exact h2 z hz hf
    ·by_cases hx:x=y.1
     ·subst hx;exact h3 y.1 c (by simp)
     ·have:(x == y.1)=false:=by simpa using hx
      exact h3 x c' (by rw[List.lookup_cons,this];exact e')
   ·obtain⟨cl,e,h1,h2,h3⟩:=ih cs (fun z hz=>hn z (List.mem_cons_of_mem _ hz)) hcs
    refine⟨cl,?_,h1,fun z hz hf=>?_,h3⟩
    ·rw[List.forIn_cons]
     have e1:(y.2 == NameKind.free)=false:=by simpa using hy
     rw[e1]
     exact e
    ·rcases List.mem_cons.mp hz with rfl|hz
     ·exact absurd hf hy
     ·exact h2 z hz hf
 obtain⟨cl,e,h1,h2,_⟩:=go sc.names [] h (fun x c e=>by simp at e)
 refine⟨cl,?_,h1,h2⟩
 have e2:closureFor sc env=((forIn sc.names [] fun (x:Str×NameKind) (r:List (Str×Addr))=>(if (x.2 == NameKind.free)=true then do let c ← cellOf env x.1;pure (ForInStep.yield ((x.1,c)::r)) else pure (ForInStep.yield r):Sem (ForInStep (List (Str×Addr))))) >>= fun s=>pure s):=rfl
 rw[e2,e]
 rfl
end L2
namespace L2
open PySem PySem.Spec PyProof.Rows
theorem relabel_lookup {sc:Scope}{env:Env}{x:Str}:(relabel sc env).names.lookup x =
  (sc.names.lookup x).map fun k=>if (k == NameKind.free && env.scope.kind == .function && env.kindOf x == some .cell)=true then NameKind.cell else k:=by
 have go:∀ names:List (Str×NameKind),(names.map fun (n,k)=>if (k == NameKind.free && env.scope.kind == .function && env.kindOf n == some .cell)=true then (n,NameKind.cell) else (n,k)).lookup x =
   (names.lookup x).map fun k=>if (k == NameKind.free && env.scope.kind == .function && env.kindOf x == some .cell)=true then NameKind.cell else k:=by
  intro names
  induction names with
  | nil=>rfl
  | cons y r ih=>
   obtain⟨n,k⟩:=y
   rw[List.map_cons,List.lookup_cons]
   show List.lookup x ((if (k == NameKind.free && env.scope.kind == .function && env.kindOf n == some .cell)=true then (n,NameKind.cell) else (n,k))::_)=_
   by_cases hx:x=n
   ·subst hx
    by_cases hc:(k == NameKind.free && env.scope.kind == .function && env.kindOf x == some .cell)=true
    ·rw[if_pos hc];simp only[List.lookup_cons,beq_self_eq_true,Option.map_some];rw[if_pos hc]
    ·rw[if_neg hc];simp only[List.lookup_cons,beq_self_eq_true,Option.map_some];rw[if_neg hc]
   ·have hb:(x == n)=false:=by simpa using hx
    by_cases hc:(k == NameKind.free && env.scope.kind == .function && env.kindOf n == some .cell)=true
    ·rw[if_pos hc];simp only[List.lookup_cons,hb];exact ih
    ·rw[if_neg hc];simp only[List.lookup_cons,hb];exact ih
 exact go sc.names
structure CompOk (N:List Str) (esc sc:Scope) (N':List Str) (k:Nat):Prop where
 kind:sc.kind=.function
 nocell:∀ y∈sc.names,y.2≠.cell
 names:∀ y∈sc.names,y.2=.local→sc.names.lookup y.1=some .local
 free:∀ y∈sc.names,y.2=.free→esc.names.lookup y.1=some .cell∨esc.names.lookup y.1=some .free
 len:N'.length=N.length+k
 old:∀ (i:Nat) (x:Str),i<N.length→N'[i]? = some x→Vis sc x→N[i]? = some x∧sc.names.lookup x=some .free
def compChk (N:List Str) (esc sc:Scope) (N':List Str) (k:Nat):Bool:=
 (sc.kind == .function) && (sc.names.all fun y=>y.2 != .cell) && (sc.names.all fun y=>y.2 != .local || sc.names.lookup y.1 == some .local) &&
 (sc.names.all fun y=>y.2 != .free || (esc.names.lookup y.1 == some .cell || esc.names.lookup y.1 == some .free)) && (N'.length == N.length+k) &&
 ((N'.zip N).all fun p=>match sc.names.lookup p.1 with
  | some .local=>false
  | some .cell=>false
  | some .free=>p.1 == p.2
  | _=>true)
theorem CompOk.of {N:List Str}{esc sc:Scope}{N':List Str}{k:Nat}(h:compChk N esc sc N' k=true):CompOk N esc sc N' k:=by
 unfold compChk at h
 simp only[Bool.and_eq_true,List.all_eq_true,beq_iff_eq,Bool.or_eq_true,bne_iff_ne,ne_eq] at h
 obtain⟨⟨⟨⟨⟨h1,h2⟩,h3⟩,h4⟩,h5⟩,h6⟩:=h
 refine⟨h1,fun y hy=>h2 y hy,fun y hy e=>?_,fun y hy e=>?_,h5,fun i x hi hx hv=>?_⟩
 ·rcases h3 y hy with z|z
  ·exact absurd e z
  ·exact z
 ·rcases h4 y hy with z|z
  ·exact absurd e z
  ·exact z
 ·have hlt:i<(N'.zip N).length:=by rw[List.length_zip];omega
  have hm:(x,N[i])∈N'.zip N:=by
   rw[List.mem_iff_getElem?]
   refine⟨i,?_⟩
   rw[List.getElem?_zip_eq_some]
   exact⟨hx,by simp[hi]⟩
  have q:=h6 _ hm
  rcases hv with z|z|z
  ·rw[z] at q;exact absurd q (by simp)
  ·rw[z] at q;exact absurd q (by simp)
  ·rw[z] at q
   have q':x=N[i]:=by simpa using q
   refine⟨?_,z⟩
   rw[List.getElem?_eq_getElem hi,← q']
def compCx (X:Cx) (sc:Scope) (N':List Str) (cl:List (Str×Addr)) (C:Addr) (s₂:Shared) (H2:Hp) (fp:List Addr):Cx:=
 { X with N:=N',s₀:=s₂,H₀:=H2,env:=compEnvC sc cl C X.env,outer:=X.stack,ex:=fp,fn:=fun _=>false,pn:=[],xe:=fun _ _=>False }
section
variable {X:Cx}{pins:List (Addr×Obj)}{σ:St}{H:Hp}{s₂:Shared}{sc:Scope}{N':List Str}{k:Nat}{cl:List (Str×Addr)}{C acc:Addr}{fp:List Addr}{h₁:Heap}{tk n:Nat}
theorem vis_relabel {x:Str}(h:Vis (relabel sc X.env) x):Vis sc x:=by
 unfold Vis at h ⊢
 rw[relabel_lookup] at h
 cases e:sc.names.lookup x with
 | none=>rw[e] at h;simp at h
 | some k=>
  rw[e] at h
  simp only[Option.map_some,Option.some.injEq] at h ⊢
  split at h
  ·rename_i hc
   simp only[Bool.and_eq_true,beq_iff_eq] at hc
   exact .inr (.inr hc.1.1)
  ·exact h
theorem comp_inv (ok:CompOk X.N X.env.scope sc N' k) (hcl:∀ x c,cl.lookup x=some c→X.env.cells.lookup x=some c) (hfr:∀ y∈sc.names,y.2=.free→∃ c,cl.lookup y.1=some c)
  (I:Inv X pins σ H s₂) (hfp:∀ b∈fp,FpOk X pins H b) (hob:∀ b∈fp,∃ o,s₂.heap.get? b=some o)
  (hacc:s₂.heap.objs.size≤acc) (hC:s₂.heap.objs.size≤C) (hne:C≠acc) (ns:h₁.Ns C fun _=>none) (kp:∀ b o,s₂.heap.get? b=some o→h₁.get? b=some o)
  (ha:h₁.get? acc=some { cls:=.type "list",data:=.seq #[] n }) :
  Inv (compCx X sc N' cl C s₂ H fp) [] (σ++List.replicate k none) (upd H acc (.lst [])) { s₂ with heap:=h₁,toks:=tk }:=by
 have hfresh:=I.hok.fresh hacc
 have hfreshC:=I.hok.fresh hC
 have hlook:∀ x,((compCx X sc N' cl C s₂ H fp).env.kindOf x=some .cell∨(compCx X sc N' cl C s₂ H fp).env.kindOf x=some .free)→sc.names.lookup x=some .free:=fun x hx=>by
  have hx':(relabel sc X.env).names.lookup x=some .cell∨(relabel sc X.env).names.lookup x=some .free:=hx
  have hv:Vis sc x:=vis_relabel (X:=X) (.inr hx')
  rcases hv with z|z|z
  ·rw[relabel_lookup,z] at hx';simp at hx'
  ·exact absurd rfl (ok.nocell _ (PySem.mem_of_lookup z))
  ·exact z
 have hexf:∀ b∈fp,b<s₂.heap.objs.size:=fun b hb=>let ⟨o,e⟩:=hob b hb;Heap.lt_size e
 refine⟨⟨I.ok.mod,ok.kind,I.ok.glob,I.ok.blt,hC,fun x y c h1 h2=>I.ok.inj x y c (hcl x c h1) (hcl y c h2),fun x hx=>hfr _ (PySem.mem_of_lookup (hlook x hx)) rfl,fun x c h _=>absurd (show false=true from h) (by simp),
   I.ok.hd,I.ok.frames,.inl rfl,fun b hb=>⟨Nat.ne_of_lt (Nat.lt_of_lt_of_le (hexf b hb) hC),fun x c e=>(hfp b hb).2.2.2.2.1 x c (hcl x c e)⟩,I.bs,Nat.le_trans I.ok.bsz I.sz,fun b o e hb=>?_,fun b hb z=>?_,I.stack,I.stkFree⟩,
  rfl,I.bare,Un.laid kp hacc hfresh,⟨_,ns,fun i x v e1 e2 e3=>?_⟩,fun x c e=>?_,?_,fun x c e=>?_,fun p hp=>absurd (show p∈([]:List (Addr×Obj)) from hp) (by simp),I.hok.laid kp hacc ⟨Nat.zero_le _,[],n,.nil,ha⟩,?_⟩
 ·rcases (hfp b hb).2.2.2.1 with z|z
  ·exact I.ok.noex b o e z
  ·exact absurd (Nat.lt_of_lt_of_le (Heap.lt_size e) (Nat.le_trans I.ok.bsz z)) (Nat.lt_irrefl _)
 ·rcases List.mem_cons.mp (I.stkSub b z) with q|q
  ·exact(hfp b hb).2.1 q
  ·exact(hfp b hb).2.2.1 q
 ·have hi:i<σ.length:=by
   by_cases hi:i<σ.length
   ·exact hi
   ·rw[List.getElem?_append_right (by omega),List.getElem?_replicate] at e2
    split at e2<;>cases e2
  rw[List.getElem?_append_left hi] at e2
  have hiN:i<X.N.length:=by rw[← I.len];exact hi
  obtain⟨q1,q2⟩:=ok.old i x hiN e1 (vis_relabel (X:=X) e3)
  have hk:=ok.free _ (PySem.mem_of_lookup q2) rfl
  obtain⟨m,hn,hl⟩:=I.loc
  obtain⟨u,ru,look⟩:=hl i x v q1 e2 (.inr hk)
  refine⟨u,ru,.inr ⟨?_,?_⟩⟩
  ·show (relabel sc X.env).names.lookup x=some .cell∨(relabel sc X.env).names.lookup x=some .free
   rw[relabel_lookup,q2]
   simp only[Option.map_some,Option.some.injEq]
   split
   ·exact .inl rfl
   ·exact .inr rfl
  ·obtain⟨c,hc⟩:=hfr _ (PySem.mem_of_lookup q2) rfl
   rcases look with ⟨z,_⟩|⟨_,c',e',z⟩
   ·rcases hk with hk|hk
    ·have z':X.env.scope.names.lookup x=some .local:=z
     rw[hk] at z';cases z'
    ·have z':X.env.scope.names.lookup x=some .local:=z
     rw[hk] at z';cases z'
   ·have e'':=hcl x c hc
    rw[e'] at e'';cases e''
    obtain⟨o,ho,hd⟩:=z
    exact⟨_,hc,o,kp _ _ ho,hd⟩
 ·obtain⟨v,o,ho,hd⟩:=I.cell x c (hcl x c e)
  exact⟨v,o,kp _ _ ho,hd⟩
 ·show upd H acc (.lst []) C=none
  rw[upd_ne hne];exact hfreshC
 ·have hc:=hcl x c e
  obtain⟨v,z⟩:=I.cell x c hc
  have hlt:c<s₂.heap.objs.size:=z.lt
  show upd H acc (.lst []) c=none∨(false=false∧∃ o u,upd H acc (.lst []) c=some (.frz o u))
  rw[upd_ne (Nat.ne_of_lt (Nat.lt_of_lt_of_le hlt hacc))]
  exact(I.freeC x c hc).imp id fun z=>⟨rfl,z.2⟩
 ·show (σ++List.replicate k none).length=N'.length
  rw[List.length_append,List.length_replicate,I.len,ok.len]
end
end L2
namespace L2
open PySem PySem.Spec PyProof.Rows
def PTs (X:Cx) (ifs:List Expr) (t:TT):Prop:=(ifs=[]∧∀ σ H Q,t σ H Q→Q true H)∨∃ c,ifs=[c]∧PT X c t
def tYes:TT:=fun _ H Q=>Q true H
theorem pts_nil {X:Cx}:PTs X [] tYes:=.inl ⟨rfl,fun _ _ _ h=>h⟩
theorem pts_one {X:Cx}{c:Expr}{t:TT}(h:PT X c t):PTs X [c] t:=.inr ⟨c,rfl,h⟩
abbrev CompR (J:It) (k:Nat) (g:TG) (tc:TT) (te:TE) (σ:St) (H1:Hp) (Q:VK):Prop:=
 ∀ acc,H1 acc=none→∃ W:Nat→Nat→St→List V→Hp→Prop,(∃ m,W 0 m (σ++List.replicate k none) [] (upd H1 acc (.lst []))) ∧
  ∀ i m σ2 ys H2,W i m σ2 ys H2 →
   (J.stop i H2∧Q (.ref acc) H2) ∨
   (J.go i H2∧ys.length<sizeLine∧∀ x H3,J.yld i H2 x H3→g x σ2 H3 fun σ4 H4=>tc σ4 H4 fun b H5=>
    if b=true then te σ4 H5 fun v H6=>H6 acc=some (.lst ys)∧∃ m',m'<m∧W (i+1) m' σ4 (ys++[v]) (upd H6 acc (.lst (ys++[v])))
    else ∃ m',m'<m∧W (i+1) m' σ4 ys H5)
def tComp (wi:TI) (k:Nat) (g:TG) (tc:TT) (te:TE):TE:=fun σ H Q=>wi σ H fun J H1=>CompR J k g tc te σ H1 Q
section
variable {X:Cx}{elt tg iter:Expr}{ifs:List Expr}{sc:Scope}{pos:Pos}{N':List Str}{k:Nat}{wi:TI}{g:TG}{tc:TT}{te:TE}{cl:List (Str×Addr)}
set_option maxHeartbeats 800000 in
theorem comp_block (hc:X.calm=true) (ok:CompOk X.N X.env.scope sc N' k) (hcl:∀ x c,cl.lookup x=some c→X.env.cells.lookup x=some c) (hfr:∀ y∈sc.names,y.2=.free→∃ c,cl.lookup y.1=some c)
  (hb:∀ cl C s₂ H2 fp,PG (compCx X sc N' cl C s₂ H2 fp) tg g∧PTs (compCx X sc N' cl C s₂ H2 fp) ifs tc∧PE (compCx X sc N' cl C s₂ H2 fp) elt te)
  {pins:List (Addr×Obj)}{σ:St}{H:Hp}{s₂:Shared}{J:It}{fp:List Addr}{it:Addr}{tn:Nat→Heap→Prop}(I:Inv X pins σ H s₂) (T:Turn X.prog X.w X.K tg J fp it tn) (t0:tn 0 s₂.heap) (hfp:∀ b∈fp,FpOk X pins H b)
  {Q:VK}(h:CompR J k g tc te σ H Q) {RR:Value→Addr→Result→Shared→Prop}
  (hRR:∀ acc C H' s' m',Inv X pins σ H' s'→s'.heap.Ns C m'→s₂.heap.objs.size≤C→H' C=none→Q (.ref acc) H'→RR (.ref acc) C (.ok .next) s') :
  wpAny (model X.prog X.w) X.A (newList []) (fun acc s₃=>wpAny (model X.prog X.w) X.A (newFunctionEnv sc X.env.globals cl [] X.env.qual none .none (some X.env)) (fun cenv s₄=>
   codeAny (model X.prog X.w) X.A (.compStart (.ListComp elt [⟨tg,iter,ifs,0⟩] sc pos) 0 (.ref it) acc { cenv with scope:=relabel sc X.env }) (RR acc cenv.locals) s₄) X.xe s₃) X.xe s₂:=by
 refine wpAny_newObj_type (wpAny_newFunctionEnv ok.nocell (by intro y hy;simp at hy) (fun h₁ hns₁ hsb₁=>?_) ok.kind)
 dsimp only at hns₁ hsb₁ ⊢
 generalize hH2:s₂.heap.push { cls:=.type "list",dict:=none,data:=.seq ([]:List Value).toArray }=hp2 at hns₁ hsb₁ ⊢
 have hC:hp2.objs.size=s₂.heap.objs.size+1:=by rw[← hH2,Heap.size_push]
 have hDC:s₂.heap.objs.size≠hp2.objs.size:=by rw[hC];exact Nat.ne_of_lt (Nat.lt_succ_self _)
 have hCle:s₂.heap.objs.size≤hp2.objs.size:=by rw[hC];exact Nat.le_succ _
 have old:∀ b o,s₂.heap.get? b=some o→h₁.get? b=some o:=fun b o e=>hsb₁.extBut b o (Nat.ne_of_lt (Nat.lt_of_lt_of_le (Heap.lt_size e) hCle)) (Heap.get?_push_of_some _ (hH2 ▸ Heap.get?_push_of_some _ e))
 have hacc:h₁.get? s₂.heap.objs.size=some { cls:=.type "list",data:=.seq #[] 0 }:=hsb₁.extBut _ _ hDC (Heap.get?_push_of_some _ (hH2 ▸ Heap.get?_push_size _ rfl))
 have hob:∀ b∈fp,∃ o,s₂.heap.get? b=some o:=fun b hb=>let ⟨o,e,_⟩:=T.obj 0 _ t0 b hb;⟨o,e⟩
 obtain⟨W,⟨m0,w0⟩,turn⟩:=h s₂.heap.objs.size I.fresh
 obtain⟨hg,ht,he⟩:=hb cl hp2.objs.size s₂ H fp
 have J0:Inv (compCx X sc N' cl hp2.objs.size s₂ H fp) [] (σ++List.replicate k none) (upd H s₂.heap.objs.size (.lst [])) { s₂ with heap:=h₁,toks:=s₂.toks+([]:List (Str×Value)).length }:=
  comp_inv ok hcl hfr I hfp hob (Nat.le_refl _) hCle (Ne.symm hDC) hns₁ old hacc
 have fpo:∀ {pins':List (Addr×Obj)} {H':Hp},pins'=[]→(∀ b∈fp,H' b=none)→∀ b∈fp,FpOk (compCx X sc N' cl hp2.objs.size s₂ H fp) pins' H' b:=fun {pins' H'} hp hn b hb=>by
  subst hp
  refine⟨hn b hb,?_,?_,.inl hb,fun x c e=>(hfp b hb).2.2.2.2.1 x c (hcl x c e),fun p hp=>absurd (show p∈([]:List (Addr×Obj)) from hp) (by simp)⟩
  ·obtain⟨o,e⟩:=hob b hb
   exact Nat.ne_of_lt (Nat.lt_of_lt_of_le (Heap.lt_size e) hCle)
  ·intro z
   rcases List.mem_cons.mp (I.stkSub b z) with q|q
   ·exact(hfp b hb).2.1 q
   ·exact(hfp b hb).2.2.1 q
 let X':=compCx X sc N' cl hp2.objs.size s₂ H fp
 let good:Nat→Shared→Prop:=fun n s'=>∃ i σ' ys H',Inv X' [] σ' H' s'∧tn i s'.heap∧(∀ b∈fp,H' b=none)∧W i n σ' ys H'
 have nope:∀ {E':Value→Shared→Prop} (x:Value) (s':Shared),False→E' x s':=fun _ _ z=>z.elim
 have upto:∀ {i n:Nat} {σ3:St} {ys:List V} {H3:Hp} {s3:Shared} {R:Shared→Prop} {E':Value→Shared→Prop},Inv X' [] σ3 H3 s3→tn i s3.heap→(∀ b∈fp,H3 b=none)→J.go i H3 →
   (∀ x H3',J.yld i H3 x H3'→g x σ3 H3' fun σ4 H4=>tc σ4 H4 fun b H5=>if b=true then te σ4 H5 fun v H6=>H6 s₂.heap.objs.size=some (.lst ys)∧∃ m',m'<n∧W (i+1) m' σ4 (ys++[v]) (upd H6 s₂.heap.objs.size (.lst (ys++[v]))) else ∃ m',m'<n∧W (i+1) m' σ4 ys H5) →
   (∀ (pl:List (Addr×Obj)) (σ6:St) (H6:Hp) (s6:Shared),Inv X' pl σ6 H6 s6→(∀ {σ7:St} {H7:Hp} {s7:Shared},Inv X' pl σ7 H7 s7→Inv X' [] σ7 H7 s7∧tn (i+1) s7.heap∧∀ b∈fp,H7 b=none) →
    (tc σ6 H6 fun b H5=>if b=true then te σ6 H5 fun v H6=>H6 s₂.heap.objs.size=some (.lst ys)∧∃ m',m'<n∧W (i+1) m' σ6 (ys++[v]) (upd H6 s₂.heap.objs.size (.lst (ys++[v]))) else ∃ m',m'<n∧W (i+1) m' σ6 ys H5)→R s6) →
   wpAny (model X.prog X.w) X.A (pyNext (.ref it)) (fun r s4=>∃ u,r=some u∧wpAny (model X.prog X.w) X.A (letOwnedTupleGo tg (.ref it) u) (fun _ s5=>wpAny (model X.prog X.w) X.A (assign tg X'.env u) (fun _ s6=>R s6) E' s5) E' s4) E' s3:=by
  intro i n σ3 ys H3 s3 R E' I3 st3 fr3 go step fin
  refine wpAny_mono (T.item X' rfl rfl rfl hc i [] s3 σ3 H3 E' I3 (fpo rfl fr3) st3 go) (fun r s4 hr=>?_) fun _ _ z=>z
  obtain⟨u,hr,h4⟩:=hr
  refine⟨u,hr,wpAny_mono h4 (fun _ s5 h5=>?_) fun _ _ z=>z⟩
  obtain⟨x,H5,I5,r5,y5,st5,fr5⟩:=h5
  have I5':=I5.pinned (fpo rfl fr5) (T.obj _ _ st5)
  refine wpAny_mono (hg _ s5 σ3 H5 x u _ I5' r5 (step x H5 y5)) (fun _ s6 h6=>?_) nope
  obtain⟨σ6,H6,I6,q6⟩:=h6
  refine fin _ σ6 H6 s6 I6 (fun {σ7 H7 s7} I7=>?_) q6
  refine⟨I7.unpinned,T.keep _ _ _ st5 fun b hb o e=>(I7.pin (b,o) (List.mem_append_right _ (List.mem_append_right _ (mem_pinsAt hb e)))).1,fun b hb=>?_⟩
  obtain⟨o,e,d⟩:=T.obj _ _ st5 b hb
  exact(I7.pin (b,o) (List.mem_append_right _ (List.mem_append_right _ (mem_pinsAt hb e)))).2.1
 have lay:∀ {i n:Nat} {pl:List (Addr×Obj)} {σ6:St} {ys:List V} {H7:Hp} {s7:Shared} {E':Value→Shared→Prop},ys.length<sizeLine→Inv X' pl σ6 H7 s7 →
   (∀ {σ7:St} {H7:Hp} {s7:Shared},Inv X' pl σ7 H7 s7→Inv X' [] σ7 H7 s7∧tn (i+1) s7.heap∧∀ b∈fp,H7 b=none) →
   (te σ6 H7 fun v H6=>H6 s₂.heap.objs.size=some (.lst ys)∧∃ m',m'<n∧W (i+1) m' σ6 (ys++[v]) (upd H6 s₂.heap.objs.size (.lst (ys++[v])))) →
   wpAny (model X.prog X.w) X.A (eval elt X'.env) (fun x s8=>wpAny (model X.prog X.w) X.A (call (.builtin "list.append") [.ref s₂.heap.objs.size,x]) (fun _ s9=>∃ m,m<n∧good m s9) E' s8) E' s7:=by
  intro i n pl σ6 ys H7 s7 E' hlen I7 back q7
  refine wpAny_mono (he _ s7 σ6 H7 _ I7 q7) (fun y s8 h8=>?_) nope
  obtain⟨v,H8,I8,r8,a8,m',hm,w8⟩:=h8
  refine wpAny_mono (mt_append (X:=X') _ s8 σ6 H8 (.ref s₂.heap.objs.size) [v] _ _ (fun _ H9=>H9=upd H8 s₂.heap.objs.size (.lst (ys++[v]))) I8 rfl (.cons r8 .nil) ⟨_,ys,v,rfl,rfl,a8,hlen,rfl⟩) (fun _ s9 h9=>?_) nope
  obtain⟨_,H9,I9,_,rfl⟩:=h9
  obtain⟨b1,b2,b3⟩:=back I9
  exact⟨m',hm,i+1,σ6,ys++[v],_,b1,b2,b3,w8⟩
 have over:∀ {i:Nat} {σ3:St} {H3:Hp} {s3:Shared} {E':Value→Shared→Prop},Inv X' [] σ3 H3 s3→tn i s3.heap→(∀ b∈fp,H3 b=none)→J.stop i H3→Q (.ref s₂.heap.objs.size) H3 →
   wpAny (model X.prog X.w) X.A (pyNext (.ref it)) (fun r s4=>r=none∧RR (.ref s₂.heap.objs.size) hp2.objs.size (.ok .next) s4) E' s3:=by
  intro i σ3 H3 s3 E' I3 st3 fr3 stop q
  refine wpAny_mono (T.done X' rfl rfl rfl hc i [] s3 σ3 H3 E' I3 (fpo rfl fr3) st3 stop) (fun r s4 hr=>⟨hr.1,?_⟩) fun _ _ z=>z
  have I4:=hr.2
  have IX:Inv X pins σ H3 s4:=I.call' I4.os I4.base I4.hok I4.bare fun b hb=>⟨(hfp b hb).2.2.2.1,(hfp b hb).2.1,(hfp b hb).2.2.2.2.1,(hfp b hb).2.2.2.2.2⟩
  obtain⟨m',hn',_⟩:=I4.loc
  exact hRR _ _ H3 s4 m' IX hn' hCle I4.free q
 let EE:Value→Shared→Prop:=notedBy (model X.prog X.w) X.A X'.env fun e s'=>RR (.ref s₂.heap.objs.size) hp2.objs.size (.error e) s'
 have begin0:good m0 { s₂ with heap:=h₁,toks:=s₂.toks+([]:List (Str×Value)).length }:=by
  refine⟨0,_,[],_,J0,T.keep _ _ _ t0 (fun b _ o e=>old b o e),fun b hb=>?_,w0⟩
  obtain⟨o,e⟩:=hob b hb
  rw[upd_ne (Nat.ne_of_lt (Heap.lt_size e))]
  exact(hfp b hb).1
 have loop:codeAny (model X.prog X.w) X.A (.compLoop (.ListComp elt [⟨tg,iter,ifs,0⟩] sc pos) 0 (.ref it) (.ref s₂.heap.objs.size) X'.env) (RR (.ref s₂.heap.objs.size) hp2.objs.size) { s₂ with heap:=h₁,toks:=s₂.toks+([]:List (Str×Value)).length }:=by
  rcases ht with ⟨rfl,ht⟩|⟨c,rfl,ht⟩
  ·refine PySem.W.kcp_loop good (fun n s3 hI=>?_) m0 begin0
   obtain⟨i,σ3,ys,H3,I3,st3,fr3,w3⟩:=hI
   rcases turn i n σ3 ys H3 w3 with ⟨stop,q⟩|⟨go,hlen,step⟩
   ·refine wpAny_mono (over I3 st3 fr3 stop q) (fun r s4 hr=>?_) fun _ _ z=>z
    obtain⟨rfl,hr⟩:=hr
    exact hr
   ·refine wpAny_mono (upto I3 st3 fr3 go step (fun pl σ6 H6 s6 I6 back q6=>lay (E':=EE) hlen I6 back (by simpa using ht σ6 H6 _ q6))) (fun r s4 hr=>?_) fun _ _ z=>z
    obtain⟨u,rfl,h4⟩:=hr
    exact h4
  ·refine PySem.W.kct_loop good (fun n s3 hI=>?_) m0 begin0
   obtain⟨i,σ3,ys,H3,I3,st3,fr3,w3⟩:=hI
   rcases turn i n σ3 ys H3 w3 with ⟨stop,q⟩|⟨go,hlen,step⟩
   ·refine wpAny_mono (over I3 st3 fr3 stop q) (fun r s4 hr=>?_) fun _ _ z=>z
    obtain⟨rfl,hr⟩:=hr
    exact hr
   ·refine wpAny_mono (upto (R:=fun s6=>wpAny (model X.prog X.w) X.A (isTrue c X'.env (eval c X'.env)) (fun okb s7=>if okb=true then wpAny (model X.prog X.w) X.A (eval elt X'.env) (fun x s8=>wpAny (model X.prog X.w) X.A (call (.builtin "list.append") [.ref s₂.heap.objs.size,x]) (fun _ s9=>∃ m,m<n∧good m s9) EE s8) EE s7 else ∃ m,m<n∧good m s7) EE s6) I3 st3 fr3 go step (fun pl σ6 H6 s6 I6 back q6=>wpAny_mono (E':=EE) (ht _ s6 σ6 H6 _ I6 q6) (fun okb s7 h7=>?_) nope)) (fun r s4 hr=>?_) fun _ _ z=>z
    ·obtain⟨H7,I7,q7⟩:=h7
     cases okb with
     | false=>
      obtain⟨m',hm,w7⟩:=q7
      obtain⟨b1,b2,b3⟩:=back I7
      exact⟨m',hm,i+1,σ6,ys,H7,b1,b2,b3,w7⟩
     | true=>exact lay (E':=EE) hlen I7 back q7
    ·obtain⟨u,rfl,h4⟩:=hr
     exact h4
 exact codeAny_compStart_list loop (T.self _ 0 _ _ _ (T.keep _ _ _ t0 (fun b _ o e=>old b o e)) loop)
theorem pe_comp (N':List Str) (k:Nat) (hc:X.calm=true) (hi:PI X tg iter wi)
  (hb:∀ cl C s₂ H2 fp,PG (compCx X sc N' cl C s₂ H2 fp) tg g∧PTs (compCx X sc N' cl C s₂ H2 fp) ifs tc∧PE (compCx X sc N' cl C s₂ H2 fp) elt te)
  (hk:compChk X.N X.env.scope sc N' k=true:=by rfl) (hs:∀ x,foldedSetIterable iter X.env x=pure x:=by intro _;rfl) :
  PE X (.ListComp elt [⟨tg,iter,ifs,0⟩] sc pos) (tComp wi k g tc te):=by
 intro pins s σ H Q I h
 have ok:=CompOk.of hk
 obtain⟨cl,e,hcl,hfr⟩:=closure_some (sc:=sc) (env:=X.env) (fun y hy hf=>I.ok.has y.1 (ok.free y hy hf))
 rw[eval_ListComp]
 refine wpAny_comprehension_free (use:=none) rfl hs e ok.kind ok.names (thn (hi pins s σ H _ I h) fun v s1 h1=>thn h1 fun itv s2 h2=>?_)
 obtain⟨it,fp,tn,J,H2,rfl,I2,T,st2,f2,R⟩:=h2
 refine comp_block (RR:=fun acc C=>compPost (model X.prog X.w) X.A X.xe none (EP X pins σ Q) acc C) hc ok hcl hfr hb I2 T st2 f2 R ?_
 intro acc C H' s' m' I' hn hC hfree q
 refine⟨m',hn,fun h'' hs''=>⟨.ref acc,H',?_,rfl,q⟩⟩
 have z:=I2.fpOk hC hfree
 exact I'.turned (t':=s'.toks) (fun b o hb e=>hs''.extBut b o hb e) hfree z.2.1 z.2.2.2.1 z.2.2.2.2.1 z.2.2.2.2.2
theorem ps_setcomp (N':List Str) (k:Nat) {i:Nat}{y:Str}{py spos:Pos}(hc:X.calm=true) (hN:X.N.Nodup) (hj:X.N[i]? = some y) (hx:Loc X.env.scope y) (hi:PI X tg iter wi)
  (hb:∀ cl C s₂ H2 fp,PG (compCx X sc N' cl C s₂ H2 fp) tg g∧PTs (compCx X sc N' cl C s₂ H2 fp) ifs tc∧PE (compCx X sc N' cl C s₂ H2 fp) elt te)
  (hsw:swapsWith (.ListComp elt [⟨tg,iter,ifs,0⟩] sc pos) (some (.Name y py)) spos.line X.env=pure true:=by rfl)
  (hk:compChk X.N X.env.scope sc N' k=true:=by rfl) (hs:∀ x,foldedSetIterable iter X.env x=pure x:=by intro _;rfl)
  (hf:X.fn y=true∨X.env.scope.names.lookup y=some .local:=by first|exact .inl rfl|exact .inr rfl|assumption) :
  PS X (.Assign [.Name y py] (.ListComp elt [⟨tg,iter,ifs,0⟩] sc pos) spos) (tAsg (tComp wi k g tc te) (gName i)):=by
 intro pins s σ H D I h
 have ok:=CompOk.of hk
 obtain⟨cl,e,hcl,hfr⟩:=closure_some (sc:=sc) (env:=X.env) (fun y hy hf=>I.ok.has y.1 (ok.free y hy hf))
 rw[exec_Assign_Name_used _ _ _ _ hsw]
 refine wpAny_bind (wpAny_standAt (wpAny_bind ?_))
 show wpAny _ X.A (do let _ ← comprehension (.ListComp elt [⟨tg,iter,ifs,0⟩] sc pos) sc X.env _ (newList []) false (eval iter X.env) (some (assign (.Name y py) X.env))) _ _ s
 refine wpAny_bind (wpAny_mono (wpAny_comprehension_free (use:=some (assign (.Name y py) X.env)) (Q:=fun _ s'=>SP X pins D .next s') rfl hs e ok.kind ok.names
  (thn (hi pins s σ H _ I h) fun v s1 h1=>thn h1 fun itv s2 h2=>?_)) (fun _ s' hq=>wpAny_pure (wpAny_pure hq)) fun _ _ e=>e)
 obtain⟨it,fp,tn,J,H2,rfl,I2,T,st2,f2,R⟩:=h2
 refine comp_block (RR:=fun acc C=>compPost (model X.prog X.w) X.A X.xe (some (assign (.Name y py) X.env)) (fun _ s'=>SP X pins D .next s') acc C) hc ok hcl hfr hb I2 T st2 f2 R ?_
 intro acc C H' s' m' I' hn hC hfree q
 show wpAny _ X.A (assign (.Name y py) X.env (.ref acc)) _ _ _
 refine wpAny_assign_Name (store_ok2 (v:=.ref acc) I' hN hj hx rfl (fun s'' I'' ch=>?_) hf)
 have z:=I2.fpOk hC hfree
 obtain⟨a,sb,ha⟩:=ch
 have hCa:C≠a:=by
  rcases ha with ha|ha
  ·rw[ha];exact z.2.1
  ·exact Ne.symm (z.2.2.2.2.1 y a ha)
 refine⟨m',hn.sameBut sb hCa,fun h₃ hs₃=>⟨_,H',?_,q⟩⟩
 exact I''.turned (t':=s''.toks) (fun b o hb e=>hs₃.extBut b o hb e) hfree z.2.1 z.2.2.2.1 z.2.2.2.2.1 z.2.2.2.2.2
end
end L2
set_option Elab.async false
set_option linter.all false
set_option maxRecDepth 100000
namespace L2
open PySem PySem.Spec PyProof.Rows
theorem ObjOk.there {P:Program}{w:World}{H:Hp}{h:Heap}{a:Addr}{o:HO}(x:ObjOk P w H h a o):∃ ob,h.get? a=some ob:=by
 cases o with
 | lst xs=>obtain⟨_,_,_,_,e⟩:=x;exact⟨_,e⟩
 | tup xs=>obtain⟨_,_,_,o,e,_⟩:=x;exact⟨_,e⟩
 | dK kvs=>obtain⟨_,_,_,_,o,_,_,e,_⟩:=x;exact⟨_,e⟩
 | dT kvs=>obtain⟨_,_,_,_,o,_,_,e,_⟩:=x;exact⟨_,e⟩
 | set S n=>obtain⟨o,_,_,_,e,_⟩:=x;exact⟨_,e⟩
 | ins C dx fs=>obtain⟨_,_,_,e,_⟩:=x;exact⟨_,e⟩
 | own y=>obtain⟨_,e⟩:=x;exact⟨_,e⟩
 | xd fs=>obtain⟨_,⟨_,_,_,e,_⟩,_⟩:=x;exact⟨_,e⟩
 | rng lo hi=>obtain⟨_,_,_,e⟩:=x;exact⟨_,e⟩
 | frz ob u=>obtain⟨e,_⟩:=x;exact⟨_,e⟩
 | tbl ps=>exact⟨_,(show h.get? a=some _ from x)⟩
 | met f y=>exact⟨_,(show h.get? a=some _ from x)⟩
 | ext φ=>obtain⟨_,e,_⟩:=x;exact e
theorem HOk.there {P:Program}{w:World}{H:Hp}{h:Heap}{a:Addr}(x:HOk P w H h) (n:H a≠none):∃ ob,h.get? a=some ob:=by
 cases q:H a with
 | none=>exact absurd q n
 | some u=>exact(x a u q).there
theorem HOk.untracked {P:Program}{w:World}{H:Hp}{h:Heap}{a:Addr}(x:HOk P w H h) (n:h.get? a=none):H a=none:=by
 cases q:H a with
 | none=>rfl
 | some u=>
  obtain⟨o,e⟩:=(x a u q).there
  rw[n] at e;cases e
def Cov (B:Heap) (l:List Env) (H':Hp) (h0 h:Heap):Prop:=∀ b o,h.get? b=some o→b∉frs l→(H' b≠none∨h0.get? b≠none)→B.get? b=some o
structure Air (P:Program) (w:World) (l:List Env) (H:Hp) (s:Shared) (H':Hp) (a:Addr) (cls:Value) (s':Shared):Prop where
 os:s'.os=s.os
 bare:AllBare s'.gens
 un:Un (frs l) [] H H' s.heap s'.heap
 hok:HOk P w H' s'.heap
 new:s.heap.get? a=none
 fly:∃ B a0,Heap.FlyingW B l a cls a0 s'.heap∧Cov B l H' s.heap s'.heap
def CXr (P:Program) (w:World):CXT:=fun l H s E e s'=>∃ a cls H',e=.ref a∧Air P w l H s H' a cls s'∧H' a=none∧E cls none H'
abbrev ER0:XK:=fun _ _ _=>False
theorem passr0 {P:Program}{w:World}{X:Cx}:Passes (CXr P w) X ER0:=fun _ _ _ _ _ _ _ h=>by
 obtain⟨_,_,_,_,_,_,z⟩:=h
 exact z.elim
section
variable {P:Program}{w:World}{B:Heap}{l:List Env}{H H':Hp}{h0 h h':Heap}
theorem Un.air (u:Un (frs l) [] H H' h0 h) (hfr:∀ b∈frs l,H b=none) (h0fr:∀ b∈frs l,∃ o,h0.get? b=some o) (cov:Cov B l H' h0 h) (st:B.StaysIn h') (up:h.UpToSlots h') (ff:h.FunFrames B l):Un (frs l) [] H H' h0 h':=by
 have slot:∀ b o,b∈frs l→h.get? b=some o→∃ sl,h'.get? b=some { o with slots:=sl }:=fun b o hb e=>by
  obtain⟨_,o',e',d⟩:=ff.mem hb
  rw[e] at e';cases e'
  exact up b o e d
 have keep:∀ b o,b∉frs l→h0.get? b≠none→h.get? b=some o→h'.get? b=some o:=fun b o hb hn e=>st b o (cov b o e hb (.inr hn))
 refine⟨fun b o e n hb hx=>keep b o hb (by rw[e];simp) (u.keep b o e n hb hx),fun b o e n hb hx=>?_,u.free,fun b o e hx=>?_,u.tups,u.frzs,u.tbls⟩
 ·obtain⟨sl,e1⟩:=u.slot b o e n hb hx
  obtain⟨sl',e2⟩:=slot b _ hb e1
  exact⟨sl',e2⟩
 ·obtain⟨o',e1⟩:=u.there b o e hx
  by_cases hb:b∈frs l
  ·obtain⟨sl,e2⟩:=slot b o' hb e1
   exact⟨_,e2⟩
  ·exact⟨o',keep b o' hb (by rw[e];simp) e1⟩
theorem HOk.air (x:HOk P w H' h) (hfr:∀ b∈frs l,H' b=none) (cov:Cov B l H' h0 h) (st:B.StaysIn h'):HOk P w H' h':=fun a o e=>by
 have k:∀ b u,H' b≠none→h.get? b=some u→h'.get? b=some u:=fun b u n q=>st b u (cov b u q (fun z=>n (hfr b z)) (.inl n))
 refine(x a o e).stay (fun b u hb q=>k b u ?_ q) (fun _ q=>q) fun _ _ q=>q
 rcases hb with rfl|hb
 ·rw[e];simp
 ·rw[hb];simp
end
section
variable {X:Cx}{pins:List (Addr×Obj)}{σ:St}{H H':Hp}{s s':Shared}{a:Addr}{cls:Value}
theorem Inv.stkThere (I:Inv X pins σ H s):∀ b∈frs X.stack,∃ o,s.heap.get? b=some o:=fun b hb=>let ⟨_,o,e,_⟩:=I.stack.mem hb;⟨o,e⟩
theorem Air.free (A:Air X.prog X.w X.stack H s H' a cls s') (I:Inv X pins σ H s):∀ b∈frs X.stack,H' b=none:=fun b hb=>by
 obtain⟨o,e⟩:=I.stkThere b hb
 exact A.un.free b o e (I.stkFree b hb) (by simp)
end
section
variable {P:Program}{w:World}{K:PySem.W.Frag}{mg:Str→Option Value}{base:Heap}{N:List Str}{qual:Str}{scope:Scope}{f:Addr}{cd:Value}{A:Around}{outer:List Env}{s₀:Shared}{H₀:Hp}{E:XK}
theorem left_of {X:Cx}{pins:List (Addr×Obj)}{σ:St}{H H':Hp}{s s':Shared}{a:Addr}{cls a0:Value}{B h':Heap}(I:Inv X pins σ H s) (hst:X.stack=X.env::X.outer) (hf:X.env.frame=some X.env.locals) (hex:X.ex=[])
  (os:s'.os=s.os) (bare:AllBare s'.gens) (un:Un (frs X.stack) [] H H' s.heap s'.heap) (hok:HOk X.prog X.w H' s'.heap) (new:s.heap.get? a=none) (ff:s'.heap.FunFrames B X.stack)
  (cov:Cov B X.stack H' s.heap s'.heap) (fl:Heap.FlyingW B X.outer a cls a0 h') (up:s'.heap.UpToSlots h'):Air X.prog X.w X.outer X.H₀ X.s₀ H' a cls { s' with heap:=h' }:=by
 have hfree:∀ b∈frs X.stack,H' b=none:=fun b hb=>by
  obtain⟨o,e⟩:=I.stkThere b hb
  exact un.free b o e (I.stkFree b hb) (by simp)
 have sub:∀ b,b∈frs X.stack→b=X.env.locals∨b∈frs X.outer:=fun b hb=>List.mem_cons.mp (I.stkSub b hb)
 have sub':∀ b,b∈frs X.outer→b∈frs X.stack:=fun b hb=>by
  rw[hst];unfold frs;rw[List.filterMap_cons,hf];exact List.mem_cons_of_mem _ hb
 have un2:Un (frs X.stack) [] H H' s.heap h':=un.air (fun b hb=>I.stkFree b hb) I.stkThere cov fl.1 up ff
 have base0:=I.base
 rw[hex] at base0
 have neL:∀ b o,X.s₀.heap.get? b=some o→b≠X.env.locals:=fun b o e=>Nat.ne_of_lt (Nat.lt_of_lt_of_le (Heap.lt_size e) I.ok.above)
 refine⟨os.trans I.os,bare,⟨fun b o e n hb hx=>?_,fun b o e n hb hx=>?_,fun b o e n hx=>?_,fun b o e hx=>?_,fun b xs e=>un2.tups b xs (base0.tups b xs e),fun b o u e=>un2.frzs b o u (base0.frzs b o u e),fun b ps e=>?_⟩,
  hok.air hfree cov fl.1,?_,B,a0,fl,fun b o e hb hc=>?_⟩
 ·refine un2.keep b o (base0.keep b o e n hb hx) (base0.free b o e n hx) (fun z=>?_) hx
  rcases sub b z with q|q
  ·exact neL b o e q
  ·exact hb q
 ·obtain⟨sl,e1⟩:=base0.slot b o e n hb hx
  obtain⟨sl',e2⟩:=un2.slot b _ e1 (base0.free b o e n hx) (sub' b hb) hx
  exact⟨sl',e2⟩
 ·obtain⟨o',e1⟩:=base0.there b o e hx
  exact un2.free b o' e1 (base0.free b o e n hx) hx
 ·obtain⟨o',e1⟩:=base0.there b o e hx
  exact un2.there b o' e1 hx
 ·obtain⟨m1,e1⟩:=base0.tbls b ps e
  obtain⟨m2,e2⟩:=un2.tbls b _ e1
  exact⟨m1++m2,by rw[e2,Array.append_assoc]⟩
 ·cases q:X.s₀.heap.get? a with
  | none=>rfl
  | some o=>
   obtain⟨o',e1⟩:=base0.there a o q (by simp)
   rw[new] at e1;cases e1
 ·have hb':b∉frs X.stack:=fun z=>by
   rcases sub b z with q|q
   ·subst q
    rcases hc with hc|hc
    ·exact hc (hfree _ z)
    ·cases q:X.s₀.heap.get? X.env.locals with
     | none=>exact hc q
     | some o'=>exact neL _ o' q rfl
   ·exact hb q
  have there:∃ o',s'.heap.get? b=some o':=by
   rcases hc with hc|hc
   ·exact hok.there hc
   ·cases q:X.s₀.heap.get? b with
    | none=>exact absurd q hc
    | some o'=>
     obtain⟨o1,e1⟩:=base0.there b o' q (by simp)
     exact un.there b o1 e1 (by simp)
  obtain⟨o',e'⟩:=there
  have hc':H' b≠none∨s.heap.get? b≠none:=by
   rcases hc with hc|hc
   ·exact .inl hc
   ·cases q:X.s₀.heap.get? b with
    | none=>exact absurd q hc
    | some o'=>
     obtain⟨o1,e1⟩:=base0.there b o' q (by simp)
     exact .inr (by rw[e1];simp)
  have q:=cov b o' e' hb' hc'
  have q':=fl.1 b o' q
  have e':h'.get? b=some o:=e
  rw[q'] at e';cases e'
  exact q
theorem made_leaves {pins:List (Addr×Obj)}{σ:St}{H:Hp}{s s':Shared}{a:Addr}{cls:Value}{vs:List Value}(I:Inv (cxOf (CXr P w) P w K mg base N qual scope f cd A outer s₀ H₀ E) pins σ H s)
  (os:s'.os=s.os) (gens:s'.gens=s.gens) (hx:Heap.MadeExcOf s.heap s'.heap a cls vs) (q:E cls none H):(cxOf (CXr P w) P w K mg base N qual scope f cd A outer s₀ H₀ E).xe (.ref a) s':=by
 let X:=cxOf (CXr P w) P w K mg base N qual scope f cd A outer s₀ H₀ E
 have hB:(PySem.W.hideAll s.heap (frs X.stack)).StaysIn s.heap:=fun b o e=>PySem.W.of_hideAll _ e
 have ff:s.heap.FunFrames (PySem.W.hideAll s.heap (frs X.stack)) X.stack:=PySem.W.funFrames_hide I.stack fun env he b hb=>List.mem_filterMap.mpr ⟨env,he,hb⟩
 have ff':s'.heap.FunFrames (PySem.W.hideAll s.heap (frs X.stack)) X.stack:=ff.of_keeps fun b o e _=>⟨o,hx.keeps b o e,rfl⟩
 have hok:HOk X.prog X.w H s'.heap:=I.hok.kept hx.keeps
 have ha:H a=none:=I.hok.untracked hx.new
 show wpAny _ _ (leaving _ _) _ _ _
 refine wpAny_leaves_madeW I.ok.frames rfl hB ff hx fun h' t fl' _ _ up=>?_
 refine⟨a,cls,H,rfl,left_of (X:=X) (B:=PySem.W.hideAll s.heap (frs X.stack)) I rfl rfl rfl os (by rw[gens];exact I.bare) (Un.kept hx.keeps) hok hx.new ff' ?_ fl' up,ha,q⟩
 intro b o e hb hc
 have there:∃ o',s.heap.get? b=some o':=by
  rcases hc with hc|hc
  ·exact I.hok.there hc
  ·cases z:s.heap.get? b with
   | none=>exact absurd z hc
   | some o'=>exact⟨o',rfl⟩
 obtain⟨o',e'⟩:=there
 have q':=hx.keeps b o' e'
 have e:s'.heap.get? b=some o:=e
 rw[q'] at e;cases e
 exact PySem.W.hideAll_get _ e' hb
end
end L2
namespace L2
open PySem PySem.Spec PyProof.Rows
section
variable {K:PySem.W.Frag}{h:Heap}{C:Addr}{bmB:List Value}{newId:String}
theorem exc_obj (kin:K.In h) (q:PySem.W.excIn K C bmB newId=true) :
  ∃ bm N nm qn bs hd sn sub ab col dd k0 k1 k2 k3 k5 mN,h.get? C=some (excClassObj nm qn C N bs bm hd sn sub ab col dd k0 k1 k2 k3 k5 newId)∧h.Ns N mN∧mN "__init__" = none∧OwnTail h bmB bm:=by
 revert q
 unfold PySem.W.excIn
 split
 ·rename_i dd cd sl look
  split
  ·rename_i C' bm p0 p1 p2 p3 mk p5 em es
   intro q
   have q:=q
   rw[Bool.and_eq_true,Bool.and_eq_true,Bool.and_eq_true,Bool.and_eq_true,Bool.and_eq_true] at q
   obtain⟨⟨⟨⟨⟨q1,q2⟩,q3⟩,q4⟩,q5⟩,q6⟩:=q
   obtain rfl:=beq_iff_eq.mp q1
   obtain rfl:=beq_iff_eq.mp q2
   have at_:=kin _ _ look
   have eqsl:sl = #[p0,p1,p2,p3,some (.builtin mk),p5]:=by
    have:=congrArg List.toArray es
    simpa using this
   rw[eqsl] at at_
   obtain⟨c1,c2,c3,c4,c5,c6,c7,c8,c9,c10,c11⟩:=cd
   simp only at em q3 q4 q5 q6 at_
   subst em
   have e3:c11=false:=by simpa using q3
   refine⟨bm,c4,c1,c5,c2,c6,c7,c8,c9,c10,dd,p0,p1,p2,p3,p5,_,?_,.of_isNs (PySem.W.isNs_of_in kin q5),PySem.W.nsMap_none_of_in kin q5 (beq_iff_eq.mp q6),PySem.W.tail_of_in kin q4⟩
   rw[at_]
   unfold excClassObj
   rw[e3]
  ·intro q;cases q
 ·intro q;cases q
end
abbrev veMro:List Value:=[.type "ValueError",.type "Exception",.type "BaseException",.type "object"]
def ExcC (K:PySem.W.Frag) (C:Addr):Prop:=PySem.W.excIn K C veMro "ValueError.__new__" = true
def tRaise (E:XK) (C:Addr) (t:TA):TS:=fun _ σ H=>t σ H fun vs H1=>vs.length≤100∧E (.ref C) none H1
section
variable {P:Program}{w:World}{K:PySem.W.Frag}{mg:Str→Option Value}{base:Heap}{N:List Str}{qual:Str}{scope:Scope}{f:Addr}{cd:Value}{A:Around}{outer:List Env}{s₀:Shared}{H₀:Hp}{E:XK}
theorem ps_raise {x:Str}{C:Addr}{np cpos pos:Pos}{e:Expr}{es:List Expr}{t:TA}(hh:A.handled=none) (hg:Gl (cxOf (CXr P w) P w K mg base N qual scope f cd A outer s₀ H₀ E) x) (hm:mg x=some (.ref C)) (q:ExcC K C)
  (ha:PA (cxOf (CXr P w) P w K mg base N qual scope f cd A outer s₀ H₀ E) (e::es) t) (hdb:(x == ("__debug__" : Str))=false:=by decide)
  (he:starEach (e::es) (cxOf (CXr P w) P w K mg base N qual scope f cd A outer s₀ H₀ E).env=(false,eval e (cxOf (CXr P w) P w K mg base N qual scope f cd A outer s₀ H₀ E).env)::starEach es (cxOf (CXr P w) P w K mg base N qual scope f cd A outer s₀ H₀ E).env:=by rfl)
  (hpl:(backTo cpos (starEach (e::es) (cxOf (CXr P w) P w K mg base N qual scope f cd A outer s₀ H₀ E).env)).any (·.1)=false:=by rfl) :
  PS (cxOf (CXr P w) P w K mg base N qual scope f cd A outer s₀ H₀ E) (.Raise (some (.Call (.Name x np) (e::es) [] cpos)) none pos) (tRaise E C t):=by
 intro pins s σ H D I h
 obtain⟨bm,N1,nm,qn,bs,hd,sn,sub,ab,col,dd,k0,k1,k2,k3,k5,mN,hC,hN,hni,TL⟩:=exc_obj I.ok.mod.kin q
 refine wpAny_Raise_call_subT (C:=C) (N:=N1) (nm:=nm) (q:=qn) (bs:=bs) (bm:=bm) (hdct:=hd) (sn:=sn) (sub:=sub) (ab:=ab) (col:=col) (dd:=dd) (k0:=k0) (k1:=k1) (k2:=k2) (k3:=k3) (k5:=k5)
  PySem.F.excBase_ValueError (TL.hasType (by decide)) hh hpl hni (ld_glob I hg hm ⟨rfl,?_⟩ hdb)
 have h2:=ha cpos pins s σ H _ I h
 rw[he] at h2 ⊢
 refine Calls.evalArgs_plain (wpAny_mono h2 (fun us s2 hq=>?_) fun _ _ z=>z)
 obtain⟨vs,H2,I2,r2,len,q2⟩:=hq
 refine⟨rfl,?_,I2.bk _ _ hC,hN.keeps I2.bk,TL.keeps I2.bk,fun h' a hx=>made_leaves I2 rfl rfl hx q2⟩
 show us.length≤sizeLine
 rw[← r2.length]
 exact Nat.le_trans len (by decide)
end
section
variable {P:Program}{w:World}{K:PySem.W.Frag}{mg:Str→Option Value}{base:Heap}
theorem Fun.okR {x qual:Str}{st:Stmt}{f:Addr}{fd:FuncData}{N ps:List Str}{k:Nat}{sp:Sp}(F:Fun K x qual st f fd) (S:FnScope N ps (defScope st)) (len:∀ vs H Q E,sp vs H Q E→vs.length=ps.length)
  (hbody:∀ (cdv:Value) (A:Around) (outer:List Env) (s:Shared) (H:Hp) (vs:List V) (Q:VK) (E:XK),A.handled=none→Room k (A.deeper (envOfC qual (defScope st) s.heap.objs.size f cdv))→sp vs H Q E →
   ∃ t,PSs (cxOf (CXr P w) P w K mg base N qual (defScope st) f cdv A outer s H E) (defBody st) t∧t { nx:=fun _ H'=>Q .non H',rt:=Q } (start N vs) H):FnOk P w K mg base (CXr P w) (k+1) f fd ps sp:=by
 obtain⟨oc,od,kV,doc,pm,an,cdv,ct,osl,rfl,lk,hcd⟩:=F.ex
 exact fn_of lk hcd S len fun A outer s H vs Q E hr hsp=>hbody cdv A outer s H vs Q E hr.hd hr hsp
theorem Fun.okN {x qual:Str}{st:Stmt}{f:Addr}{fd:FuncData}{N ps:List Str}{k:Nat}{sp:Sp}(F:Fun K x qual st f fd) (S:FnScope N ps (defScope st)) (len:∀ vs H Q E,sp vs H Q E→vs.length=ps.length)
  (hbody:∀ (cdv:Value) (A:Around) (outer:List Env) (s:Shared) (H:Hp) (vs:List V) (Q:VK) (E:XK),Room k (A.deeper (envOfC qual (defScope st) s.heap.objs.size f cdv))→sp vs H Q E →
   ∃ t,PSs (cxOf (CXr P w) P w K mg base N qual (defScope st) f cdv A outer s H E).nox (defBody st) t∧t { nx:=fun _ H'=>Q .non H',rt:=Q } (start N vs) H):FnOk P w K mg base (CXr P w) (k+1) f fd ps sp:=by
 obtain⟨oc,od,kV,doc,pm,an,cdv,ct,osl,rfl,lk,hcd⟩:=F.ex
 refine fn_of lk hcd S len fun A outer s H vs Q E hr hsp=>?_
 obtain⟨t,h,q⟩:=hbody cdv A outer s H vs Q E hr hsp
 exact⟨t,h.nox,q⟩
end
abbrev TX:=St→Hp→VK→XK→Prop
section
variable {X:Cx}{k:Nat}{f C:Addr}{fd:FuncData}{ps:List Str}{sp:Sp}{x m:Str}{p pos apos:Pos}{e o:Expr}{es:List Expr}{ta:TE}{t:TA}
end
end L2
namespace L2
open PySem PySem.Spec PyProof.Rows
def ExcO (a:Addr) (cls:Value):HO:=.ext fun h=>∃ oe vs,h.get? a=some oe∧oe.cls=cls∧oe.data=.fields vs
section
variable {X:Cx}{pins:List (Addr×Obj)}{σ:St}{H:Hp}{s:Shared}{e:Value}
end
section
variable {X:Cx}{pins:List (Addr×Obj)}{σ:St}{Hc H':Hp}{sc s':Shared}{a:Addr}{cls a0:Value}{B h':Heap}
end
section
variable {X:Cx}{e:Expr}{x n:Str}{np p2 pos hpos:Pos}{b₀:Stmt}{suite:List Stmt}{tx:TX}{ts:TS}{c:Value}{i:Nat}
end
end L2
set_option Elab.async false
set_option linter.all false
set_option maxRecDepth 100000
namespace L2
open PySem PySem.W PySem.Spec PySem.Calls PyProof.Rows Builtin.Getset_descriptor
section
variable {prog:Program}{w:World}{A:Around}{E:Value→Shared→Prop}{s:Shared}{K:Frag}{x D:Addr}{ox:Obj}
structure ExcK (K:Frag) (D:Addr):Prop where
 ga:findIn K (.ref D) "__getattribute__" = some (some (.builtin "BaseException.__getattribute__"))
 gb:findIn K (.ref D) "__getattr__" = some none
 ha:findIn K (.ref D) "__class__" = some (some (.builtin "object.__class__"))
 hn:specialIn K (.builtin "object.__class__") "__get__" = some (some (.builtin "getset_descriptor.__get__"))
 htk:takesIn K (.builtin "object.__class__")=some true
 hm:mroIn K D (.type "object")=some true
 hb:mroIn K D (.type "BaseException")=some true
structure ExcAt (h:Heap) (x D:Addr):Prop where
 ex:∃ o vs,h.get? x=some o∧o.cls=.ref D∧o.data=.fields vs
theorem ExcAt.type {M:Model}{h:Heap}(I:ExcAt h x D):Looks M h (typeOf (.ref x)) (.ref D):=by
 obtain⟨o,vs,e,c,_⟩:=I.ex
 exact c ▸ ((Looks.ld e).andThen .now)
theorem exc_find {M:Model}{h:Heap}(T:ExcK K D) (kin:K.In h):Looks M h (Builtin.ObjectAttr.find (.ref x) (.ref D) "__class__") (.bind (.builtin "getset_descriptor.__get__") (.builtin "object.__class__")):=by
 refine(looks_findIn (M:=M) kin T.ha).andThen ((looks_specialIn (M:=M) kin T.hn).andThen ?_)
 have dd:Looks M h (Builtin.ObjectAttr.dataDescriptor? (some (.builtin "object.__class__")) (some (.builtin "getset_descriptor.__get__"))) (some (.builtin "getset_descriptor.__get__",.builtin "object.__class__")):=
  (looks_takesIn (M:=M) kin T.htk).andThen (by rw[if_pos rfl];exact Looks.now)
 exact dd.andThen (Looks.tag .now)
theorem exc_get {R:Result→Shared→Prop}{tp:Value}(T:ExcK K D) (kin:K.In s.heap) (I:ExcAt s.heap x D) (h:R (.ok (.ret (.ref D))) s) :
  codeAny (model prog w) A (.call (.builtin "getset_descriptor.__get__") ⟨[.builtin "object.__class__",.ref x,tp],[]⟩) R s:=by
 obtain⟨o,vs,e,c,dt⟩:=I.ex
 obtain⟨hh,g,dr,t,os⟩:=s
 have look1:=I.type (M:=model prog w)
 have look2:=looks_mroIn (M:=model prog w) kin T.hm
 refine codeAny_call_builtin KF.slot_gs.plain KF.entry_gs (KF.slot_gs.check _ _ _ _ _ _ _ _ KF.type_class (KF.args_gs _ _ _) ?_)
 unfold Builtin.«getset_descriptor.__get__» descrGet
 rw[dga_obj]
 refine wpAny_bind (wpAny_pure ?_)
 unfold descrGetter descrCheckInstance descrNameAndClass isInstance
 simp only[KF.owner_class]
 repeat lk
 refine⟨Code.quiet_builtin _ (by decide +kernel),codeAny_builtin KF.entry_class ?_⟩
 unfold Builtin.«object.__class__» shownTypeOf
 repeat lk
 exact h
theorem exc_class {Q:Option Value→Shared→Prop}(T:ExcK K D) (kin:K.In s.heap) (I:ExcAt s.heap x D) (h:Q (some (.ref D)) { s with toks:=s.toks+1 }):wpAny (model prog w) A (getAttr? (.ref x) "__class__") Q E s:=by
 obtain⟨hh,g,d,t,os⟩:=s
 have look1:=I.type (M:=model prog w)
 have look2:=looks_findIn (M:=model prog w) kin T.ga
 have look3:=looks_findIn (M:=model prog w) kin T.gb
 have look4:Looks (model prog w) hh (isInstance (.ref x) (.type "BaseException")) true:=look1.andThen (looks_mroIn (M:=model prog w) kin T.hb)
 have look5:=exc_find (M:=model prog w) (x:=x) T kin
 unfold getAttr? getAttrBy? getAttrBy
 refine wpAny_bind (wpAny_mkText (wpAny_bind (wpAny_attempt (wpAny_holding (wpAny_bind (look1.at (wpAny_bind (look2.at ?_))))))))
 show wpAny _ _ (getAttrByItsOwn _ _ _ _ _ _) _ _ _
 unfold getAttrByItsOwn hookBefore
 refine wpAny_bind (look3.at (wpAny_bind (wpAny_attempt (wpAny_holding ?_))))
 show wpAny _ _ (boundAndCalled _ _ _) _ _ _
 unfold boundAndCalled
 refine wpAny_bind (wpAny_of_eq (PySem.F.attr_ValueError.ga.bind (.ref x)) (wpAny_call (codeAny_call_builtin PySem.F.attr_ValueError.ga.plain PySem.F.entry_bexc_ga ?_)))
 have kind:builtinKind "BaseException.__getattribute__" = some .slot:=by decide +kernel
 have parts:splitId "BaseException.__getattribute__" = some ("BaseException","__getattribute__"):=by decide +kernel
 simp only[checkBuiltinCall,kind,parts]
 have fits:=PySem.F.args_bexc_ga (.ref x) (.str "__class__" t)
 refine wpAny_bind (look4.at ?_)
 simp only[Bool.not_true,Bool.false_eq_true,if_false]
 repeat (any_goals (first|assumption|wp_step))
 obtain⟨o,vs,e,c,dt⟩:=I.ex
 refine wpAny_loadPart_at e ?_
 rw[c]
 refine wpAny_pure (wpAny_bind (look5.at ?_))
 dsimp only
 show wpAny _ _ (holding [Value.builtin "object.__class__"] (call (.builtin "getset_descriptor.__get__") [.builtin "object.__class__",.ref x,.ref D]) >>= ret) _ _ _
 refine wpAny_bind (wpAny_holding (wpAny_call (exc_get (s:=⟨hh,g,d,t+1,os⟩) T kin ⟨o,vs,e,c,dt⟩ ?_)))
 exact wpAny_pure (wpAny_pure (wpAny_pure h))
theorem kitx_exc (T:ExcK K D):KitX K (.ref x) (.ref D) (fun h=>ExcAt h x D) where
 ty:=fun _ _ _ I=>I.type
 it:=fun _ h kin _=>by
  obtain⟨cd,a,_⟩:=Option.bind_eq_some_iff.mp T.hm
  revert a
  unfold clsIn
  split
  ·rename_i look
   intro _ A' Q' E' s' k q
   unfold isType loadHead
   exact wpAny_bind (wpAny_loadPart (k _ _ (kin _ _ look)) (wpAny_pure q))
  ·intro a;cases a
 ne:=fun h tp dd its n sl kin htp=>by
  obtain⟨cd,a,_⟩:=Option.bind_eq_some_iff.mp T.hm
  refine Bool.eq_false_iff.mpr fun q=>?_
  obtain rfl:D=tp:=Value.ref.inj (beq_iff_eq.mp q)
  revert a
  unfold clsIn
  split
  ·rename_i look
   intro _
   have z:=(kin _ _ look).symm.trans htp
   cases z
  ·intro a;cases a
 ca:=fun kin I k=>exc_class T kin I k
end
theorem isinst_exc {X:Cx}{pins:List (Addr×Obj)}{σ:St}{H:Hp}{s:Shared}{A:Around}{E:Value→Shared→Prop}{Q:Value→Shared→Prop}{c:Value}{b:Bool}{a C:Addr}(I:Inv X pins σ H s) (e:H a=some (ExcO a (.ref C))) (T:ExcK X.K C)
  (k:kitOne X.K (.ref C) c=some b) (h:∀ tk,Q (.bool b) { s with toks:=tk }):wpAny (model X.prog X.w) A (call (.builtin "isinstance") [.ref a,c]) Q E s:=by
 obtain⟨⟨oe,vs,he,hc,hd⟩,_⟩:=(show ObjOk X.prog X.w H s.heap a (ExcO a (.ref C)) from I.hok a _ e)
 exact kia_one (kitx_exc T) I.kIn ⟨oe,vs,he,hc,hd⟩ k (fun z=>nomatch z) h
end L2
set_option Elab.async false
set_option linter.all false
set_option maxRecDepth 100000
namespace L2
open PySem PySem.Spec PyProof.Rows
mutual
inductive Rp (K:PySem.W.Frag) (H:Hp):V→PyData→Prop
 | non:Rp K H .non .none
 | bl (b:Bool):Rp K H (.bl b) (.bool b)
 | int (i:Int):Rp K H (.int i) (.int i)
 | str (x:Str):Rp K H (.str x) (.str x)
 | lst {a:Addr} {vs:List V} {ds:List PyData}:SqL K H a vs→RpAll K H vs ds→Rp K H (.ref a) (.list ds)
 | tup {a:Addr} {vs:List V} {ds:List PyData}:SqT K H a vs→RpAll K H vs ds→Rp K H (.ref a) (.tuple ds)
inductive RpAll (K:PySem.W.Frag) (H:Hp):List V→List PyData→Prop
 | nil:RpAll K H [] []
 | cons {v:V} {vs:List V} {d:PyData} {ds:List PyData}:Rp K H v d→RpAll K H vs ds→RpAll K H (v::vs) (d::ds)
end
section
variable {X:Cx}{pins:List (Addr×Obj)}{σ:St}{H:Hp}{s:Shared}
mutual
theorem Rp.reads (I:Inv X pins σ H s):∀ {x:V}{d:PyData}{u:Value},Rp X.K H x d→RelV x u→∃ as,Reads s.heap u d as
 | _,_,u,.non,r=>by cases (show u=Value.none from r);exact⟨_,.none⟩
 | _,_,u,.bl b,r=>by cases (show u=Value.bool b from r);exact⟨_,.bool b⟩
 | _,_,u,.int i,r=>by obtain⟨t,rfl⟩:=(show ∃ t,u=Value.int i t from r);exact⟨_,.int i t⟩
 | _,_,u,.str x,r=>by obtain⟨t,rfl⟩:=(show ∃ t,u=Value.str x t from r);exact⟨_,.str x t⟩
 | _,_,u,@Rp.lst _ _ a vs ds q all,r=>by
  cases (show u=Value.ref a from r)
  obtain⟨its,rv,pl,_⟩:=I.list q
  obtain⟨as,ra⟩:=RpAll.reads I all rv
  obtain⟨o,n,e,c,_,d⟩:=pl
  exact⟨_,.list e c d (by simpa using ra)⟩
 | _,_,u,@Rp.tup _ _ a vs ds q all,r=>by
  cases (show u=Value.ref a from r)
  obtain⟨its,rv,pl,_⟩:=I.tuple q
  obtain⟨as,ra⟩:=RpAll.reads I all rv
  obtain⟨o,e,c,n,d⟩:=pl
  exact⟨_,.tuple e c d (by simpa using ra)⟩
theorem RpAll.reads (I:Inv X pins σ H s):∀ {xs:List V}{ds:List PyData}{us:List Value},RpAll X.K H xs ds→Vals xs us→∃ as,ReadsAll s.heap us ds as
 | _,_,_,.nil,.nil=>⟨_,.nil⟩
 | _,_,_,.cons p ps,.cons r rs=>by
  obtain⟨as,h1⟩:=Rp.reads I p r
  obtain⟨bs,h2⟩:=RpAll.reads I ps rs
  exact⟨_,.cons h1 h2⟩
end
end
def rEqD (K:PySem.W.Frag) (neg:Bool):R2:=fun x y H Q=>∃ d e,Rp K H x d∧Rp K H y e∧SeqAt.shaped d=true∧SeqAt.shaped e=true∧Q (.bl (if neg then !PyData.eqv d e else PyData.eqv d e)) H
section
variable {X:Cx}
theorem op_eqD (hu:X.A.units+64<cLine):OpR X (compareOp .Eq) (rEqD X.K false):=by
 intro pins s σ H x y v u Q I rx ry h
 obtain⟨d,e,pd,pe,sd,se,q⟩:=h
 obtain⟨_,r1⟩:=pd.reads I rx
 obtain⟨_,r2⟩:=pe.reads I ry
 exact eq_dataH r1 r2 sd se hu ⟨.bl (PyData.eqv d e),H,I,rfl,q⟩
theorem op_neD (hu:X.A.units+64<cLine):OpR X (compareOp .NotEq) (rEqD X.K true):=by
 intro pins s σ H x y v u Q I rx ry h
 obtain⟨d,e,pd,pe,sd,se,q⟩:=h
 obtain⟨_,r1⟩:=pd.reads I rx
 obtain⟨_,r2⟩:=pe.reads I ry
 exact ne_dataH r1 r2 sd se hu ⟨.bl (!PyData.eqv d e),H,I,rfl,q⟩
inductive TyX (K:PySem.W.Frag) (H:Hp):V→Value→Prop
 | plain {x:V} {t:Value}:TyOf K H x t→TyX K H x t
 | exc {a C:Addr}:H a=some (ExcO a (.ref C))→ExcK K C→TyX K H (.ref a) (.ref C)
def rIsi (K:PySem.W.Frag):List V→Hp→VK→Prop:=fun xs H Q=>match xs with
 | [x,.ty T]=>∃ t b,TyX K H x t∧PySem.W.kitOne K t (.type T)=some b∧Q (.bl b) H
 | [x,.ref C]=>∃ t b,TyX K H x t∧PySem.W.kitOne K t (.ref C)=some b∧Q (.bl b) H
 | _=>False
theorem call_isinst:CallR X (.builtin "isinstance") (rIsi X.K):=by
 intro pins s σ H xs us Q I r h
 have go:∀ {x:V} {ux c t:Value} {b:Bool},RelV x ux→TyX X.K H x t→PySem.W.kitOne X.K t c=some b→Q (.bl b) H→wpAny (model X.prog X.w) X.A (call (.builtin "isinstance") [ux,c]) (EP X pins σ Q) X.xe s:=by
  intro x ux c t b rx ty k q
  have fin:∀ tk,EP X pins σ Q (.bool b) { s with toks:=tk }:=fun tk=>⟨.bl b,H,I.tok tk,rfl,q⟩
  cases ty with
  | plain ty=>exact isinst_ok I rx ty k fin
  | exc e T=>
   cases (show ux=Value.ref _ from rx)
   exact isinst_exc I e T k fin
 unfold rIsi at h
 split at h
 ·obtain⟨t,b,ty,k,q⟩:=h
  obtain⟨ux,uc,rfl,rx,rc⟩:=vals2 r
  cases (show uc=Value.type _ from rc)
  exact go rx ty k q
 ·obtain⟨t,b,ty,k,q⟩:=h
  obtain⟨ux,uc,rfl,rx,rc⟩:=vals2 r
  cases (show uc=Value.ref _ from rc)
  exact go rx ty k q
 ·exact h.elim
theorem pe_constI {x:Str}{i:Int}{pos:Pos}(hg:Gl X x) (h:∃ t,X.mg x=some (.int i t)) (hd:(x == ("__debug__" : Str))=false:=by decide):PE X (.Name x pos) (tC (.int i)):=by
 obtain⟨t,h⟩:=h
 exact pe_glob hg h ⟨t,rfl⟩ hd
theorem kitOne_self (K:PySem.W.Frag) (t:Value):PySem.W.kitOne K t t=some true:=by
 unfold PySem.W.kitOne
 rw[if_pos (beq_self_eq_true t)]
structure InsK (K:PySem.W.Frag) (C:Addr):Prop where
 ha:PySem.W.findIn K (.ref C) "__class__" = some (some (.builtin "object.__class__"))
 hn:PySem.W.specialIn K (.builtin "object.__class__") "__get__" = some (some (.builtin "getset_descriptor.__get__"))
 ht:PySem.W.takesIn K (.builtin "object.__class__")=some true
 hm:PySem.W.mroIn K C (.type "object")=some true
end
structure MkO (K:PySem.W.Frag) (C:Addr):Prop where
 makes:PySem.W.makesIn K C=true
 init:PySem.W.findIn K (.ref C) "__init__" = some (some (.builtin "object.__init__"))
 kp:PySem.W.keepIn K (.ref C)=true
def tMakeO (C:Addr):TE:=fun _ H Q=>∀ x dx,H x=none→H dx=none→dx≠x→Q (.ref x) (upd (upd H dx (.own x)) x (.ins C dx []))
section
variable {X:Cx}{C:Addr}{x:Str}{p pos:Pos}
theorem pe_makeO (M:MkO X.K C) (hg:Gl X x) (hm:X.mg x=some (.ref C)) (hdb:(x == ("__debug__" : Str))=false:=by decide):PE X (.Call (.Name x p) [] [] pos) (tMakeO C):=by
 intro pins s σ H Q I h
 refine wpAny_Call_Name_kw (ld_glob I hg hm ?_ hdb)
 refine PySem.W.callWith_K0 I.kIn M.kp ?_
 have I2:=Inv.made (C:=C) I
 have hq:=h (s.heap.objs.size+1) s.heap.objs.size (I.hok.fresh (Nat.le_succ _)) (I.hok.fresh (Nat.le_refl _)) (Nat.ne_of_lt (Nat.lt_succ_self _))
 refine wpAny_call (make_map0 I.kIn M.makes M.init (fun self=>PySem.W.Looks.of_pure (PySem.W.oi_bind self)) ?_)
 obtain⟨hh,g,d,t,os⟩:=s
 have at_:((hh.push PySem.W.emptyDict).push (PySem.W.instObj C hh.objs.size)).get? (hh.objs.size+1)=some (PySem.W.instObj C hh.objs.size):=by
  have:=Heap.get?_push_size (hh.push PySem.W.emptyDict) (o:=PySem.W.instObj C hh.objs.size) rfl
  rwa [Heap.size_push] at this
 have look:PySem.W.Looks (model X.prog X.w) ((hh.push PySem.W.emptyDict).push (PySem.W.instObj C hh.objs.size)) (typeOf (.ref (hh.objs.size+1))) (.ref C):=(PySem.W.Looks.ld at_).andThen .now
 have top:=(PySem.W.makes_of (M:=model X.prog X.w) I.kIn M.makes).top
 have obj:PySem.W.Looks (model X.prog X.w) ((hh.push PySem.W.emptyDict).push (PySem.W.instObj C hh.objs.size)) (isInstance (.ref (hh.objs.size+1)) (.type "object")) true:=
  look.andThen (top.keeps fun b o e=>Heap.get?_push_of_some _ (Heap.get?_push_of_some _ e))
 refine codeAny_call_builtin PySem.W.oi_plain PySem.W.entry_oi (@PySem.W.check_slot (model X.prog X.w) _ _ _ _ _ _ _ [] [] _ PySem.W.oi_kind PySem.W.oi_split obj (PySem.W.oi_args _) ?_)
 rw[PySem.W.oi_run]
 exact wpAny_pure ⟨rfl,.ref (hh.objs.size+1),_,I2,rfl,hq⟩
end
end L2
set_option Elab.async false
set_option linter.all false
set_option maxRecDepth 100000
namespace L2
open PySem PySem.Spec PyProof.Rows
section
variable {X:Cx}{K:PySem.W.Frag}{a b e o value l:Expr}{es:List Expr}{f name:Str}{pos pos' apos cpos:Pos}{ta tb tv tl to:TE}{t:TA}{tg:Expr}
theorem pe_fldK (he:PE X e ta) (hb:attributeBase e f X.env (eval e X.env)=eval e X.env) (hK:X.K=K:=by rfl):PE X (.Attribute e f pos) (tFld K ta f):=hK ▸ pe_fld he hb
theorem ps_fldK (ha:PE X o ta) (hv:PE X value tv) (hs:swapsWith value (some (.Attribute o f pos')) pos.line X.env=pure false) (hK:X.K=K:=by rfl):PS X (.Assign [.Attribute o f pos'] value pos) (sFld K ta tv f):=hK ▸ ps_fld ha hv hs
theorem pi_listK (hl:PE X l tl) (hK:X.K=K:=by rfl):PI X tg l (iList K tl):=hK ▸ pi_list hl
theorem pi_tupK (hl:PE X l tl) (hK:X.K=K:=by rfl):PI X tg l (iTup K tl):=hK ▸ pi_tup hl
theorem ix_listK (hK:X.K=K:=by rfl):IxR X (rIxL K):=hK ▸ ix_list
theorem ix_tupK (hK:X.K=K:=by rfl):IxR X (rIxT K):=hK ▸ ix_tup
theorem sl_listK (hK:X.K=K:=by rfl):SlR X (rSlL K):=hK ▸ sl_list
theorem op_inK (hK:X.K=K:=by rfl):OpR X (compareOp .In) (rIn K false):=hK ▸ op_in_seq
def rLen (K:PySem.W.Frag):List V→Hp→VK→Prop:=fun xs H Q=>∃ p ys,xs=[.ref p]∧(SqL K H p ys∨SqT K H p ys)∧Q (.int ys.length) H
theorem call_lenK (hK:X.K=K:=by rfl):CallR X (.builtin "len") (rLen K):=hK ▸ call_len_seq
def rListOf (K:PySem.W.Frag):List V→Hp→VK→Prop:=fun xs H Q=>∃ p ys,xs=[.ref p]∧(SqL K H p ys∨SqT K H p ys)∧∀ l,H l=none→Q (.ref l) (upd H l (.lst ys))
theorem call_listK (hK:X.K=K:=by rfl):CallR X (.type "list") (rListOf K):=hK ▸ call_list_of
def rTupleOf (K:PySem.W.Frag):List V→Hp→VK→Prop:=fun xs H Q=>∃ p ys,xs=[.ref p]∧((SqL K H p ys∧∀ l,H l=none→Q (.ref l) (upd H l (.tup ys)))∨(SqT K H p ys∧Q (.ref p) H))
theorem call_tupleK (hK:X.K=K:=by rfl):CallR X (.type "tuple") (rTupleOf K):=hK ▸ call_tuple_of
theorem op_eqDK (hu:X.A.units+64<cLine) (hK:X.K=K:=by rfl):OpR X (compareOp .Eq) (rEqD K false):=hK ▸ op_eqD hu
theorem op_neDK (hu:X.A.units+64<cLine) (hK:X.K=K:=by rfl):OpR X (compareOp .NotEq) (rEqD K true):=hK ▸ op_neD hu
theorem call_isinstK (hK:X.K=K:=by rfl):CallR X (.builtin "isinstance") (rIsi K):=hK ▸ call_isinst
theorem pg_tupK {k:Nat}{u:TGs}{n:Nat}(hc:X.calm=true) (h:PGs X es u) (hn:(assignEach es X.env).length=n:=by rfl) (hst:(assignEach es X.env).findIdx? (·.1)=none:=by rfl) (hK:X.K=K:=by rfl):PG X (.Tuple es k pos) (gTup K n u):=hK ▸ pg_tup hc h hn hst
variable {T id:String}{r:V→List V→Hp→VK→Prop}
theorem pe_bm0K (pa:PlainAttrs T) (slot:Slot T name id) (hty:typeOf (.builtin id)=pure (.type "method_descriptor")) (hm:MtR X id r) (ho:PE X o to)
  (hbase:attributeBase o name X.env (eval o X.env)=eval o X.env:=by rfl) (hline:(apos.endLine == cpos.line)=true:=by rfl) (hK:X.K=K:=by rfl):PE X (.Call (.Attribute o name apos) [] [] cpos) (tBM0 K T r to):=hK ▸ pe_bm0 pa slot hty hm ho hbase hline
theorem pe_bmK (pa:PlainAttrs T) (slot:Slot T name id) (hty:typeOf (.builtin id)=pure (.type "method_descriptor")) (hm:MtR X id r) (ho:PE X o to) (ha:PA X (e::es) t)
  (hbase:attributeBase o name X.env (eval o X.env)=eval o X.env:=by rfl)
  (hfew:((backTo cpos (starEach (e::es) X.env)).all (fun x=>!x.1) && (backToKw cpos (keywordEach [] X.env)).all (fun x=>x.1.isSome)
   && decide ((e::es).length+([]:List Keyword).length+(if ([]:List Keyword).isEmpty then 0 else 1)<30))=true:=by rfl)
  (hline:(apos.endLine == cpos.line)=true:=by rfl) (hs:starEach (e::es) X.env=(false,eval e X.env)::starEach es X.env:=by rfl) (hplain:(backTo cpos (starEach es X.env)).any (·.1)=false:=by rfl) (hK:X.K=K:=by rfl) :
  PE X (.Call (.Attribute o name apos) (e::es) [] cpos) (tBM K T r to t):=hK ▸ pe_bm pa slot hty hm ho ha hbase hfew hline hs hplain
end
end L2
set_option Elab.async false
set_option linter.all false
set_option maxRecDepth 100000
namespace L2
open PySem PySem.Spec PyProof.Rows
theorem iteFe {k:Bool}{A B:Prop}(h:k=false) (hb:B):if k=true then A else B:=by rw[h];exact iteF hb
theorem iteTe {k:Bool}{A B:Prop}(h:k=true) (ha:A):if k=true then A else B:=by rw[h];exact iteT ha
theorem Same.new {H:Hp}{p:Addr}{o:HO}(h:H p=none):Same H (upd H p o):=fun b u e=>by rw[upd_ne (ne_of_none e h)];exact e
theorem Same.tup {K:PySem.W.Frag}{H H':Hp}{a:Addr}{xs:List V}(e:Same H H') (h:SqT K H a xs):SqT K H' a xs:=by
 rcases h with (h|⟨o,h⟩)|h
 ·exact .inl (.inl (e _ _ h))
 ·exact .inl (.inr ⟨o,e _ _ h⟩)
 ·exact .inr h
mutual
theorem Rp.same {K:PySem.W.Frag}{H H':Hp}(e:Same H H'):∀ {v:V}{d:PyData},Rp K H v d→Rp K H' v d
 | _,_,.non=>.non
 | _,_,.bl b=>.bl b
 | _,_,.int i=>.int i
 | _,_,.str x=>.str x
 | _,_,.lst q a=>.lst (e.seq q) (RpAll.same e a)
 | _,_,.tup q a=>.tup (e.tup q) (RpAll.same e a)
theorem RpAll.same {K:PySem.W.Frag}{H H':Hp}(e:Same H H'):∀ {vs:List V}{ds:List PyData},RpAll K H vs ds→RpAll K H' vs ds
 | _,_,.nil=>.nil
 | _,_,.cons p ps=>.cons (p.same e) (RpAll.same e ps)
end
mutual
def noDict:PyData→Bool
 | .none=>true
 | .bool _=>true
 | .int _=>true
 | .str _=>true
 | .list xs=>noDicts xs
 | .tuple xs=>noDicts xs
 | .dict _=>false
def noDicts:List PyData→Bool
 | []=>true
 | x::xs=>noDict x && noDicts xs
end
mutual
theorem eqv_self:∀ {d:PyData},noDict d=true→PyData.eqv d d=true
 | .none,_=>by simp[PyData.eqv]
 | .bool _,_=>by simp[PyData.eqv]
 | .int _,_=>by simp[PyData.eqv]
 | .str _,_=>by simp[PyData.eqv]
 | .list xs,h=>by rw[PyData.eqv];exact eqvAll_self (by simpa [noDict] using h)
 | .tuple xs,h=>by rw[PyData.eqv];exact eqvAll_self (by simpa [noDict] using h)
 | .dict _,h=>by simp[noDict] at h
theorem eqvAll_self:∀ {ds:List PyData},noDicts ds=true→PyData.eqvAll ds ds=true
 | [],_=>by simp[PyData.eqvAll]
 | x::xs,h=>by
  rw[noDicts,Bool.and_eq_true] at h
  rw[PyData.eqvAll,eqv_self h.1,eqvAll_self h.2]
  rfl
end
theorem Same.ins {H:Hp}{x dx:Addr}{o:HO}(nx:H x=none) (ndx:H dx=none):Same H (upd (upd H dx (.own x)) x o):=fun b u e=>by
 rw[upd_ne (ne_of_none e nx),upd_ne (ne_of_none e ndx)];exact e
end L2
set_option Elab.async false
set_option linter.all false
set_option maxRecDepth 100000
namespace SetT
end SetT
namespace L2.SetT
end L2.SetT
namespace L2
open PySem PySem.Spec PyProof.Rows
def iV (ns:List Int):List V:=ns.map V.int
theorem small63 {n:Nat}(h:n≤64):n≤sizeLine:=Nat.le_trans h (by decide)
end L2
set_option Elab.async false
set_option linter.all false
set_option maxRecDepth 100000
namespace L2
open PySem PySem.Spec PyProof.Rows SetT
section
variable {X:Cx}{K:PySem.W.Frag}{P:Program}{w:World}
end
end L2
set_option Elab.async false
set_option linter.all false
set_option maxRecDepth 100000
namespace L2
open PySem PySem.Spec PyProof.Rows SetT
section
variable {X:Cx}{pins:List (Addr×Obj)}{σ:St}{H:Hp}{s:Shared}{h':Heap}
theorem Inv.turnedNew {t':Nat}{its:List Addr}{a:Addr}{o:HO}(I:Inv X pins σ H s) (k:∀ b u,b∉its→s.heap.get? b=some u→h'.get? b=some u) (hf:∀ b∈its,FpOk X pins H b)
  (hp:s.heap.objs.size≤a) (new:ObjOk X.prog X.w (upd H a o) h' a o):Inv X pins σ (upd H a o) { s with heap:=h',toks:=t' }:=by
 have hn:H a=none:=I.hok.fresh hp
 have nit:∀ b u,H b=some u→b∉its:=fun b u e z=>by rw[(hf b z).1] at e;cases e
 have ne:∀ b u,s.heap.get? b=some u→b≠a:=fun b u e z=>absurd (Nat.lt_of_lt_of_le (Heap.lt_size e) (by rw[z];exact hp)) (Nat.lt_irrefl _)
 refine I.step (g':=s.gens) (d':=s.drawn) (ch:=its) (fun b hb=>?_) (fun b u _ _ hc e _=>k b u hc e) (fun b u _ _ hc e _=>⟨u.slots,k b u hc e⟩) (fun b u _ e n=>by rw[upd_ne (ne b u e)];exact n)
  (fun b u hc e=>⟨u,k b u hc e⟩) (fun b xs e=>by rw[upd_ne (ne_of_none e hn)];exact e) (fun b u v e=>by rw[upd_ne (ne_of_none e hn)];exact e) (fun b ps e=>⟨#[],by rw[upd_ne (ne_of_none e hn),e];simp⟩) (fun m hm=>?_) (fun b u e=>?_) I.bare
 ·obtain⟨f0,f1,f2,f3,f4,f5⟩:=hf b hb
  exact⟨f3,f1,f4,f5⟩
 ·obtain⟨u,es,ep,ho,r⟩:=hm
  exact⟨u,es,ep,k _ u (fun z=>(hf _ z).2.1 rfl) ho,r⟩
 ·by_cases hb:b=a
  ·subst hb;rw[upd_same] at e;cases e;exact new
  ·rw[upd_ne hb] at e
   refine(I.hok b u e).stay (fun c v hc q=>k c v ?_ q) (fun c q=>by rw[upd_ne (ne_of_none q hn)];exact q) fun c xs q=>by rw[upd_ne (ne_of_none q hn)];exact q
   rcases hc with z|z
   ·rw[z];exact nit b u e
   ·exact nit c _ z
theorem Inv.turnedL {t':Nat}{its:List Addr}(I:Inv X pins σ H s) (k:∀ b u,b∉its→s.heap.get? b=some u→h'.get? b=some u) (hf:∀ b∈its,FpOk X pins H b):Inv X pins σ H { s with heap:=h',toks:=t' }:=by
 have nit:∀ b u,H b=some u→b∉its:=fun b u e z=>by rw[(hf b z).1] at e;cases e
 refine I.step (g':=s.gens) (d':=s.drawn) (ch:=its) (fun b hb=>?_) (fun b u _ _ hc e _=>k b u hc e) (fun b u _ _ hc e _=>⟨u.slots,k b u hc e⟩) (fun b u _ e n=>n)
  (fun b u hc e=>⟨u,k b u hc e⟩) (fun b xs e=>e) (fun b u v e=>e) (fun b ps e=>⟨#[],by rw[e];simp⟩) (fun m hm=>?_) (fun b u e=>?_) I.bare
 ·obtain⟨f0,f1,f2,f3,f4,f5⟩:=hf b hb
  exact⟨f3,f1,f4,f5⟩
 ·obtain⟨u,es,ep,ho,r⟩:=hm
  exact⟨u,es,ep,k _ u (fun z=>(hf _ z).2.1 rfl) ho,r⟩
 ·refine(I.hok b u e).stay (fun c v hc q=>k c v ?_ q) (fun c q=>q) fun c xs q=>q
  rcases hc with z|z
  ·rw[z];exact nit b u e
  ·exact nit c _ z
end
def Itz (K:PySem.W.Frag) (l1 l2:Addr):It:=
  ⟨fun i H=>∃ xs ys x y,SqL K H l1 xs∧SqL K H l2 ys∧xs[i]? = some x∧ys[i]? = some y,
   fun i H v H'=>∃ p x y,H p=none∧v=.ref p∧H'=upd H p (.tup [x,y])∧(∀ xs,SqL K H l1 xs→xs[i]? = some x)∧∀ ys,SqL K H l2 ys→ys[i]? = some y,
   fun i H=>∃ xs ys,SqL K H l1 xs∧SqL K H l2 ys∧(xs.length≤i∨ys.length≤i)⟩
theorem turn_zip {P:Program}{w:World}{K:PySem.W.Frag}{es:List Expr}{kk:Nat}{pos:Pos}(z TI TO i1 i2 l1 l2:Addr) (D:ZipApart z TI TO i1 i2 l1 l2) :
  Turn P w K (.Tuple es kk pos) (Itz K l1 l2) [z,TI,TO,i1,i2] z
   (fun i h=>IsZip h z TI TO .none∧IsPair h TI (.ref i1) (.ref i2)∧(∃ a b,IsPair h TO a b)∧h.IsListIter i1 l1 i∧h.IsListIter i2 l2 i) where
 mem:=by simp
 obj:=fun i h st b hb=>by
  obtain⟨hz,hTI,⟨a,c,hTO⟩,⟨o1,e1,_,d1⟩,⟨o2,e2,_,d2⟩⟩:=st
  simp only[List.mem_cons,List.not_mem_nil,or_false] at hb
  rcases hb with rfl|rfl|rfl|rfl|rfl
  ·exact⟨_,hz,fun v q=>by cases q⟩
  ·exact⟨_,hTI,fun v q=>by cases q⟩
  ·exact⟨_,hTO,fun v q=>by cases q⟩
  ·exact⟨_,e1,fun v q=>by rw[d1] at q;cases q⟩
  ·exact⟨_,e2,fun v q=>by rw[d2] at q;cases q⟩
 keep:=fun i h h' st k=>by
  obtain⟨hz,hTI,⟨a,b,hTO⟩,h1,h2⟩:=st
  exact⟨k z (by simp) _ hz,k TI (by simp) _ hTI,⟨a,b,k TO (by simp) _ hTO⟩,h1.at fun o e=>k i1 (by simp) o e,h2.at fun o e=>k i2 (by simp) o e⟩
 item:=by
  intro X hP hw hK hc i pins s σ H E I hf st hg
  subst hP hw hK
  obtain⟨xs,ys,x,y,q1,q2,hx,hy⟩:=hg
  obtain⟨its1,rv1,p1,hz1⟩:=I.list q1
  obtain⟨its2,rv2,p2,hz2⟩:=I.list q2
  obtain⟨u1,hu1,ru1⟩:=rv1.get hx
  obtain⟨u2,hu2,ru2⟩:=rv2.get hy
  obtain⟨hz,hTI,⟨a,b,hTO⟩,h1,h2⟩:=st
  have lt:∀ {c o},s.heap.get? c=some o→s.heap.objs.size≠c:=fun e=>Nat.ne_of_gt (Heap.lt_size e)
  have n1:s.heap.objs.size≠z:=lt hz
  refine wpAny_pyNext_zip_item D hz hTI hTO h1 h2 p1.isList p2.isList (x:=u1) (y:=u2) (by simpa using hu1) (by simpa using hu2) fun h' a1 a2 a3 a4 a5 a6 hk=>?_
  refine⟨_,rfl,wpAny_letOwnedTupleGo_zip a1 fun h'' hz'' sb=>?_⟩
  have k2:∀ c o,c∉[z,TI,TO,i1,i2]→s.heap.get? c=some o→h''.get? c=some o:=fun c o hc e=>by
   simp only[List.mem_cons,List.not_mem_nil,or_false,not_or] at hc
   rw[sb.2 c hc.1]
   exact hk c o hc.1 hc.2.2.1 hc.2.2.2.1 hc.2.2.2.2 e
  have new:ObjOk X.prog X.w (upd H s.heap.objs.size (.tup [x,y])) h'' s.heap.objs.size (.tup [x,y]):=by
   have e5:h''.get? s.heap.objs.size=some { cls:=.type "tuple",data:=.seq #[u1,u2] }:=(sb.2 _ n1).trans a5
   exact⟨small63 (by simp),[u1,u2],.cons ru1 (.cons ru2 .nil),_,e5,rfl,_,rfl⟩
  refine⟨.ref s.heap.objs.size,_,I.turnedNew (t':=s.toks) k2 hf (Nat.le_refl _) new,rfl,⟨_,x,y,I.fresh,rfl,rfl,fun zs hs=>by rw[I.list_inj hs q1];exact hx,fun zs hs=>by rw[I.list_inj hs q2];exact hy⟩,?_,fun c hc=>?_⟩
  ·exact⟨hz'',(sb.2 _ D.TIz).trans (hk _ _ D.TIz D.TITO D.TIi1 D.TIi2 hTI),⟨_,_,(sb.2 _ D.TOz).trans a2⟩,a3.extBut sb.extBut D.i1z,a4.extBut sb.extBut D.i2z⟩
  ·rw[upd_ne]
   ·exact(hf c hc).1
   ·simp only[List.mem_cons,List.not_mem_nil,or_false] at hc
    rcases hc with rfl|rfl|rfl|rfl|rfl
    ·exact Ne.symm (lt hz)
    ·exact Ne.symm (lt hTI)
    ·exact Ne.symm (lt hTO)
    ·obtain⟨_,e,_⟩:=h1;exact Ne.symm (lt e)
    ·obtain⟨_,e,_⟩:=h2;exact Ne.symm (lt e)
 done:=by
  intro X hP hw hK hc i pins s σ H E I hf st hg
  subst hP hw hK
  obtain⟨xs,ys,q1,q2,hend⟩:=hg
  obtain⟨its1,rv1,p1,hz1⟩:=I.list q1
  obtain⟨its2,rv2,p2,hz2⟩:=I.list q2
  obtain⟨hz,hTI,⟨a,b,hTO⟩,h1,h2⟩:=st
  have len1:=rv1.length
  have len2:=rv2.length
  refine wpAny_pyNext_zip_end (I.ok.hd hc) D hz hTI hTO h1 h2 p1.isList p2.isList (by
   rcases hend with z|z
   ·exact .inl (by simp;omega)
   ·exact .inr (by simp;omega)) fun h' hk=>⟨rfl,I.turnedL (t':=s.toks) (its:=[z,TI,TO,i1,i2]) (fun c o hc e=>?_) hf⟩
  simp only[List.mem_cons,List.not_mem_nil,or_false,not_or] at hc
  exact hk c o hc.1 hc.2.2.1 hc.2.2.2.1 hc.2.2.2.2 e
 self:=fun _ _ _ _ _ st h=>wpAny_pyIter_zip st.1 h
section
variable {X:Cx}{K:PySem.W.Frag}
def iZip (K:PySem.W.Frag) (ta:TA):TI:=fun σ H R=>ta σ H fun vs H1=>∃ p q xs ys,vs=[.ref p,.ref q]∧SqL K H1 p xs∧SqL K H1 q ys∧R (Itz K p q) H1
theorem pi_zip {a b:Expr}{ta:TA}{p pos pos':Pos}{es:List Expr}{kk:Nat}(hg:Gl X "zip") (hm:X.mg "zip" = none) (ha:PA X [a,b] ta) (hs:starEach [a,b] X.env=[(false,eval a X.env),(false,eval b X.env)]:=by rfl) (hs2:starEach [b] X.env=[(false,eval b X.env)]:=by rfl) (hK:X.K=K:=by rfl) :
  PI X (.Tuple es kk pos') (.Call (.Name "zip" p) [a,b] [] pos) (iZip K ta):=by
 subst hK
 intro pins s σ H R I h
 refine Call_ (ld_blt I hg hm boot_zip (PyProof.Rows.callWith_type1 (thn (ha pos pins s σ H _ I h) fun us s1 ⟨vs,H1,I1,r1,q1⟩=>?_) (by rw[hs,hs2]) (by rw[hs2];rfl)))
 obtain⟨l1,l2,xs,ys,rfl,q1,q2,q⟩:=q1
 obtain⟨u,v,rfl,rx,ry⟩:=vals2 r1
 cases rx;cases ry
 obtain⟨its1,rv1,p1,hz1⟩:=I1.list q1
 obtain⟨its2,rv2,p2,hz2⟩:=I1.list q2
 have lt1:l1<s1.heap.objs.size:=by obtain⟨o,e,_⟩:=p1.isList;exact Heap.lt_size e
 have lt2:l2<s1.heap.objs.size:=by obtain⟨o,e,_⟩:=p2.isList;exact Heap.lt_size e
 refine call_zip_2 p1.isList p2.isList fun h' z1 z2 z3 z4 z5 z6 kp=>?_
 refine wpAny_pyIter_zip z1 ?_
 refine⟨_,_,_,Itz X.K l1 l2,H1,rfl,I1.kept (t':=s1.toks) kp,turn_zip _ _ _ _ _ l1 l2 (zipApart_new lt1 lt2),⟨z1,z2,⟨_,_,z3⟩,z4,z5⟩,fun b hb=>?_,q⟩
 have ge:s1.heap.objs.size≤b:=by
  simp only[List.mem_cons,List.not_mem_nil,or_false] at hb
  rcases hb with rfl|rfl|rfl|rfl|rfl<;>first|exact Nat.le_refl _|exact Nat.le_add_right _ _
 exact I1.fpOk ge (I1.hok.fresh ge)
def rAll (K:PySem.W.Frag):List V→Hp→VK→Prop:=fun xs H Q=>∃ (p:Addr) (bs:List Bool),xs=[.ref p]∧SqL K H p (bs.map V.bl)∧Q (.bl (bs.all id)) H
theorem call_allL (hc:X.calm=true) (hK:X.K=K:=by rfl):CallR X (.builtin "all") (rAll K):=by
 subst hK
 intro pins s σ H xs us Q I r h
 obtain⟨p,bs,rfl,hq,q⟩:=h
 obtain⟨u,rfl,rx⟩:=vals1 r
 cases rx
 obtain⟨its,rv,pl,hz⟩:=I.list hq
 have len:bs.length=its.length:=by have:=rv.length;rwa [List.length_map] at this
 have lt:p<s.heap.objs.size:=by obtain⟨o,e,_⟩:=pl.isList;exact Heap.lt_size e
 refine call_all_walk (wpAny_pyIter_list pl.isList ⟨s.heap.objs.size,_,_,_,_,_,fun i=>bs.getD i false,rfl,Walks.list (by simpa using I.ok.hd hc) s.heap.objs.size p (Nat.ne_of_lt lt) its.toArray,⟨⟨_,Heap.get?_push_size _ rfl,rfl,rfl⟩,pl.isList.push _⟩,fun i v s Q E hv hQ=>?_,fun h' tk kp=>?_⟩)
 ·have hv':its[i]? = some v:=by simpa using hv
  have li:i<bs.length:=by rw[len];exact(List.getElem?_eq_some_iff.mp hv').1
  obtain⟨u,hu,ru⟩:=rv.get (i:=i) (x:=V.bl bs[i]) (by rw[List.getElem?_map,List.getElem?_eq_getElem li];rfl)
  rw[hv'] at hu
  cases hu
  cases ru
  have e:bs.getD i false=bs[i]:=by rw[List.getD_eq_getElem?_getD,List.getElem?_eq_getElem li];rfl
  dsimp only at hQ
  rw[e] at hQ
  exact wpAny_truthy_bool hQ
 ·have I1:Inv X pins σ H { s with heap:=h',toks:=tk }:=I.kept fun b o e=>kp b o (by simp only[List.mem_singleton];exact Nat.ne_of_lt (Heap.lt_size e)) (Heap.get?_push_of_some _ e)
  have e:(List.range its.toArray.size).all (fun i=>bs.getD i false)=bs.all id:=by
   rw[List.size_toArray,← len]
   clear q rv hz hq len
   induction bs with
   | nil=>rfl
   | cons b bs ih=>
    rw[List.length_cons,List.range_succ_eq_map,List.all_cons,List.all_map,List.all_cons,← ih]
    rfl
  rw[e]
  exact⟨.bl (bs.all id),H,I1,rfl,q⟩
end
end L2
namespace L2
theorem pe_alt {X:Cx}{e:PySem.Expr}{t u:TE}(h:PE X e t) (k:PE X e u):PE X e (fun σ H Q=>t σ H Q∨u σ H Q):=by
 intro pins s σ H Q I q
 rcases q with q|q
 ·exact h pins s σ H Q I q
 ·exact k pins s σ H Q I q
end L2
set_option Elab.async false
set_option linter.all false
set_option maxRecDepth 100000
namespace L2
open PySem PySem.Spec PyProof.Rows
def isStar:Expr→Bool
 | .Starred .. => true
 | _=>false
theorem star_ne {e:Expr}{es:List Expr}{env:Env}(h:isStar e=false):starEach (e::es) env=(false,eval e env)::starEach es env:=by
 cases e<;>first|rfl|cases h
theorem pa_c {X:Cx}{e:Expr}{es:List Expr}{te:TE}{t:TA}(ha:PE X e te) (hr:PA X es t) (h:isStar e=false:=by rfl):PA X (e::es) (tCons te t):=pa_cons ha hr (star_ne h)
end L2
set_option Elab.async false
set_option linter.all false
set_option maxRecDepth 100000
namespace L2
open PySem PySem.Spec PyProof.Rows SetT
abbrev Nx (n i:Nat) (A:Prop):Prop:=∃ m',m'<n-i∧(m'=n-(i+1)∧i+1≤n∧A)
theorem Nx.mk {n i:Nat}{A:Prop}(h:i<n) (a:A):Nx n i A:=⟨n-(i+1),by omega,rfl,h,a⟩
theorem comp_list {K:PySem.W.Frag}{a:Addr}{xs:List V}{k:Nat}{g:TG}{tc:TT}{te:TE}{σ:St}{H1:Hp}{Q:VK}(few:xs.length≤1000)
  (h:∀ acc,H1 acc=none→∃ Pv:Nat→St→List V→Hp→Prop,Pv 0 (σ++List.replicate k none) [] (upd H1 acc (.lst []))∧(∀ i σ2 ys H2,i≤xs.length→Pv i σ2 ys H2→SqL K H2 a xs∧ys.length≤i) ∧
   (∀ i x σ2 ys H2,i<xs.length→xs[i]? = some x→Pv i σ2 ys H2→g x σ2 H2 fun σ4 H4=>tc σ4 H4 fun b H5=>if b=true then te σ4 H5 fun v H6=>H6 acc=some (.lst ys)∧Nx xs.length i (Pv (i+1) σ4 (ys++[v]) (upd H6 acc (.lst (ys++[v])))) else Nx xs.length i (Pv (i+1) σ4 ys H5)) ∧
   ∀ σ2 ys H2,Pv xs.length σ2 ys H2→Q (.ref acc) H2):CompR (Itl K a) k g tc te σ H1 Q:=by
 intro acc ha
 obtain⟨Pv,p0,pl,ps,pd⟩:=h acc ha
 refine⟨fun i m σ2 ys H2=>m=xs.length-i∧i≤xs.length∧Pv i σ2 ys H2,⟨xs.length,by simp,Nat.zero_le _,p0⟩,?_⟩
 rintro i m σ2 ys H2 ⟨rfl,hi,p⟩
 obtain⟨q,len⟩:=pl i σ2 ys H2 hi p
 by_cases hlt:i<xs.length
 ·refine .inr ⟨⟨xs,xs[i],q,by simp[hlt]⟩,Nat.lt_of_le_of_lt len (small1000 (by omega)),fun x H3 y=>?_⟩
  obtain⟨e,y⟩:=y
  subst e
  exact ps i x σ2 ys _ hlt (y xs q) p
 ·have e:i=xs.length:=by omega
  subst e
  exact .inl ⟨⟨xs,q,Nat.le_refl _⟩,pd σ2 ys H2 p⟩
theorem comp_range {lo:Int}{n:Nat}{k:Nat}{g:TG}{tc:TT}{te:TE}{σ:St}{H1:Hp}{Q:VK}(few:n≤1000)
  (h:∀ acc,H1 acc=none→∃ Pv:Nat→St→List V→Hp→Prop,Pv 0 (σ++List.replicate k none) [] (upd H1 acc (.lst []))∧(∀ i σ2 ys H2,i≤n→Pv i σ2 ys H2→ys.length≤i) ∧
   (∀ i σ2 ys H2,i<n→Pv i σ2 ys H2→g (.int (lo+i)) σ2 H2 fun σ4 H4=>tc σ4 H4 fun b H5=>if b=true then te σ4 H5 fun v H6=>H6 acc=some (.lst ys)∧Nx n i (Pv (i+1) σ4 (ys++[v]) (upd H6 acc (.lst (ys++[v])))) else Nx n i (Pv (i+1) σ4 ys H5)) ∧
   ∀ σ2 ys H2,Pv n σ2 ys H2→Q (.ref acc) H2):CompR (Itr lo n) k g tc te σ H1 Q:=by
 intro acc ha
 obtain⟨Pv,p0,pl,ps,pd⟩:=h acc ha
 refine⟨fun i m σ2 ys H2=>m=n-i∧i≤n∧Pv i σ2 ys H2,⟨n,by simp,Nat.zero_le _,p0⟩,?_⟩
 rintro i m σ2 ys H2 ⟨rfl,hi,p⟩
 have len:=pl i σ2 ys H2 hi p
 by_cases hlt:i<n
 ·refine .inr ⟨hlt,Nat.lt_of_le_of_lt len (small1000 (by omega)),fun x H3 y=>?_⟩
  obtain⟨e,rfl⟩:=y
  subst e
  exact ps i σ2 ys _ hlt p
 ·have e:i=n:=by omega
  subst e
  exact .inl ⟨Nat.le_refl _,pd σ2 ys H2 p⟩
def But (S:List Addr) (H H':Hp):Prop:=∀ b o,b∉S→H b=some o→H' b=some o
theorem But.of {H H':Hp}{S:List Addr}(h:Same H H'):But S H H':=fun b o _ e=>h b o e
theorem But.trans {H H' H'':Hp}{S:List Addr}(h:But S H H') (k:But S H' H''):But S H H'':=fun b o n e=>k b o n (h b o n e)
theorem But.mono {H H':Hp}{S S':List Addr}(h:But S H H') (k:∀ b∈S,b∈S'):But S' H H':=fun b o n e=>h b o (fun z=>n (k b z)) e
theorem But.upd {H:Hp}{p:Addr}{o:HO}:But [p] H (upd H p o):=fun b u n e=>by rw[upd_ne (fun z=>n (by simp[z]))];exact e
structure Grow (H G G' H':Hp):Prop where
 sub:Same G G'
 held:Same G' H'
 new:∀ b o,G' b=some o→G b=some o∨H b=none
theorem Grow.free {H G G' H':Hp}(g:Grow H G G' H') {b:Addr}(h:H b≠none) (n:G b=none):G' b=none:=by
 cases e:G' b with
 | none=>rfl
 | some o=>
  rcases g.new b o e with z|z
  ·rw[n] at z;cases z
  ·exact absurd z h
end L2
set_option Elab.async false
set_option linter.all false
set_option maxRecDepth 100000
namespace L2
open PySem PySem.Spec PyProof.Rows
def okD (n:Nat) (d:PyData):Prop:=d.canLay0=true∧d.depth≤n∧noDict d=true
theorem okD.int {n:Nat}{i:Int}:okD n (.int i):=⟨by simp[PyData.canLay0],by simp[PyData.depth],by simp[noDict]⟩
theorem okD.bool {n:Nat}{i:Bool}:okD n (.bool i):=⟨by simp[PyData.canLay0],by simp[PyData.depth],by simp[noDict]⟩
theorem okD.none {n:Nat}:okD n .none:=⟨by simp[PyData.canLay0],by simp[PyData.depth],by simp[noDict]⟩
theorem okD.all {n:Nat}:∀ {xs:List PyData},(∀ d∈xs,okD n d)→PyData.canLayAll0 xs=true∧PyData.depthAll xs≤n∧noDicts xs=true
 | [],_=>⟨by simp[PyData.canLayAll0],by simp[PyData.depthAll],by simp[noDicts]⟩
 | x::xs,h=>by
  obtain⟨a,b,c⟩:=okD.all fun d hd=>h d (List.mem_cons_of_mem _ hd)
  obtain⟨a',b',c'⟩:=h x List.mem_cons_self
  refine⟨by simp[PyData.canLayAll0,a,a'],?_,by simp[noDicts,c,c']⟩
  rw[PyData.depthAll]
  omega
theorem okD.list {n:Nat}{xs:List PyData}(h:∀ d∈xs,okD n d):okD (n+1) (.list xs):=by
 obtain⟨a,b,c⟩:=okD.all h
 exact⟨by simp[PyData.canLay0,a],by rw[PyData.depth];omega,by simp[noDict,c]⟩
theorem okD.tuple {n:Nat}{xs:List PyData}(h:∀ d∈xs,okD n d):okD (n+1) (.tuple xs):=by
 obtain⟨a,b,c⟩:=okD.all h
 exact⟨by simp[PyData.canLay0,a],by rw[PyData.depth];omega,by simp[noDict,c]⟩
theorem okD.mono {n m:Nat}{d:PyData}(h:okD n d) (l:n≤m):okD m d:=⟨h.1,Nat.le_trans h.2.1 l,h.2.2⟩
theorem okD.shaped {n:Nat}{d:PyData}(h:okD n d) (l:n≤64):SeqAt.shaped d=true:=by
 unfold SeqAt.shaped
 rw[h.1,decide_eq_true (Nat.le_trans h.2.1 l)]
 rfl
theorem okD.self {n:Nat}{d:PyData}(h:okD n d):PyData.eqv d d=true:=eqv_self h.2.2
theorem rp_ints {K:PySem.W.Frag}{H:Hp}:∀ {ns:List Int},RpAll K H (iV ns) (ns.map PyData.int)
 | []=>.nil
 | n::ns=>.cons (.int n) rp_ints
theorem okD_ints {n:Nat}{ns:List Int}:∀ d∈ns.map PyData.int,okD n d:=fun d hd=>by
 obtain⟨i,_,rfl⟩:=List.mem_map.mp hd
 exact .int
theorem Grow.freeze {H G G' H':Hp}{p:Addr}{o:HO}(g:Grow H G G' H') (n:H p=none) (h:H' p=some o):Grow H G (L2.upd G' p o) H':=by
 refine⟨fun b u e=>?_,fun b u e=>?_,fun b u e=>?_⟩
 ·by_cases hb:b=p
  ·subst hb
   have:=g.held _ _ (g.sub _ _ e)
   rw[h] at this
   rw[upd_same];exact this
  ·rw[upd_ne hb];exact g.sub _ _ e
 ·by_cases hb:b=p
  ·subst hb;rw[upd_same] at e;rw[h];exact e
  ·rw[upd_ne hb] at e;exact g.held _ _ e
 ·by_cases hb:b=p
  ·subst hb;exact .inr n
  ·rw[upd_ne hb] at e;exact g.new _ _ e
theorem Grow.then {H G G1 H1 G2 H2:Hp}(g:Grow H G G1 H1) (k:Grow H1 G1 G2 H2) (s:∀ b o,H b=some o→∃ u,H1 b=some u):Grow H G G2 H2:=
 ⟨g.sub.trans k.sub,k.held,fun b o e=>by
  rcases k.new b o e with z|z
  ·exact g.new b o z
  ·refine .inr ?_
   cases q:H b with
   | none=>rfl
   | some u=>obtain⟨u',e'⟩:=s b u q;rw[z] at e';cases e'⟩
theorem RpAll.len {K:PySem.W.Frag}{H:Hp}:∀ {xs:List V}{ds:List PyData},RpAll K H xs ds→xs.length=ds.length
 | _,_,.nil=>rfl
 | _,_,.cons _ r=>by simp[RpAll.len r]
end L2
set_option Elab.async false
set_option linter.all false
set_option maxRecDepth 100000
namespace L2
open PySem PySem.Spec PyProof.Rows
section
variable {X:Cx}{e a b:Expr}{es:List Expr}{te ta tb:TE}{t:TA}{pos:Pos}{ks:List (Option Expr)}{vs:List Expr}{ts:List (TE×TE)}
end
end L2
set_option Elab.async false
set_option linter.all false
set_option maxRecDepth 100000
namespace L2
open PySem PySem.Spec PyProof.Rows
section
variable {prog:Program}{w:World}{A:Around}{R:Result→Shared→Prop}{it S:Addr}{fp wr:List Addr}{n:Nat}{Pi:Nat→Value→Prop}{St:Nat→Heap→Prop}{kw:List (Str×Value)}{val:Nat→Int}
end
section
variable {X:Cx}{K:PySem.W.Frag}
end
end L2
set_option Elab.async false
set_option linter.all false
set_option maxRecDepth 100000
namespace L2
open PySem PySem.Spec PyProof.Rows
theorem cellsFrom_app:∀ (names:List (Str×NameKind)) (n:Nat) (acc:List (Str×Addr)),cellsFrom n names acc=cellsFrom n names []++acc
 | [],_,_=>rfl
 | (x,k)::r,n,acc=>by
  unfold cellsFrom
  split
  ·rw[cellsFrom_app r (n+1) ((x,n)::acc),cellsFrom_app r (n+1) [(x,n)],List.append_assoc];rfl
  ·exact cellsFrom_app r n acc
theorem cellsFrom_mem:∀ {names:List (Str×NameKind)}{n:Nat}{acc:List (Str×Addr)}{x:Str}{c:Addr},(x,c)∈cellsFrom n names acc→(x,c)∈acc∨∃ y∈names,y.1=x∧y.2=.cell
 | [],_,_,_,_,h=>.inl h
 | (y,k)::r,n,acc,x,c,h=>by
  unfold cellsFrom at h
  split at h
  ·rename_i hk
   rcases cellsFrom_mem h with z|⟨y',m,q⟩
   ·rcases List.mem_cons.mp z with z|z
    ·cases z;exact .inr ⟨_,List.mem_cons_self,rfl,beq_iff_eq.mp hk⟩
    ·exact .inl z
   ·exact .inr ⟨y',List.mem_cons_of_mem _ m,q⟩
  ·rcases cellsFrom_mem h with z|⟨y',m,q⟩
   ·exact .inl z
   ·exact .inr ⟨y',List.mem_cons_of_mem _ m,q⟩
theorem bind_locals {M:Model}{A:Around}{E:Value→Shared→Prop}{env:Env}(f:Str×Value→PUnit→Sem (ForInStep PUnit)) (hf:∀ n v u,f (n,v) u=(do storeName env n v;pure (.yield ⟨⟩))) (hk:env.scope.kind=.function) :
  ∀ (binds:List (Str×Value)) (m:Str→Option Value) (s:Shared) (Q:PUnit→Shared→Prop),s.heap.Ns env.locals m→(∀ x∈binds,env.kindOf x.1=some .local) →
   (∀ h' tk,h'.Ns env.locals (bindL env.kindOf binds m)→Heap.SameBut env.locals s.heap h'→Q ⟨⟩ { s with heap:=h',toks:=tk })→wpAny M A (forIn binds ⟨⟩ f) Q E s
 | [],m,s,Q,n,_,h=>by rw[List.forIn_nil];exact wpAny_pure (h s.heap s.toks n (Heap.SameBut.refl ..))
 | (x,v)::r,m,s,Q,n,hl,h=>by
  rw[List.forIn_cons,hf]
  have hx:env.kindOf x=some .local:=hl (x,v) List.mem_cons_self
  refine wpAny_bind (wpAny_bind (wpAny_storeName_local hx n (fun h1 n1 s1=>wpAny_pure ?_) (by rw[hk];rfl)))
  refine bind_locals f hf hk r _ _ Q n1 (fun y hy=>hl y (List.mem_cons_of_mem _ hy)) fun h2 tk n2 s2=>?_
  refine h h2 tk ?_ ⟨s2.1.trans s1.1,fun b hb=>(s2.2 b hb).trans (s1.2 b hb)⟩
  unfold bindL
  rw[if_pos hx]
  exact n2
theorem newEnv_clo {M:Model}{A:Around}{E:Value→Shared→Prop}{s:Shared}{scope:Scope}{cl:List (Str×Addr)}{binds:List (Str×Value)}{qual:Str}{func:Option Addr}{code:Value}{Q:Env→Shared→Prop}
  (hk:scope.kind=.function) (hl:∀ x∈binds,scope.names.lookup x.1=some .local)
  (hQ:∀ env,env=newEnv scope s.heap.objs.size mainGlobals (cellsFrom (s.heap.objs.size+1) scope.names cl) qual func code none builtinsNs →
   ∀ h' tk,h'.Ns s.heap.objs.size (bindL env.kindOf binds fun _=>none)→(∀ b o,s.heap.get? b=some o→h'.get? b=some o) →
    (∀ n c,(n,c)∈cellsFrom (s.heap.objs.size+1) scope.names []→h'.IsCell c none∧s.heap.objs.size+1≤c)→(cellsFrom (s.heap.objs.size+1) scope.names []).Pairwise (fun x y=>x.2≠y.2)→Q env { s with heap:=h',toks:=tk }) :
  wpAny M A (newFunctionEnv scope mainGlobals cl binds qual func code none builtinsNs) Q E s:=by
 simp only[newFunctionEnv,Option.isSome_none,Bool.false_eq_true,if_false]
 refine wpAny_bind (wpAny_alloc ?_)
 refine wpAny_bind (wpAny_layCells _ (fun name kind cells=>by cases hkc:kind == NameKind.cell<;>simp[hkc]) _ _ _ _ ?_)
 have ok:=cellsFrom_ok scope.names (s.heap.push { cls:=.type "frame",data:=.dict #[] }) (s.heap.objs.size+1) [] ⟨fun _ _ hm=>(nomatch hm),List.Pairwise.nil⟩ (by rw[Heap.size_push];exact Nat.le_refl _)
 rw[Heap.size_push] at ok
 rw[show ({ s with heap:=s.heap.push { cls:=.type "frame",data:=.dict #[] } }:Shared).heap.objs.size=s.heap.objs.size+1 from Heap.size_push ..]
 refine wpAny_bind (bind_locals (env:=newEnv scope s.heap.objs.size mainGlobals (cellsFrom (s.heap.objs.size+1) scope.names cl) qual func code none builtinsNs)
  _ (fun _ _ _=>rfl) hk binds (fun _=>none) _ _ ((Heap.Ns.new s.heap (.type "frame")).keeps (pushCells_keeps _ _)) hl fun h' tk n sb=>wpAny_pure (hQ _ rfl h' tk n (fun b o e=>?_) (fun n c hm=>?_) ok.apart))
 ·exact(sb.2 b (Nat.ne_of_lt (Heap.lt_size e))).trans (pushCells_keeps _ _ b o (Heap.get?_push_of_some _ e))
 ·obtain⟨z1,z2⟩:=ok.empty n c hm
  exact⟨z1.sameBut sb (Nat.ne_of_gt z2),z2⟩
structure CloScope (N ps F:List Str) (sc:Scope):Prop where
 kind:sc.kind=.function
 co:sc.isCoroutine=false
 gen:sc.isGenerator=false
 nd:N.Nodup
 pre:N.take ps.length=ps
 post:N.drop (N.length-F.length)=F
 fit:ps.length+F.length≤N.length
 par:∀ x∈ps,sc.names.lookup x=some .local
 fre:∀ y∈sc.names,y.2=.free→y.1∈F
 isf:∀ x∈F,sc.names.lookup x=some .free
 noc:∀ y∈sc.names,y.2=.cell→y.1∉F
structure Clo (H:Hp) (name qual:Str) (st:Stmt) (F:List Str) (f:Addr) (ws:List V):Prop where
 ex:∃ (cl:List (Str×Addr)) (doc pm ctv:Value) (c':Addr) (oc:Obj) (vs:Array Value) (t:Tok),
  H f=some (.frz { cls:=.type "function",data:=.func (PySem.W.fnX name qual (defArgs st) (defBody st) (defScope st) cl .none .none doc pm none (.ref c') ctv) } (.own f)) ∧
  H c'=some (.frz oc (.own c'))∧oc.data=.fields vs∧vs[1]? = some (.str qual t) ∧
  (∀ x c,cl.lookup x=some c→x∈F)∧(∀ x y c,cl.lookup x=some c→cl.lookup y=some c→x=y) ∧
  ∀ (i:Nat) x v,F[i]? = some x→ws[i]? = some v→∃ c o u,cl.lookup x=some c∧H c=some (.frz o (.own c))∧o.data=.cell (some u)∧RelV v u
 len:ws.length=F.length
def startC (N:List Str) (vs ws:List V):St:=vs.map some++List.replicate (N.length-vs.length-ws.length) none++ws.map some
def cxC (CX:CXT) (P:Program) (w:World) (K:PySem.W.Frag) (mg:Str→Option Value) (base:Heap) (N F:List Str) (qual:Str) (scope:Scope) (f:Addr) (cd:Value) (cl:List (Str×Addr)) (A:Around) (outer:List Env) (s:Shared) (H:Hp) (E:XK):Cx where
 prog:=P
 w:=w
 K:=K
 mg:=mg
 base:=base
 A:=A.deeper (PySem.W.envX qual scope s.heap.objs.size f cd (cellsFrom (s.heap.objs.size+1) scope.names cl))
 N:=N
 s₀:=s
 H₀:=H
 env:=PySem.W.envX qual scope s.heap.objs.size f cd (cellsFrom (s.heap.objs.size+1) scope.names cl)
 outer:=outer
 stack:=PySem.W.envX qual scope s.heap.objs.size f cd (cellsFrom (s.heap.objs.size+1) scope.names cl)::outer
 ex:=[]
 calm:=true
 fn:=fun x=>!F.contains x
 pn:=[]
 xe:=fun e s'=>wpAny (model P w) (A.deeper (PySem.W.envX qual scope s.heap.objs.size f cd (cellsFrom (s.heap.objs.size+1) scope.names cl))) (leaving (PySem.W.envX qual scope s.heap.objs.size f cd (cellsFrom (s.heap.objs.size+1) scope.names cl)) e)
  (fun _ s''=>CX outer H s E e s'') (fun e' s''=>CX outer H s E e' s'') s'
theorem startC_get {N:List Str}{vs ws:List V}{i:Nat}{v:V}(hl:vs.length+ws.length≤N.length) (h:(startC N vs ws)[i]? = some (some v)) :
  (i<vs.length∧vs[i]? = some v)∨∃ j,i=N.length-ws.length+j∧ws[j]? = some v:=by
 unfold startC at h
 by_cases h1:i<vs.length
 ·rw[List.append_assoc,List.getElem?_append_left (by simpa using h1),List.getElem?_map] at h
  cases e:vs[i]? with
  | none=>rw[e] at h;cases h
  | some a=>rw[e] at h;cases h;exact .inl ⟨h1,rfl⟩
 ·by_cases h2:i<N.length-ws.length
  ·rw[List.getElem?_append_left (by simp;omega),List.getElem?_append_right (by simpa using h1),List.getElem?_replicate] at h
   split at h<;>cases h
  ·rw[List.getElem?_append_right (by simp;omega),List.getElem?_map] at h
   refine .inr ⟨i-(N.length-ws.length),by omega,?_⟩
   have e:i-(List.map some vs++List.replicate (N.length-vs.length-ws.length) none).length=i-(N.length-ws.length):=by simp;omega
   rw[e] at h
   cases q:ws[i-(N.length-ws.length)]? with
   | none=>rw[q] at h;cases h
   | some a=>rw[q] at h;cases h;rfl
theorem inv_startC {CX:CXT}{P:Program}{w:World}{K:PySem.W.Frag}{mg:Str→Option Value}{base:Heap}{N ps F:List Str}{qual:Str}{scope:Scope}{f:Addr}{cd:Value}{cl:List (Str×Addr)}{A:Around}{outer:List Env}{s:Shared}{H:Hp}{E:XK}{us:List Value}{vs ws:List V}{h':Heap}{tk:Nat}
  (S:CloScope N ps F scope) (hd:A.handled=none) (e0:Env0 P w K mg base A outer s H) (hl:vs.length=ps.length) (r:Vals vs us) (wl:ws.length=F.length)
  (c1:∀ x c,cl.lookup x=some c→x∈F) (c2:∀ x y c,cl.lookup x=some c→cl.lookup y=some c→x=y)
  (c3:∀ (i:Nat) x v,F[i]? = some x→ws[i]? = some v→∃ c o u,cl.lookup x=some c∧H c=some (.frz o (.own c))∧o.data=.cell (some u)∧RelV v u)
  (n:h'.Ns s.heap.objs.size (bindL (PySem.W.envX qual scope s.heap.objs.size f cd (cellsFrom (s.heap.objs.size+1) scope.names cl)).kindOf (ps.zip us) fun _=>none)) (hk:∀ b o,s.heap.get? b=some o→h'.get? b=some o)
  (o1:∀ n c,(n,c)∈cellsFrom (s.heap.objs.size+1) scope.names []→h'.IsCell c none∧s.heap.objs.size+1≤c) (o2:(cellsFrom (s.heap.objs.size+1) scope.names []).Pairwise (fun x y=>x.2≠y.2)) :
  Inv (cxC CX P w K mg base N F qual scope f cd cl A outer s H E) [] (startC N vs ws) H { s with heap:=h',toks:=tk }:=by
 have noA:∀ b:Addr,b∉(cxC CX P w K mg base N F qual scope f cd cl A outer s H E).ex:=fun b z=>absurd (show b∈([]:List Addr) from z) (by simp)
 have look:∀ x c,(cellsFrom (s.heap.objs.size+1) scope.names cl).lookup x=some c→(x,c)∈cellsFrom (s.heap.objs.size+1) scope.names []∨cl.lookup x=some c:=fun x c e=>by
  rw[cellsFrom_app,List.lookup_append] at e
  cases q:(cellsFrom (s.heap.objs.size+1) scope.names []).lookup x with
  | none=>rw[q] at e;exact .inr e
  | some d=>rw[q] at e;cases e;exact .inl (PySem.mem_of_lookup q)
 have inF:∀ x c,cl.lookup x=some c→∃ o u,H c=some (.frz o (.own c))∧o.data=.cell (some u)∧h'.get? c=some o∧c<s.heap.objs.size:=fun x c e=>by
  obtain⟨i,hi,ei⟩:=List.mem_iff_getElem.mp (c1 x c e)
  have hw:i<ws.length:=by omega
  obtain⟨c',o,u,z1,z2,z3,_⟩:=c3 i x ws[i] (by rw[List.getElem?_eq_getElem hi,ei]) (List.getElem?_eq_getElem hw)
  rw[e] at z1;cases z1
  obtain⟨q,_⟩:=e0.hok c _ z2
  exact⟨o,u,z2,z3,hk _ _ q,Heap.lt_size q⟩
 have nofn:∀ x,x∈F→(cxC CX P w K mg base N F qual scope f cd cl A outer s H E).fn x=false:=fun x hx=>by
  show (!F.contains x)=false
  rw[List.contains_iff_mem.mpr hx];rfl
 refine⟨⟨e0.mod,S.kind,rfl,rfl,Nat.le_refl _,fun y z c h1 h2=>?_,fun y hy=>?_,fun y c hf h=>?_,fun _=>hd,Around.frames_deeper e0.frames,.inr ⟨rfl,rfl⟩,fun b z=>absurd z (noA b),e0.bs,e0.bsz,fun b _ _=>noA b,fun b z=>absurd z (noA b),e0.funs,e0.frf⟩,
  rfl,e0.bare,Un.kept hk,⟨_,n,fun i y v h1 h2 h3=>?_⟩,fun y c h=>?_,e0.hok.fresh (Nat.le_refl _),fun y c h=>?_,fun p hp=>absurd (show p∈([]:List (Addr×Obj)) from hp) (by simp),e0.hok.kept hk,?_⟩
 ·rcases look y c h1 with a|a<;>rcases look z c h2 with b|b
  ·exact name_of_addr o2 a b
  ·obtain⟨_,_,_,_,_,lt⟩:=inF z c b
   exact absurd (Nat.lt_of_lt_of_le lt (Nat.le_trans (Nat.le_succ _) (o1 y c a).2)) (Nat.lt_irrefl _)
  ·obtain⟨_,_,_,_,_,lt⟩:=inF y c a
   exact absurd (Nat.lt_of_lt_of_le lt (Nat.le_trans (Nat.le_succ _) (o1 z c b).2)) (Nat.lt_irrefl _)
  ·exact c2 y z c a b
 ·have hy:scope.names.lookup y=some .cell∨scope.names.lookup y=some .free:=hy
  show ∃ c,(cellsFrom (s.heap.objs.size+1) scope.names cl).lookup y=some c
  rw[cellsFrom_app,List.lookup_append]
  rcases hy with hy|hy
  ·obtain⟨c,e⟩:=cell_has (n:=s.heap.objs.size+1) hy
   exact⟨c,by rw[e];rfl⟩
  ·obtain⟨i,hi,ei⟩:=List.mem_iff_getElem.mp (S.fre _ (PySem.mem_of_lookup hy) rfl)
   have hw:i<ws.length:=by omega
   obtain⟨c',_,_,z1,_⟩:=c3 i y ws[i] (by rw[List.getElem?_eq_getElem hi,ei]) (List.getElem?_eq_getElem hw)
   cases q:(cellsFrom (s.heap.objs.size+1) scope.names []).lookup y with
   | none=>exact⟨c',by rw[z1];rfl⟩
   | some d=>exact⟨d,rfl⟩
 ·rcases look y c h with a|a
  ·have:=(o1 y c a).2
   show s.heap.objs.size≤c
   omega
  ·rw[nofn y (c1 y c a)] at hf;cases hf
 ·have hi:i<N.length:=(List.getElem?_eq_some_iff.mp h1).1
  rcases startC_get (by have:=S.fit;omega) h2 with ⟨hi,ha⟩|⟨j,rfl,ha⟩
  ·obtain⟨u,hu,rv⟩:=r.get ha
   have hp:ps[i]? = some y:=by
    rw[← S.pre,List.getElem?_take_of_lt (by omega)];exact h1
   have ndP:ps.Nodup:=by rw[← S.pre];exact S.nd.sublist (List.take_sublist _ _)
   have k:=S.par y (List.mem_of_getElem? hp)
   exact⟨u,rv,.inl ⟨k,bindL_get ndP hp hu k⟩⟩
  ·have hF:F[j]? = some y:=by
    rw[← S.post,List.getElem?_drop,← wl];exact h1
   obtain⟨c,o,u,z1,z2,z3,z4⟩:=c3 j y v hF ha
   obtain⟨q,_⟩:=e0.hok c _ z2
   refine⟨u,z4,.inr ⟨.inr (S.isf y (List.mem_of_getElem? hF)),c,?_,o,hk _ _ q,z3⟩⟩
   show (cellsFrom (s.heap.objs.size+1) scope.names cl).lookup y=some c
   rw[cellsFrom_app,List.lookup_append]
   cases q:(cellsFrom (s.heap.objs.size+1) scope.names []).lookup y with
   | none=>rw[z1];rfl
   | some d=>
    rcases cellsFrom_mem (PySem.mem_of_lookup q) with z|⟨y',m1,rfl,m3⟩
    ·exact absurd z (by simp)
    ·exact absurd (List.mem_of_getElem? hF) (S.noc _ m1 m3)
 ·rcases look y c h with a|a
  ·exact⟨_,(o1 y c a).1⟩
  ·obtain⟨o,u,_,z3,z,_⟩:=inF y c a
   exact⟨_,o,z,z3⟩
 ·rcases look y c h with a|a
  ·exact .inl (e0.hok.fresh (by have:=(o1 y c a).2;omega))
  ·obtain⟨o,u,z,_⟩:=inF y c a
   exact .inr ⟨nofn y (c1 y c a),o,_,z⟩
 ·unfold startC
  show _=N.length
  rw[List.length_append,List.length_append,List.length_map,List.length_map,List.length_replicate]
  have:=S.fit
  omega
structure CloOk (P:Program) (w:World) (K:PySem.W.Frag) (mg:Str→Option Value) (base:Heap) (CX:CXT) (k:Nat) (name qual:Str) (st:Stmt) (ps F:List Str) (sp:List V→Sp):Prop where
 len:∀ ws vs H Q E,sp ws vs H Q E→vs.length=ps.length
 run:∀ (f:Addr) (ws:List V) (A:Around) (outer:List Env) (s:Shared) (H:Hp) (us:List Value) (vs:List V) (Q:VK) (E:XK),Room k A→Env0 P w K mg base A outer s H→Clo H name qual st F f ws→Vals vs us→sp ws vs H Q E →
  codeAny (model P w) A (.call (.ref f) ⟨us,[]⟩) (CR CX outer P w H s Q E) s
theorem CloOk.mono {P:Program}{w:World}{K:PySem.W.Frag}{mg:Str→Option Value}{base:Heap}{CX:CXT}{j k:Nat}{name qual:Str}{st:Stmt}{ps F:List Str}{sp:List V→Sp}(C:CloOk P w K mg base CX j name qual st ps F sp) (h:j≤k) :
  CloOk P w K mg base CX k name qual st ps F sp:=⟨C.len,fun f ws A outer s H us vs Q E hr=>C.run f ws A outer s H us vs Q E (hr.mono h)⟩
def Knows (H H':Hp):Prop:=∀ b o u,H b=some (.frz o u)→H' b=some (.frz o u)
theorem Knows.refl (H:Hp):Knows H H:=fun _ _ _ h=>h
theorem Knows.trans {H H1 H2:Hp}(a:Knows H H1) (b:Knows H1 H2):Knows H H2:=fun c o u h=>b c o u (a c o u h)
end L2
set_option Elab.async false
set_option linter.all false
set_option maxRecDepth 100000
namespace L2
open PySem PySem.Spec PyProof.Rows
theorem closure_keys {sc:Scope}{env:Env}(h:∀ y∈sc.names,y.2=.free→∃ c,env.cells.lookup y.1=some c) :
  ∃ cl,closureFor sc env=pure cl∧∀ x c,cl.lookup x=some c→∃ y∈sc.names,y.1=x∧y.2=.free:=by
 have go:∀ (names:List (Str×NameKind)) (cs:List (Str×Addr)),(∀ y∈names,y.2=.free→∃ c,env.cells.lookup y.1=some c) →
   ∃ cl,(forIn names cs fun (x:Str×NameKind) (r:List (Str×Addr))=>(if (x.2 == NameKind.free)=true then do let c ← cellOf env x.1;pure (ForInStep.yield ((x.1,c)::r)) else pure (ForInStep.yield r):Sem (ForInStep (List (Str×Addr)))))=pure cl ∧
    ∀ x c,cl.lookup x=some c→(∃ c',cs.lookup x=some c')∨∃ y∈names,y.1=x∧y.2=.free:=by
  intro names
  induction names with
  | nil=>intro cs _;exact⟨cs,rfl,fun x c e=>.inl ⟨c,e⟩⟩
  | cons y r ih=>
   intro cs hn
   by_cases hy:y.2=.free
   ·obtain⟨c,hc⟩:=hn y List.mem_cons_self hy
    obtain⟨cl,e,h1⟩:=ih ((y.1,c)::cs) (fun z hz=>hn z (List.mem_cons_of_mem _ hz))
    refine⟨cl,?_,fun x c' e'=>?_⟩
    ·rw[List.forIn_cons]
     have e1:(y.2 == NameKind.free)=true:=by rw[hy];rfl
     have e2:cellOf env y.1=pure c:=by unfold cellOf;rw[hc]
     rw[e1,e2]
     exact e
    ·rcases h1 x c' e' with ⟨c2,z⟩|⟨z,m,q⟩
     ·rw[List.lookup_cons] at z
      cases hb:x == y.1 with
      | true=>exact .inr ⟨y,List.mem_cons_self,(beq_iff_eq.mp hb).symm,hy⟩
      | false=>rw[hb] at z;exact .inl ⟨c2,z⟩
     ·exact .inr ⟨z,List.mem_cons_of_mem _ m,q⟩
   ·obtain⟨cl,e,h1⟩:=ih cs (fun z hz=>hn z (List.mem_cons_of_mem _ hz))
    refine⟨cl,?_,fun x c' e'=>?_⟩
    ·rw[List.forIn_cons]
     have e1:(y.2 == NameKind.free)=false:=by simpa using hy
     rw[e1]
     exact e
    ·rcases h1 x c' e' with z|⟨z,m,q⟩
     ·exact .inl z
     ·exact .inr ⟨z,List.mem_cons_of_mem _ m,q⟩
 obtain⟨cl,e,h1⟩:=go sc.names [] h
 refine⟨cl,?_,fun x c e=>(h1 x c e).elim (fun ⟨_,z⟩=>by simp at z) id⟩
 have e2:closureFor sc env=((forIn sc.names [] fun (x:Str×NameKind) (r:List (Str×Addr))=>(if (x.2 == NameKind.free)=true then do let c ← cellOf env x.1;pure (ForInStep.yield ((x.1,c)::r)) else pure (ForInStep.yield r):Sem (ForInStep (List (Str×Addr))))) >>= fun s=>pure s):=rfl
 rw[e2,e]
 rfl
def TabT (H:Hp) (P:Addr) (pos:Pos) (qual:Str):Prop:=
 H P=some (.tbl #[])∨∃ c' oc vs t,H P=some (.tbl #[rawInt pos.line,rawInt pos.col,.ref c'])∧H c'=some (.frz oc (.own c'))∧oc.data=.fields vs∧vs[1]? = some (.str qual t)
theorem TabT.get {H:Hp}{P:Addr}{pos:Pos}{qual:Str}(t:TabT H P pos qual):∃ ps,H P=some (.tbl ps):=by
 rcases t with t|⟨_,_,_,_,t,_⟩<;>exact⟨_,t⟩
def SameT (P:Addr) (H H':Hp):Prop:=∀ b o,b≠P→H b=some o→H' b=some o
structure Tab (mg:Str→Option Value) (base:Heap) (c P:Addr):Prop where
 code:PySem.W.CodeHd base c P
 blt:base.BuiltinsAt mg P
 ne:mainGlobals≠P
section
variable {P:Program}{w:World}{H H1:Hp}{h h':Heap}{T:Addr}{ps more:Array Value}{fs:List Addr}
theorem grown (hT:H T=some (.tbl ps)) (ok:HOk P w H h) (a:SameT T H H1) (b:∀ x,x≠T→H x=none→x<h.objs.size→H1 x=none) (c:∀ x o,x≠T→h.get? x=some o→h'.get? x=some o)
  (d:H1 T=some (.tbl (ps++more))) (d2:h'.get? T=some { cls:=.none,data:=.fields (ps++more) }) (e:∀ x o,H x=none→H1 x=some o→ObjOk P w H1 h' x o):Un fs [] H H1 h h'∧HOk P w H1 h':=by
 have neT:∀ x,H x=none→x≠T:=fun x n z=>by rw[z,hT] at n;cases n
 have neO:∀ x o,H x=some o→(∀ q,o≠.tbl q)→x≠T:=fun x o n q z=>by rw[z,hT] at n;cases n;exact q _ rfl
 refine⟨⟨fun x o q n _ _=>c x o (neT x n) q,fun x o q n _ _=>⟨o.slots,c x o (neT x n) q⟩,fun x o q n _=>b x (neT x n) n (Heap.lt_size q),fun x o q _=>?_,fun x xs q=>a x _ (neO x _ q fun _=>by simp) q,fun x o u q=>a x _ (neO x _ q fun _=>by simp) q,fun x qs q=>?_⟩,fun x o q=>?_⟩
 ·by_cases hx:x=T
  ·subst hx;exact⟨_,d2⟩
  ·exact⟨o,c x o hx q⟩
 ·by_cases hx:x=T
  ·subst hx;rw[hT] at q;cases q;exact⟨more,d⟩
  ·exact⟨#[],by rw[a x _ hx q];simp⟩
 ·by_cases hx:x=T
  ·subst hx
   rw[d] at q;cases q
   exact d2
  ·cases hh:H x with
   | none=>exact e x o hh q
   | some o'=>
    have z:=a x o' hx hh
    rw[q] at z;cases z
    refine(ok x o hh).stay (fun y u hy r=>c y u ?_ r) (fun y r=>a y _ (neO y _ r fun _=>by simp) r) fun y xs r=>a y _ (neO y _ r fun _=>by simp) r
    rcases hy with rfl|hy
    ·exact hx
    ·exact neO y _ hy fun _=>by simp
end
def PM (X:Cx) (body:List Stmt) (t:TE):Prop:=
 ∀ (s:Shared) (σ:St) (H:Hp) (Q:VK),Inv X [] σ H s→t σ H Q→wpAny (model X.prog X.w) X.A (execs body X.env)
  (fun fl s'=>∃ u v H',fl=.ret u∧s'.os=X.s₀.os∧AllBare s'.gens∧Un X.fs X.ex X.H₀ H' X.s₀.heap s'.heap∧HOk X.prog X.w H' s'.heap∧RelV v u∧Q v H') X.xe s
def mSeq (t:TS) (u:TE):TE:=fun σ H Q=>t { nx:=fun σ' H'=>u σ' H' Q,rt:=fun _ _=>False } σ H
theorem pm_cons {X:Cx}{st:Stmt}{rest:List Stmt}{t:TS}{u:TE}(h1:PS X st t) (h2:PM X rest u):PM X (st::rest) (mSeq t u):=by
 intro s σ H Q I h
 refine wpAny_execs_cons (thn (h1 [] s σ H _ I h) fun f s1 q=>?_)
 cases f with
 | next=>
  obtain⟨σ',H',I',q⟩:=q
  exact h2 s1 σ' H' Q I' q
 | ret v=>obtain⟨_,_,_,_,_,q⟩:=q;exact False.elim q
 | brk=>obtain⟨_,_,_,q⟩:=q;exact False.elim q
 | cont=>obtain⟨_,_,_,q⟩:=q;exact False.elim q
theorem mk_of {CX:CXT}{P:Program}{w:World}{K:PySem.W.Frag}{mg:Str→Option Value}{base:Heap}{k:Nat}{f:Addr}{name qual:Str}{params:Arguments}{body:List Stmt}{scope:Scope}{dV kV doc pm cdv ct oc:Value}{an od:Option Addr}
  {osl:Array (Option Value)}{N ps:List Str}{sp:Sp}(lk:K.lookup f=some ⟨oc,od,.func (PySem.W.fnOf name qual params body scope dV kV doc pm an cdv ct),osl⟩) (hcd:PySem.W.codeIn K cdv qual=true) (S:FnScope N ps scope)
  (len:∀ vs H Q E,sp vs H Q E→vs.length=ps.length)
  (hbody:∀ (A:Around) (outer:List Env) (s:Shared) (H:Hp) (vs:List V) (Q:VK) (E:XK),Room k (A.deeper (envOfC qual scope s.heap.objs.size f cdv))→sp vs H Q E →
   ∃ t,PM (cxOf CX P w K mg base N qual scope f cdv A outer s H E).nox body t∧t (start N vs) H Q) :
  FnOk P w K mg base CX (k+1) f (PySem.W.fnOf name qual params body scope dV kV doc pm an cdv ct) ps sp:=by
 refine⟨len,fun A outer s H args us vs Q E hr e0 hb r hsp=>?_⟩
 have hl:=len _ _ _ _ hsp
 have KX:K.In s.heap:=e0.mod.kin.keeps fun b o e=>(e0.bs b o e).1
 have lim:s.heap.NoLimit:=e0.mod.nolimit.keeps fun b o e=>(e0.bs b o e).1
 have hkind:∀ y∈ps.zip us,scope.names.lookup y.1=some .local∨(scope.names.lookup y.1=some .cell∧((cellsFrom (s.heap.objs.size+1) scope.names []).lookup y.1).isSome=true):=fun ⟨n,v⟩ hy=>by
  rcases S.par n (List.of_mem_zip hy).1 with q|q
  ·exact .inl q
  ·exact .inr ⟨q,PySem.W.cellsFrom_some _ _ _ (.inl q)⟩
 refine codeAny_call_function hr.depth (KX _ _ lk) rfl S.co S.gen rfl (PySem.W.codeRec_of KX hcd) (hb _ _ _ _ ?_)
 refine wpAny_newFunctionEnv_cells S.kind hkind fun env he s1 x=>?_
 subst he
 refine⟨lim.keeps x.toInCall.keep,codeAny_func ?_⟩
 obtain⟨t,ht,hq⟩:=hbody A outer s H vs Q E (hr.deeper _) hsp
 have I:Inv (cxOf CX P w K mg base N qual scope f cdv A outer s H E) [] (start N vs) H s1:=inv_start S hr.hd e0 hl r x
 refine wpAny_mono (ht s1 (start N vs) H Q (I.wish _) hq) (fun fl s' hs=>?_) fun e s' hs=>False.elim hs
 obtain⟨u,v,H',rfl,o1,o2,o3,o4,o5,o6⟩:=hs
 exact⟨v,H',o1,o2,o3,o4,o5,o6⟩
theorem Fun.okM {CX:CXT}{P:Program}{w:World}{K:PySem.W.Frag}{mg:Str→Option Value}{base:Heap}{x qual:Str}{st:Stmt}{f c:Addr}{fd:FuncData}{N ps:List Str}{k:Nat}{sp:Sp}(F:Fun K x qual st f fd) (hc:fd.code=.ref c) (S:FnScope N ps (defScope st)) (len:∀ vs H Q E,sp vs H Q E→vs.length=ps.length)
  (hbody:∀ (A:Around) (outer:List Env) (s:Shared) (H:Hp) (vs:List V) (Q:VK) (E:XK),Room k (A.deeper (envOfC qual (defScope st) s.heap.objs.size f (.ref c)))→sp vs H Q E →
   ∃ t,PM (cxOf CX P w K mg base N qual (defScope st) f (.ref c) A outer s H E).nox (defBody st) t∧t (start N vs) H Q):FnOk P w K mg base CX (k+1) f fd ps sp:=by
 obtain⟨oc,od,kV,doc,pm,an,cdv,ct,osl,rfl,lk,hcd⟩:=F.ex
 obtain rfl:cdv=.ref c:=hc
 exact mk_of lk hcd S len hbody
end L2
set_option Elab.async false
set_option linter.all false
set_option maxRecDepth 100000
namespace L2
open PySem PySem.Spec PyProof.Rows
theorem hix_of {F N:List Str}{ix:List Nat}(h:ix.map (fun i=>N[i]?)=F.map some):∀ (j:Nat) x,F[j]? = some x→∃ i',ix[j]? = some i'∧N[i']? = some x:=fun j x e=>by
 have e2:(F.map some)[j]? = some (some x):=by rw[List.getElem?_map,e];rfl
 rw[← h,List.getElem?_map] at e2
 cases q:ix[j]? with
 | none=>rw[q] at e2;cases e2
 | some i=>rw[q] at e2;exact⟨i,rfl,by simpa using e2⟩
def inDef (s:Stmt) (j:Nat):Stmt:=(defBody s).getD j (.Pass ⟨0,0,0,0⟩)
theorem law_callT {P:Program}{w:World}{K:PySem.W.Frag}{mg mb:Str→Option Value}{CX:CXT}{k:Nat}{fa a:Addr}{fd:FuncData}{x:Str}{sp:Sp}{s₁:Shared}{vs:List Value}{ns:List Int}{tabs:List (Addr×Addr)}
  (KX:K.In s₁.heap) (hns:s₁.heap.Ns mainGlobals mg) (hb:s₁.heap.Ns builtinsNs mb) (hbb:∀ x:Str,x ≠ "__name__" → mb x=bootBuiltins x) (hlim:s₁.heap.NoLimit) (hg:s₁.gens = #[])
  (hbm:∃ bm ob,mg "__builtins__" = some (.ref bm)∧bm≠builtinsNs∧s₁.heap.get? bm=some ob∧ob.cls=.type "module" ∧ ob.dict=some builtinsNs∧ob.data=.plain)
  (hT:PySem.W.TabsAt tabs s₁.heap) (hTK:∀ q∈tabs,K.lookup q.2=none)
  (ha:s₁.heap.get? a=some { cls:=.type "list",data:=.seq vs.toArray }) (hi:IntsAre vs ns) (hl:ns.length≤sizeLine) (hr:Room k callerA)
  (F:∀ base:Heap,K.In base→base.Ns mainGlobals mg→(∀ q∈tabs,Tab mg base q.1 q.2)→FnOk P w K mg base CX k fa fd [x] sp) (hbind:∀ (s:Shared) (u:Value),BindsTo s fd ⟨[u],[]⟩ [(x,u)])
  (hsp:∀ H:Hp,(∀ q∈tabs,H q.2=some (.tbl #[]))→SqL K H a (ns.map V.int)→sp [.ref a] H (fun v _=>v=.bl true) fun _ _ _=>False)
  (hCX:∀ H e s',CX [] H s₁ (fun _ _ _=>False) e s'→False) :
  codeAny (model P w) callerA (.call (.ref fa) ⟨[.ref a],[]⟩) (fun r s'=>r=.ok (.ret (.bool true))∧OldK s₁.heap s'.heap∧s'.os=s₁.os∧AllBare s'.gens) s₁:=by
 have rv:=vals_ints hi
 have lenV:=hi.length
 have aT:a∉tabs.map (·.2):=fun m=>by
  obtain⟨q,hq,e⟩:=List.mem_map.mp m
  have:=(hT q hq).2
  rw[e,ha] at this;cases this
 have core:∀ H:Hp,(∀ b,H b=none∨(∃ o xs,H b=some (.frz o (.lst xs)))∨(b∈tabs.map (·.2)∧H b=some (.tbl #[])))→(∀ q∈tabs,H q.2=some (.tbl #[]))→SqL K H a (ns.map V.int)→HOk P w H s₁.heap→(∀ b,H b≠none→b=a∨b∈tabs.map (·.2))→(H a≠none→K.lookup a=none) →
   codeAny (model P w) callerA (.call (.ref fa) ⟨[.ref a],[]⟩) (fun r s'=>r=.ok (.ret (.bool true))∧OldK s₁.heap s'.heap∧s'.os=s₁.os∧AllBare s'.gens) s₁:=by
  intro H hO hHT hS hok hA hK
  have base_of:∀ {b:Addr} {o:Obj},s₁.heap.get? b=some o→H b=none→(hidT s₁.heap H).get? b=some o:=fun e n=>hidT_get e n
  have trk:∀ {b:Addr} {o:Obj},s₁.heap.get? b=some o→H b≠none→o.cls=.type "list" ∨ o=PySem.W.tabObj #[]:=fun {b o} e n=>by
   rcases hA b n with z|z
   ·subst z;rw[ha] at e;cases e;exact .inl rfl
   ·obtain⟨q,hq,rfl⟩:=List.mem_map.mp z
    have:=(hT q hq).2
    rw[e] at this;cases this;exact .inr rfl
  have noA:∀ {b:Addr} {o:Obj},s₁.heap.get? b=some o→o.cls≠.type "list" → (∀ q,o.data≠.fields q)→H b=none:=fun {b o} e d1 d2=>by
   cases q:H b with
   | none=>rfl
   | some u=>
    rcases trk e (by rw[q];simp) with z|z
    ·exact absurd z d1
    ·rw[z] at d2;exact absurd rfl (d2 #[])
  have noD:∀ {b:Addr} {o:Obj} {es:Array DictEntry} {ep:Nat},s₁.heap.get? b=some o→o.data=.dict es ep→H b=none:=fun {b o es ep} e d=>by
   cases q:H b with
   | none=>rfl
   | some u=>
    rcases hA b (by rw[q];simp) with z|z
    ·subst z;rw[ha] at e;cases e
     have d':Data.seq vs.toArray _=Data.dict es ep:=d
     cases d'
    ·obtain⟨r,hr',rfl⟩:=List.mem_map.mp z
     have:=(hT r hr').2
     rw[e] at this;cases this
     have d':Data.fields #[]=Data.dict es ep:=d
     cases d'
  have nsK:∀ {b:Addr} {m:Str→Option Value},s₁.heap.Ns b m→(hidT s₁.heap H).Ns b m:=fun {b m} ⟨o,es,ep,e,d,r⟩=>⟨o,es,ep,base_of e (noD e d),d,r⟩
  have hKb:K.In (hidT s₁.heap H):=fun b o e=>base_of (KX b o e) (by
   cases q:H b with
   | none=>rfl
   | some u=>
    rcases hA b (by rw[q];simp) with e'|z
    ·subst e'
     rw[hK (by rw[q];simp)] at e;cases e
    ·obtain⟨r,hr',rfl⟩:=List.mem_map.mp z
     rw[hTK r hr'] at e;cases e)
  have hM:Mod K mg (hidT s₁.heap H):=⟨hKb,nsK hns,⟨mb,nsK hb,hbb⟩,let ⟨mc,h1,h2⟩:=hlim;⟨mc,nsK h1,h2⟩⟩
  have hTb:∀ q∈tabs,Tab mg (hidT s₁.heap H) q.1 q.2:=fun q hq=>by
   obtain⟨⟨o,ws,file,tf,flags,tg,inF,text,tt,e1,r1,r2,r3⟩,e2⟩:=hT q hq
   have n1:H q.1=none:=by
    cases z:H q.1 with
    | none=>rfl
    | some u=>
     rcases trk e1 (by rw[z];simp) with z|z
     ·rw[r1] at z;exact absurd z (by simp)
     ·rw[z] at r1;exact absurd r1 (by simp[PySem.W.tabObj])
   obtain⟨bm,ob,b1,b2,b3,b4,b5,b6⟩:=hbm
   have n2:H bm=none:=noA b3 (by rw[b4];decide) (fun z=>by rw[b6];simp)
   refine⟨⟨o,ws,file,tf,flags,tg,inF,text,tt,base_of e1 n1,r1,r2,r3⟩,⟨bm,ob,b1,b2,fun z=>?_,fun z=>?_,base_of b3 n2,b4,b5,b6⟩,fun z=>?_⟩
   ·obtain⟨og,es,ep,g1,g2,_⟩:=hns
    rw[← z,b3] at g1;cases g1;rw[b6] at g2;cases g2
   ·rw[z,e2] at b3;cases b3;cases b4
   ·obtain⟨og,es,ep,g1,g2,_⟩:=hns
    rw[z,e2] at g1;cases g1;cases g2
  have e0:Env0 P w K mg (hidT s₁.heap H) callerA [] s₁ H:=⟨rfl,hM,fun b o e=>of_hidT e,Nat.le_of_eq (hidT_size _ _),trivial,fun b hb=>absurd (show b∈([]:List Addr) from hb) (by simp),hok,.of_eq hg⟩
  refine codeAny_mono ((F _ hKb (nsK hns) hTb).run callerA [] s₁ H ⟨[.ref a],[]⟩ [.ref a] [.ref a] _ _ hr e0 (hbind s₁ (.ref a)) (.cons rfl .nil) (hsp H hHT hS)) fun r s' h=>?_
  cases r with
  | error e=>exact(hCX H e s' h).elim
  | ok fl=>
   cases fl with
   | next=>exact False.elim h
   | brk=>exact False.elim h
   | cont=>exact False.elim h
   | ret u=>
    obtain⟨v,H',os,bare,un,hok',r',q⟩:=h
    have q':v=.bl true:=q
    subst q'
    obtain rfl:u=Value.bool true:=r'
    have kept:∀ b o,s₁.heap.get? b=some o→s'.heap.get? b=some o∨(isCodeTable s₁.heap b∧o=PySem.W.tabObj #[]∧∃ ps,s'.heap.get? b=some (PySem.W.tabObj ps)):=fun b o e=>by
     cases q:H b with
     | none=>exact .inl (un.keep b o e q (by intro z;exact absurd (show b∈([]:List Addr) from z) (by simp)) (by simp))
     | some u=>
      rcases hO b with z|⟨ob,xs,z⟩|⟨m,z⟩
      ·rw[q] at z;cases z
      ·have z2:=un.frzs b ob _ z
       obtain⟨e1,_⟩:=hok b _ z
       obtain⟨e2,_⟩:=hok' b _ z2
       rw[e] at e1;cases e1
       exact .inl e2
      ·obtain⟨r,hr',rfl⟩:=List.mem_map.mp m
       obtain⟨more,z2⟩:=un.tbls _ _ z
       have e2:s'.heap.get? r.2=some (PySem.W.tabObj (#[]++more)):=hok' _ _ z2
       have e3:=(hT r hr').2
       rw[e] at e3
       exact .inr ⟨((hT r hr').1.tab (hT r hr').2).isCodeTable,Option.some.inj e3,_,e2⟩
    refine⟨rfl,⟨fun b o e=>?_,fun b o e=>?_⟩,os,bare⟩
    ·rcases kept b o e with z|⟨t,rfl,ps,hP⟩
     ·exact .inl z
     ·exact .inr (.inl ⟨t,rfl,#[],ps,rfl,by rw[Array.empty_append];exact hP⟩)
    ·rcases kept b o e with z|⟨t,rfl,ps,hP⟩
     ·exact⟨o,z⟩
     ·exact⟨_,hP⟩
 have tabOk:∀ q∈tabs,s₁.heap.get? q.2=some { cls:=.none,data:=.fields #[] }:=fun q hq=>(hT q hq).2
 classical
 cases hk:K.lookup a with
 | some o=>
  have e:=KX a o hk
  rw[ha] at e
  cases e
  refine core (fun b=>if b∈tabs.map (·.2) then some (.tbl #[]) else none) (fun b=>?_) (fun q hq=>if_pos (List.mem_map_of_mem hq)) (.inr ⟨_,vs.toArray,_,hk,rfl,rfl,rfl,by rw[List.size_toArray,lenV];exact hl,by simpa using rv⟩) (fun b u z=>?_) (fun b z=>?_) fun z=>absurd (if_neg aT) z
  ·by_cases hb:b∈tabs.map (·.2)
   ·exact .inr (.inr ⟨hb,if_pos hb⟩)
   ·exact .inl (if_neg hb)
  ·by_cases hb:b∈tabs.map (·.2)
   ·have z':=(if_pos hb).symm.trans z
    cases z'
    obtain⟨q,hq,rfl⟩:=List.mem_map.mp hb
    exact tabOk q hq
   ·have z':=(if_neg hb).symm.trans z
    cases z'
  ·by_cases hb:b∈tabs.map (·.2)
   ·exact .inr hb
   ·exact absurd (if_neg hb) z
 | none=>
  refine core (fun b=>if b=a then some (.frz { cls:=.type "list",data:=.seq vs.toArray } (.lst (ns.map V.int))) else if b∈tabs.map (·.2) then some (.tbl #[]) else none) (fun b=>?_) (fun q hq=>?_) (.inl (.inr ⟨{ cls:=.type "list",data:=.seq vs.toArray },if_pos rfl⟩)) (fun b u z=>?_) (fun b z=>?_) fun _=>hk
  ·by_cases hb:b=a
   ·exact .inr (.inl ⟨_,_,if_pos hb⟩)
   ·by_cases hb2:b∈tabs.map (·.2)
    ·exact .inr (.inr ⟨hb2,by rw[if_neg hb,if_pos hb2]⟩)
    ·exact .inl (by rw[if_neg hb,if_neg hb2])
  ·show (if q.2=a then _ else _)=_
   rw[if_neg (fun z:q.2=a=>aT (by rw[← z];exact List.mem_map_of_mem hq)),if_pos (List.mem_map_of_mem hq)]
  ·by_cases hb:b=a
   ·have z':=(if_pos hb).symm.trans z
    cases z'
    subst hb
    exact⟨ha,by rw[List.length_map];exact hl,vs,_,rv,ha⟩
   ·have z':=(if_neg hb).symm.trans z
    by_cases hb2:b∈tabs.map (·.2)
    ·have z2:=(if_pos hb2).symm.trans z'
     cases z2
     obtain⟨q,hq,rfl⟩:=List.mem_map.mp hb2
     exact tabOk q hq
    ·have z2:=(if_neg hb2).symm.trans z'
     cases z2
  ·by_cases hb:b=a
   ·exact .inl hb
   ·by_cases hb2:b∈tabs.map (·.2)
    ·exact .inr hb2
    ·exact absurd (by rw[if_neg hb,if_neg hb2]) z
theorem walk_ofT {l:PySem.W.OpenLaw}{n k:Nat}{q:Program}{loose:List Str}{XP:(Str→Option Value)→Heap→Prop}{YP:World→Heap→Prop}{d:DefRec}{K:Params→PySem.W.Frag}{CX:World→CXT}{sp:World→Sp}{x:Str}(ts:List Addr)
  (hn:l.most=some n) (hn2:n≤sizeLine) (hdf:d.params.defaults=[]) (hr:Room k callerA)
  (hY:∀ (w:World) (h:Heap),YP w h→(K w.params).In h) (hT:∀ (w:World) (h:Heap),YP w h→∀ P∈ts,h.get? P=some (PySem.W.tabObj #[]))
  (F:∀ (w:World) (mg:Str→Option Value) (fa:Addr) (h:Heap),(K w.params).In h→h.Ns mainGlobals mg→mg d.name=some (.ref fa) →
   ∃ (fd:FuncData) (tabs:List (Addr×Addr)),(∀ q∈tabs,PySem.W.codeHdIn (K w.params) q.1 q.2=true∧(K w.params).lookup q.2=none∧q.2∈ts)∧(∀ P∈ts,P∈tabs.map (·.2))∧(∀ (s:Shared) (u:Value),BindsTo s fd ⟨[u],[]⟩ [(x,u)]) ∧
    ∀ base:Heap,(K w.params).In base→base.Ns mainGlobals mg→(∀ q∈tabs,Tab mg base q.1 q.2)→FnOk l.prog w (K w.params) mg base (CX w) k fa fd [x] (sp w))
  (hsp:∀ (w:World) (H:Hp) (a:Addr) (ns:List Int),ns.length≤n→(∀ P∈ts,H P=some (.tbl #[]))→SqL (K w.params) H a (ns.map V.int)→sp w [.ref a] H (fun v _=>v=.bl true) fun _ _ _=>False)
  (hCX:∀ (w:World) (H:Hp) (s:Shared) (e:Value) (s':Shared),CX w [] H s (fun _ _ _=>False) e s'→False) :
  PySem.W.WalkO q loose XP YP l.row.toRowW d [] (fun f vs=>PySem.call f vs):=by
 refine Att.attach_call hn hdf fun w s₀ s₁ mg mb fa o pm cd doc a vs ns G Y ho hd hcd hmg hobj hints hlen hg=>?_
 have KX:=hY w _ Y
 obtain⟨fd,tabs,hTK,hall,hb,hF⟩:=F w mg fa _ KX G.T.g hmg
 have hTs:PySem.W.TabsAt tabs s₁.heap:=fun q hq=>⟨PySem.W.codeHd_of_K KX (hTK q hq).1,hT w _ Y _ (hTK q hq).2.2⟩
 exact law_callT (tabs:=tabs) KX G.T.g G.T.b G.T.builtins G.T.nolimit hg G.T.bmain hTs (fun q hq=>(hTK q hq).2.1) hobj hints (Nat.le_trans hlen hn2) hr hF hb
  (fun H hH hS=>hsp w H a ns hlen (fun P hP=>by
   obtain⟨q,hq,rfl⟩:=List.mem_map.mp (hall P hP)
   exact hH q hq) hS) fun H e s'=>hCX w H s₁ e s'
end L2
set_option Elab.async false
set_option linter.all false
set_option maxRecDepth 100000
namespace L2
open PySem PySem.Spec PyProof.Rows
section
variable {X:Cx}{K:PySem.W.Frag}
theorem comp_tup {K:PySem.W.Frag}{a:Addr}{xs:List V}{k:Nat}{g:TG}{tc:TT}{te:TE}{σ:St}{H1:Hp}{Q:VK}(few:xs.length≤1000)
  (h:∀ acc,H1 acc=none→∃ Pv:Nat→St→List V→Hp→Prop,Pv 0 (σ++List.replicate k none) [] (upd H1 acc (.lst []))∧(∀ i σ2 ys H2,i≤xs.length→Pv i σ2 ys H2→SqT K H2 a xs∧ys.length≤i) ∧
   (∀ i x σ2 ys H2,i<xs.length→xs[i]? = some x→Pv i σ2 ys H2→g x σ2 H2 fun σ4 H4=>tc σ4 H4 fun b H5=>if b=true then te σ4 H5 fun v H6=>H6 acc=some (.lst ys)∧Nx xs.length i (Pv (i+1) σ4 (ys++[v]) (upd H6 acc (.lst (ys++[v])))) else Nx xs.length i (Pv (i+1) σ4 ys H5)) ∧
   ∀ σ2 ys H2,Pv xs.length σ2 ys H2→Q (.ref acc) H2):CompR (Itt K a) k g tc te σ H1 Q:=by
 intro acc ha
 obtain⟨Pv,p0,pl,ps,pd⟩:=h acc ha
 refine⟨fun i m σ2 ys H2=>m=xs.length-i∧i≤xs.length∧Pv i σ2 ys H2,⟨xs.length,by simp,Nat.zero_le _,p0⟩,?_⟩
 rintro i m σ2 ys H2 ⟨rfl,hi,p⟩
 obtain⟨q,len⟩:=pl i σ2 ys H2 hi p
 by_cases hlt:i<xs.length
 ·refine .inr ⟨⟨xs,xs[i],q,by simp[hlt]⟩,Nat.lt_of_le_of_lt len (small1000 (by omega)),fun x H3 y=>?_⟩
  obtain⟨e,y⟩:=y
  subst e
  exact ps i x σ2 ys _ hlt (y xs q) p
 ·have e:i=xs.length:=by omega
  subst e
  exact .inl ⟨⟨xs,q,Nat.le_refl _⟩,pd σ2 ys H2 p⟩
end
end L2
set_option Elab.async false
set_option linter.all false
set_option maxRecDepth 100000
namespace PySem
section
variable {prog:Program}{w:World}{K:Type} [DecidableEq K] {knd:HeapKind prog w K}{A:Around}{E:Value→Shared→Prop}{s:Shared}
theorem eraseIdx_map' {α β:Type}(f:α→β):∀ (l:List α) (j:Nat),(l.map f).eraseIdx j=(l.eraseIdx j).map f
 | [],_=>by simp
 | x::r,0=>by simp
 | x::r,j+1=>by simp[eraseIdx_map' f r j]
theorem eraseIdx_keys {xs:List (K×Addr×Value)}(hn:(xs.map (·.1)).Nodup):∀ {j:Nat}{k:K}{p:Addr×Value},xs[j]? = some (k,p)→xs.eraseIdx j=xs.filter fun x=>decide (x.1≠k):=by
 induction xs with
 | nil=>intro j k p h;simp at h
 | cons x r ih=>
  intro j k p h
  rw[List.map_cons,List.nodup_cons] at hn
  cases j with
  | zero=>
   simp only[List.getElem?_cons_zero,Option.some.injEq] at h
   subst h
   rw[List.eraseIdx_cons_zero,List.filter_cons_of_neg (by simp)]
   rw[List.filter_eq_self.mpr]
   intro y hy
   refine decide_eq_true fun e=>hn.1 (List.mem_map.mpr ⟨y,hy,e⟩)
  | succ j=>
   simp only[List.getElem?_cons_succ] at h
   have hm:k∈r.map (·.1):=List.mem_map.mpr ⟨(k,p),List.mem_of_getElem? h,rfl⟩
   have ne:x.1≠k:=fun e=>hn.1 (by rw[e];exact hm)
   rw[List.eraseIdx_cons_succ,ih hn.2 h,List.filter_cons_of_pos (p:=fun x:K×Addr×Value=>decide (x.1≠k)) (by simpa using ne)]
theorem takeOut_heap {d a:Addr}{xs:List (K×Addr×Value)}{k:K}{p:Addr×Value}{Q:Option DictEntry→Shared→Prop}(hu:knd.room A) (hkey:knd.is s.heap k a) (hm:s.heap.DictOfH knd d xs) (hv:atKey xs k=some p)
  (hsome:∀ h',h'.DictOfH knd d (xs.filter fun x=>decide (x.1≠k))→Heap.SameBut d s.heap h'→Q (some ⟨knd.hash k,.ref p.1,p.2⟩) { s with heap:=h',toks:=s.toks+knd.draws k })
  (hsz:xs.length≤sizeLine):wpAny (model prog w) A (Builtin.Dict.takeOut d (.ref a)) Q E s:=by
 obtain⟨o,es,ep,ho,hc,hd,he,his,hn⟩:=hm
 unfold Builtin.Dict.takeOut
 try with_reducible refine wpAny_holding ?_
 refine wpAny_bind (knd.pyHash hu hkey ?_)
 refine wpAny_bind (wpAny_dictFind_heap (s:={ s with toks:=s.toks+knd.draws k }) hu hkey ho hd he his hn ?_ ?_)
 ·intro hno
  rw[atKey_none_of_get hno] at hv
  cases hv
 ·intro j q hj
  have ep':q=p:=by rw[atKey_of_get hn hj] at hv;exact Option.some.inj hv
  subst ep'
  refine wpAny_bind (wpAny_dictEntries (s:={ s with toks:=s.toks+knd.draws k }) ho hd ?_)
  rw[entry_at he j,hj]
  refine wpAny_bind (wpAny_updateDictKeys (hz:=by have e:=size_of_entries he;omega) (s:={ s with toks:=s.toks+knd.draws k }) ho hd (wpAny_pure (hsome _ ⟨_,_,ep+1,Heap.get?_update_self _ ho (Obj.isFreed_of_dict (Obj.data_mapDictKeys hd _)),
   hc.mapDictKeys _,Obj.data_mapDictKeys hd _,?_,?_,?_⟩ (Heap.SameBut.update ..))))
  ·rw[← eraseIdx_keys hn hj]
   have hlt:j<es.size:=by
    rw[size_of_entries he]
    exact(List.getElem?_eq_some_iff.mp hj).1
   show (es.eraseIdxIfInBounds j).toList=_
   rw[Array.eraseIdxIfInBounds,dif_pos hlt,Array.toList_eraseIdx,he,eraseIdx_map']
  ·intro x hx
   exact knd.keeps (his x (List.mem_filter.mp hx).1) ho hd (Heap.SameBut.update ..)
  ·exact(List.filter_sublist.map _).nodup hn
theorem meetsH_dict_pop (knd:HeapKind prog w K) (d a:Addr) :
  MeetsIn prog w (Builtin.«dict.pop» ⟨[.ref d,.ref a],[]⟩) (fun A R s=>knd.room A.in1∧∃ k xs p,knd.is s.heap k a∧s.heap.DictOfH knd d xs∧xs.length≤sizeLine∧atKey xs k=some p ∧
   ∀ h',h'.DictOfH knd d (xs.filter fun x=>decide (x.1≠k))→Heap.SameBut d s.heap h'→R (.ok (.ret p.2)) { s with heap:=h',toks:=s.toks+knd.draws k }):=
 .of_wp fun A R s ⟨hu,k,xs,p,hkey,hm,hsz,hv,h⟩=>by
  unfold Builtin.«dict.pop»
  refine wpAny_bind ?_
  unfold Builtin.Dict.keyAndDefault
  refine wpAny_bind (wpAny_notOrdered_dict hm.typeIs ?_)
  show wpAny _ _ (pure (d,Value.ref a,none)) _ _ s
  refine wpAny_pure ?_
  obtain⟨o,es,ep,ho,hc,hd,he,his,hn⟩:=id hm
  have ne:es.isEmpty=false:=by
   have:es.size≠0:=by
    rw[size_of_entries he]
    intro z
    rw[List.length_eq_zero_iff.mp z] at hv
    cases hv
   simp[Array.isEmpty,this]
  simp only[show (keyPart (Value.ref a)).isSome=false from rfl,Bool.false_eq_true,if_false]
  refine wpAny_bind (wpAny_dictEntries ho hd ?_)
  refine wpAny_bind (wpAny_pure ?_)
  rw[ne]
  simp only[Bool.false_eq_true,if_false]
  refine wpAny_bind (takeOut_heap hu hkey hm hv (fun h' hm' hs'=>?_) hsz)
  simp only[Option.isNone_some,Bool.false_eq_true,if_false]
  exact wpAny_bind (wpAny_letGo (wpAny_pure ⟨_,rfl,h h' hm' hs'⟩))
theorem dictSetDefault_heap {d a:Addr}{xs:List (K×Addr×Value)}{k:K}{dflt:Value}{Q:Value→Shared→Prop}(hu:knd.room A) (hkey:knd.is s.heap k a) (hm:s.heap.DictOfH knd d xs)
  (h1:∀ p,atKey xs k=some p→Q p.2 { s with toks:=s.toks+knd.draws k })
  (h2:atKey xs k=none→∀ h',h'.DictOfH knd d (xs++[(k,a,dflt)])→Heap.SameBut d s.heap h'→Q dflt { s with heap:=h',toks:=s.toks+knd.draws k })
  (hsz:xs.length≤sizeLine):wpAny (model prog w) A (dictSetDefault d (.ref a) dflt) Q E s:=by
 obtain⟨o,es,ep,ho,hc,hd,he,his,hn⟩:=hm
 unfold dictSetDefault
 try with_reducible refine wpAny_holding ?_
 refine wpAny_bind (knd.pyHash hu hkey ?_)
 refine wpAny_bind (wpAny_dictFind_heap (s:={ s with toks:=s.toks+knd.draws k }) hu hkey ho hd he his hn ?_ ?_)
 ·intro hno
  have hnot:k∉xs.map (·.1):=not_mem_keys_of_get hno
  refine wpAny_bind (wpAny_rule (wpAny_bind (wpAny_updateDictKeys (hz:=by have e:=size_of_entries he;omega) (s:={ s with toks:=s.toks+knd.draws k }) ho hd (wpAny_pure (h2 (atKey_none_of_get hno) _ ⟨_,_,ep+1,Heap.get?_update_self _ ho (Obj.isFreed_of_dict (Obj.data_mapDictKeys hd _)),
   hc.mapDictKeys _,Obj.data_mapDictKeys hd _,?_,?_,?_⟩ (Heap.SameBut.update ..))))))
  ·simp[he,entryOfKey]
  ·intro x hx
   rcases List.mem_append.mp hx with hx|hx
   ·exact knd.keeps (his x hx) ho hd (Heap.SameBut.update ..)
   ·simp only[List.mem_singleton] at hx
    subst hx
    exact knd.keeps hkey ho hd (Heap.SameBut.update ..)
  ·rw[List.map_append,List.nodup_append]
   refine⟨hn,by simp,?_⟩
   intro x hx y hy
   simp only[List.map_cons,List.map_nil,List.mem_singleton] at hy
   subst hy
   exact fun e=>hnot (e ▸ hx)
 ·intro j p hj
  refine wpAny_bind (wpAny_dictEntries (s:={ s with toks:=s.toks+knd.draws k }) ho hd ?_)
  rw[entry_at he j,hj]
  exact wpAny_bind (wpAny_rule (wpAny_pure (h1 p (atKey_of_get hn hj))))
theorem meetsH_dict_setdefault (knd:HeapKind prog w K) (d a:Addr) (hd:(d == sysModules)=false) (dflt:Value) :
  MeetsIn prog w (Builtin.«dict.setdefault» ⟨[.ref d,.ref a,dflt],[]⟩) (fun A R s=>knd.room A.in1∧∃ k xs,knd.is s.heap k a∧s.heap.DictOfH knd d xs∧xs.length≤sizeLine ∧
   (∀ p,atKey xs k=some p→R (.ok (.ret p.2)) { s with toks:=s.toks+knd.draws k }) ∧
   (atKey xs k=none→∀ h',h'.DictOfH knd d (xs++[(k,a,dflt)])→Heap.SameBut d s.heap h'→R (.ok (.ret dflt)) { s with heap:=h',toks:=s.toks+knd.draws k })):=
 .of_wp fun A R s ⟨hu,k,xs,hkey,hm,hz,h1,h2⟩=>by
  unfold Builtin.«dict.setdefault»
  refine wpAny_bind ?_
  unfold Builtin.Dict.keyAndDefault
  refine wpAny_bind (wpAny_notOrdered_dict hm.typeIs ?_)
  show wpAny _ _ (pure (d,Value.ref a,some dflt)) _ _ s
  refine wpAny_pure ?_
  show wpAny _ _ (if (d == sysModules)=true then _ else (dictSetDefault d (.ref a) dflt >>= _)) _ _ s
  rw[if_neg (by rw[hd];exact Bool.false_ne_true)]
  exact wpAny_bind (dictSetDefault_heap hu hkey hm (fun v hv=>wpAny_pure ⟨v.2,rfl,h1 v hv⟩) (fun hn h' hm' hs'=>wpAny_pure ⟨dflt,rfl,h2 hn h' hm' hs'⟩) hz)
end
end PySem
namespace L2
open PySem PySem.Spec PyProof.Rows
theorem KT.drop {H:Hp}{kvs:List (List Key×V)}{xs:List (List Key×Addr×Value)}(r:KT H kvs xs) (k:List Key):KT H (dropK kvs k) (xs.filter fun x=>decide (x.1≠k)):=by
 unfold dropK
 induction r with
 | nil=>exact .nil
 | @cons p q ps qs h t ih=>
  by_cases e:p.1=k
  ·rw[List.filter_cons_of_neg (by simp[e]),List.filter_cons_of_neg (by rw[← h.1];simp[e])]
   exact ih
  ·rw[List.filter_cons_of_pos (by simp[e]),List.filter_cons_of_pos (by rw[← h.1];simp[e])]
   exact .cons h ih
theorem KT.atKey {H:Hp}{kvs:List (List Key×V)}{xs:List (List Key×Addr×Value)}(r:KT H kvs xs) {k:List Key}{v:V}(h:valV kvs k=some v):∃ p,PySem.atKey xs k=some p∧RelV v p.2:=by
 obtain⟨w',hw,rw'⟩:=RelO.some_of (v:=v) (o:=(PySem.atKey xs k).map (·.2)) (by rw[← h];exact r.val k)
 obtain⟨p,hp,hp2⟩:=Option.map_eq_some_iff.mp hw
 exact⟨p,hp,by rw[hp2];exact rw'⟩
section
variable {X:Cx}
theorem dt_set {pins:List (Addr×Obj)}{σ:St}{H:Hp}{s:Shared}{a:Addr}{kvs kvs':List (List Key×V)}{xs':List (List Key×Addr×Value)}{h':Heap}{t':Nat}(I:Inv X pins σ H s) (e:H a=some (.dT kvs)) (hd:(a == sysModules)=false) (hs:Heap.SameBut a s.heap h')
  (dd:h'.DictOfH (tupleKind (mixKind X.prog X.w)) a xs') (r:KT H kvs' xs') (hl:kvs'.length≤sizeLine):Inv X pins σ (upd H a (.dT kvs')) { s with heap:=h',toks:=t' }:=by
 obtain⟨q,es,ep,hq,h2,h3,h4,_,h5⟩:=dd
 refine d_write I (by rw[e];exact True.intro) hs ⟨q,hq⟩ ⟨hl,hd,_,r.keeps fun c ys ec=>?_,q,es,ep,hq,h2,h3,h4,h5⟩
 rw[upd_ne (ne_of ec e (fun z=>nomatch z))]
 exact ec
def rPopT:V→List V→Hp→VK→Prop:=fun x vs H Q=>∃ a b kvs k v,x=.ref a∧vs=[.ref b]∧H a=some (.dT kvs)∧H b=some (.tup (k.map kV))∧valV kvs k=some v∧Q v (upd H a (.dT (dropK kvs k)))
theorem mt_popT (hu:X.A.units+1<cLine):MtM X "dict.pop" rPopT:=by
 intro pins s σ H x vs v us Q I rx rv h
 obtain⟨a,b,kvs,k,y,rfl,rfl,e,eb,hv,q⟩:=h
 cases rx
 obtain⟨u,rfl,ru⟩:=rv.one
 cases (show u=Value.ref b from ru)
 obtain⟨z,hd,xs,rel,dd⟩:=dt_of I.hok e
 obtain⟨p,hp,rp⟩:=rel.atKey hv
 refine call_meetsIn PySem.F.slot_dict_pop dd.typeIs PySem.F.entry_dict_pop (PySem.F.args_dict_pop_2 _ _) (meetsH_dict_pop (tupleKind (mixKind X.prog X.w)) a b)
  ⟨tupleKind_room_in1 hu,k,xs,p,key_of I.hok eb,dd,by rw[← Paired.length rel];exact z,hp,fun h' dd' hs=>⟨y,_,dt_set I e hd hs dd' (rel.drop k) (Nat.le_trans (dropK_le kvs k) z),rp,q⟩⟩
def rSetDefT:V→List V→Hp→VK→Prop:=fun x vs H Q=>∃ a b kvs k y,x=.ref a∧vs=[.ref b,y]∧H a=some (.dT kvs)∧H b=some (.tup (k.map kV))∧kvs.length<sizeLine ∧
 (∀ v,valV kvs k=some v→Q v H)∧(valV kvs k=none→Q y (upd H a (.dT (kvs++[(k,y)]))))
theorem mt_setDefT (hu:X.A.units+1<cLine):MtM X "dict.setdefault" rSetDefT:=by
 intro pins s σ H x vs v us Q I rx rv h
 obtain⟨a,b,kvs,k,y,rfl,rfl,e,eb,hl,q1,q2⟩:=h
 cases rx
 obtain⟨u,ur,rfl,ru,rv'⟩:∃ u ur,us=u::ur∧RelV (.ref b) u∧Vals [y] ur:=by cases rv with|cons a b=>exact⟨_,_,rfl,a,b⟩
 obtain⟨u2,rfl,ru2⟩:=rv'.one
 cases (show u=Value.ref b from ru)
 obtain⟨z,hd,xs,rel,dd⟩:=dt_of I.hok e
 refine call_meetsIn PySem.F.slot_dict_setdefault dd.typeIs PySem.F.entry_dict_setdefault (PySem.F.args_dict_setdefault_3 _ _ _) (meetsH_dict_setdefault (tupleKind (mixKind X.prog X.w)) a b hd u2)
  ⟨tupleKind_room_in1 hu,k,xs,key_of I.hok eb,dd,by rw[← Paired.length rel];exact z,fun p hp=>?_,fun hn h' dd' hs=>?_⟩
 ·have r:=rel.val k
  rw[hp] at r
  obtain⟨v,hv,rv2⟩:∃ v,valV kvs k=some v∧RelV v p.2:=by
   cases h:valV kvs k with
   | none=>rw[h] at r;exact(show False from r).elim
   | some v=>rw[h] at r;exact⟨v,rfl,r⟩
  exact⟨v,H,I.tok _,rv2,q1 v hv⟩
 ·have hn':valV kvs k=none:=by
   have r:=rel.val k
   rw[hn] at r
   cases h:valV kvs k with
   | none=>rfl
   | some v=>rw[h] at r;exact(show False from r).elim
  exact⟨y,_,dt_set I e hd hs dd' (Paired.snoc rel ⟨rfl,eb,ru2⟩) (by rw[List.length_append];show _+1≤_;omega),ru2,q2 hn'⟩
end
end L2
set_option Elab.async false
set_option linter.all false
set_option maxRecDepth 100000
namespace PySem
section
variable {prog:Program}{w:World}{K:Type} [DecidableEq K] {knd:HeapKind prog w K}{A:Around}{E:Value→Shared→Prop}{s:Shared}
theorem filter_hash {es:List DictEntry}(hn:(es.map (·.hash)).Nodup) {e:DictEntry}(he:e∈es):(es.filter (·.hash == e.hash)).length≤1:=by
 induction es with
 | nil=>cases he
 | cons x r ih=>
  rw[List.map_cons,List.nodup_cons] at hn
  by_cases h:x.hash=e.hash
  ·rw[List.filter_cons_of_pos (by simp[h]),List.filter_eq_nil_iff.mpr]
   ·simp
   ·intro y hy z
    exact hn.1 (List.mem_map.mpr ⟨y,hy,by simpa [h] using z⟩)
  ·rw[List.filter_cons_of_neg (by simp[h])]
   rcases List.mem_cons.mp he with rfl|he
   ·exact absurd rfl h
   ·exact ih hn.2 he
theorem entriesForEmpty_heap {id:String}{d:Addr}{o:Obj}{es ep}{Q:Array DictEntry→Shared→Prop}(ho:s.heap.get? d=some o) (hd:o.data=.dict es ep)
  (hq:∀ e∈es.toList,∃ b,e.key=.ref b∧s.TypeIs (.ref b) "tuple") (hn:(es.toList.map (·.hash)).Nodup) (h:Q es s) :
  wpAny (model prog w) A (Builtin.Dict.entriesForEmpty id d) Q E s:=by
 unfold Builtin.Dict.entriesForEmpty
 refine wpAny_bind (wpAny_dictEntries ho hd ?_)
 refine wpAny_bind ?_
 rw[← Array.forIn_toList]
 refine wpAny_forIn_list _ (fun rest _ s'=>s'=s∧∀ e∈rest,e∈es.toList) _ ?_ ?_ _ _ ⟨rfl,fun e he=>he⟩
 ·rintro x rest r s' ⟨rfl,hr⟩
  obtain⟨b,eb,hT⟩:=hq x (hr x List.mem_cons_self)
  refine wpAny_bind ?_
  rw[eb]
  unfold Builtin.Dict.quietEq
  refine wpAny_bind (wpAny_specialOf hT F.slot_tuple_eq.lookup (wpAny_pure ?_))
  have hf:=filter_hash hn (hr x List.mem_cons_self)
  have hs:¬ (es.filter (·.hash == x.hash)).size>1:=by
   have e2:(es.filter (·.hash == x.hash)).size=(es.toList.filter (·.hash == x.hash)).length:=by
    rw[← Array.length_toList,Array.toList_filter]
   omega
  rw[if_pos (by decide),if_neg hs]
  exact wpAny_pure ⟨rfl,fun e he=>hr e (List.mem_cons_of_mem _ he)⟩
 ·rintro r s' ⟨rfl,_⟩
  exact wpAny_pure h
theorem mergeDict_heap {nm:String}{d o:Addr}{od oo:Obj}{epd ep:Nat}{es:Array DictEntry}{Q:Unit→Shared→Prop}(hdo:d≠o) (hoS:(o == sysModules)=false)
  (hod:s.heap.get? d=some od) (hdd:od.data=.dict #[] epd) (hoo:s.heap.get? o=some oo) (hdo':oo.data=.dict es ep)
  (hq:∀ e∈es.toList,∃ b,e.key=.ref b∧s.TypeIs (.ref b) "tuple") (hn:(es.toList.map (·.hash)).Nodup) (hsz:es.size≤sizeLine)
  (hQ:∀ h' od' ep',h'.get? d=some od'→od'.data=.dict es ep'→(od.ExactDict→od'.ExactDict)→Heap.SameBut d s.heap h'→Q () { s with heap:=h' }) :
  wpAny (model prog w) A (Builtin.Dict.mergeDict nm d o) Q E s:=by
 unfold Builtin.Dict.mergeDict
 rw[if_neg (by simpa using hdo)]
 unfold Builtin.Dict.showsAll
 rw[if_neg (by rw[hoS];exact Bool.false_ne_true)]
 refine wpAny_bind (wpAny_pure ?_)
 refine wpAny_bind (wpAny_dictEntries hoo hdo' ?_)
 dsimp only
 by_cases e0:es = #[]
 ·subst e0
  rw[if_neg (by simp)]
  refine wpAny_bind (wpAny_dictEpoch hoo hdo' ?_)
  refine wpAny_bind (wpAny_dictEntries hoo hdo' ?_)
  refine wpAny_bind ?_
  rw[Std.Legacy.Range.forIn_eq_forIn_range']
  refine wpAny_forIn_list _ (fun rest _ s'=>s'=s∧rest=[]) _ ?_ ?_ _ _ ⟨rfl,rfl⟩
  ·rintro x rest r s' ⟨_,e⟩;cases e
  ·rintro r s' ⟨rfl,_⟩
   exact wpAny_pure (hQ _ od epd hod hdd id (Heap.SameBut.refl _ _))
 ·have few:(decide (es.size≤8) && es.all fun e=>(keyPart e.key).isSome)=false:=by
   have:(es.all fun e=>(keyPart e.key).isSome)=false:=by
    rw[← Array.all_toList]
    cases h:es.toList with
    | nil=>exact absurd (by rw[← Array.toList_inj];exact h) e0
    | cons x r=>
     obtain⟨b,eb,_⟩:=hq x (by rw[h];exact List.mem_cons_self)
     rw[List.all_cons,eb]
     rfl
   rw[this,Bool.and_false]
  rw[few]
  rw[if_pos (by decide)]
  refine wpAny_bind (wpAny_dictEntries hod hdd ?_)
  rw[if_pos (by decide)]
  refine wpAny_bind (entriesForEmpty_heap hoo hdo' hq hn ?_)
  rw[if_pos (by cases h:es.isEmpty with|true=>exact absurd (Array.isEmpty_iff.mp h) e0|false=>rfl)]
  refine wpAny_bind (wpAny_updateDictKeysTo hod hdd (wpAny_pure (hQ _ _ (epd+1) (Heap.get?_update_self _ hod (Obj.isFreed_of_dict (Obj.data_mapDictKeys hdd _))) (Obj.data_mapDictKeys hdd _) (fun h=>h.mapDictKeys _) (Heap.SameBut.update ..))) (by omega))
theorem call_dict_heap {o:Addr}{oo:Obj}{ep:Nat}{es:Array DictEntry}{Q:Value→Shared→Prop}(hoS:(o == sysModules)=false) (hoo:s.heap.get? o=some oo) (hx:oo.ExactDict) (hdo':oo.data=.dict es ep)
  (hq:∀ e∈es.toList,∃ b,e.key=.ref b∧s.TypeIs (.ref b) "tuple") (hn:(es.toList.map (·.hash)).Nodup) (hsz:es.size≤sizeLine)
  (h:∀ h' od ep',h'.get? s.heap.objs.size=some od→od.data=.dict es ep'→od.ExactDict→(∀ b u,s.heap.get? b=some u→h'.get? b=some u)→Q (.ref s.heap.objs.size) { s with heap:=h' }) :
  wpAny (model prog w) A (call (.type "dict") [.ref o]) Q E s:=by
 refine callType_codes (Q₁:=fun obj s₁=>obj=.ref s.heap.objs.size∧s₁={ s with heap:=s.heap.push { cls:=.type "dict",data:=.dict #[] } }) F.kt_called_dict (F.kt_typeCall_dict_1 _) F.entry_dict_init (kt_code_dict_new _ ⟨rfl,rfl⟩) ?_
 rintro obj s₁ ⟨rfl,rfl⟩
 have hg:(s.heap.push { cls:=.type "dict",data:=.dict #[] }).get? s.heap.objs.size=some { cls:=.type "dict",data:=.dict #[] }:=Heap.get?_push_size _ rfl
 have kp:∀ b u,s.heap.get? b=some u→(s.heap.push { cls:=.type "dict",data:=.dict #[] }).get? b=some u:=fun b u e=>Heap.get?_push_of_some _ e
 have hTn:({ s with heap:=s.heap.push { cls:=.type "dict",data:=.dict #[] } }:Shared).TypeIs (.ref s.heap.objs.size) "dict":=⟨_,hg,rfl⟩
 have hTo:({ s with heap:=s.heap.push { cls:=.type "dict",data:=.dict #[] } }:Shared).TypeIs (.ref o) "dict":=⟨_,kp _ _ hoo,hx.1⟩
 have hdo:s.heap.objs.size≠o:=fun e=>absurd (Heap.lt_size hoo) (by rw[e];exact Nat.lt_irrefl _)
 refine⟨hTn,F.args_dict_init_2 _ _,?_⟩
 unfold Builtin.«dict.__init__»
 refine wpAny_bind ?_
 unfold Builtin.Dict.selfAndRest
 refine wpAny_bind (wpAny_notOrdered_dict hTn ?_)
 show wpAny _ _ (pure (s.heap.objs.size,[Value.ref o])) _ _ _
 refine wpAny_pure ?_
 show wpAny _ _ (Builtin.Dict.updateFrom "dict.__init__" s.heap.objs.size (.ref o) [] .none) _ _ _
 unfold Builtin.Dict.updateFrom
 refine wpAny_bind (wpAny_typeOf hTo ?_)
 rw[if_neg (by decide)]
 refine wpAny_bind ?_
 unfold Builtin.Dict.merge
 refine wpAny_bind ?_
 unfold Builtin.Dict.readDirectly
 refine wpAny_bind (wpAny_isInstance hTo isSubtype_dict_dict ?_)
 simp only[Bool.not_true,Bool.false_eq_true,if_false]
 refine wpAny_bind (wpAny_specialOf hTo F.slot_dict_iter.lookup (wpAny_pure ?_))
 simp only[beq_self_eq_true,if_true]
 refine wpAny_bind (wpAny_pure ?_)
 refine mergeDict_heap hdo hoS hg rfl (kp _ _ hoo) hdo' (fun e he=>?_) hn hsz fun h' od' ep' hg' hd' hx' hs'=>?_
 ·obtain⟨b,eb,q,hb,hc⟩:=hq e he
  exact⟨b,eb,q,kp _ _ hb,hc⟩
 ·show wpAny _ _ (Builtin.Dict.addKeywords s.heap.objs.size [] >>= _) _ _ _
  exact wpAny_bind (wpAny_pure (wpAny_pure ⟨rfl,h h' od' ep' hg' hd' (hx' ⟨rfl,rfl,rfl⟩) fun b u e=>(hs'.2 b fun z=>absurd (Heap.lt_size e) (by rw[z];exact Nat.lt_irrefl _)).trans (kp _ _ e)⟩))
end
end PySem
namespace L2
open PySem PySem.Spec PyProof.Rows
def hT (w:World) (k:List Key):Int:=reduceHash (Builtin.Tuple.tupleHashOf (k.map (keyH w)))
section
variable {X:Cx}
def rDictT (w:World):List V→Hp→VK→Prop:=fun xs H Q=>∃ a kvs,xs=[.ref a]∧Rd H a (.dT kvs)∧(kvs.map fun p=>hT w p.1).Nodup∧∀ l,H l=none→Q (.ref l) (upd H l (.dT kvs))
theorem KT.map1 {H:Hp}{kvs:List (List Key×V)}{xs:List (List Key×Addr×Value)}(r:KT H kvs xs):xs.map (·.1)=kvs.map (·.1):=by
 induction r with
 | nil=>rfl
 | @cons p q ps qs h t ih=>rw[List.map_cons,List.map_cons,ih,h.1]
theorem call_dictT:CallR X (.type "dict") (rDictT X.w):=by
 intro pins s σ H xs us Q I r h
 obtain⟨a,kvs,rfl,e,hh,q⟩:=h
 obtain⟨u,rfl,ru⟩:=vals1 r
 cases ru
 obtain⟨z,hd,xs,rel,o,es,ep,ho,hx,hdat,he,his,hn⟩:=dt_rd I.hok e
 have e1:es.toList.map (·.hash)=kvs.map fun p=>hT X.w p.1:=by
  rw[he,List.map_map]
  have:(kvs.map fun p=>hT X.w p.1)=(kvs.map (·.1)).map (hT X.w):=by rw[List.map_map];rfl
  rw[this,← KT.map1 rel,List.map_map]
  rfl
 have len:kvs.length=es.size:=by rw[size_of_entries he];exact Paired.length rel
 refine call_dict_heap hd ho hx hdat (fun en hen=>?_) (by rw[e1];exact hh) (by omega) fun h' od ep' hg hd' hx' kp=>?_
 ·rw[he] at hen
  obtain⟨x,hxm,rfl⟩:=List.mem_map.mp hen
  obtain⟨ob,its,n,h1,h2,h3,_⟩:=his x hxm
  exact⟨x.2.1,rfl,ob,h1,h2⟩
 ·have hnm:H s.heap.objs.size=none:=I.hok.fresh (Nat.le_refl _)
  refine⟨.ref s.heap.objs.size,_,I.laid (a:=s.heap.objs.size) (o:=.dT kvs) (t':=s.toks) kp (Nat.le_refl _) ⟨z,?_,xs,rel.keeps fun c ys ec=>?_,od,es,ep',hg,hx',hd',he,hn⟩,rfl,q _ hnm⟩
  ·have:=I.big
   rw[beq_eq_false_iff_ne]
   exact Nat.ne_of_gt this
  ·rw[upd_ne (ne_of_none ec hnm)];exact ec
end
end L2
set_option Elab.async false
set_option linter.all false
set_option maxRecDepth 100000
namespace PySem
section
variable {prog:Program}{w:World}{A:Around}{E:Value→Shared→Prop}{s:Shared}
theorem iter_raw {d:Addr}{o:Obj}{es:Array DictEntry}{ep:Nat}{Q:Value→Shared→Prop}(hd:(d == sysModules)=false) (ho:s.heap.get? d=some o) (hx:o.ExactDict) (hdat:o.data=.dict es ep)
  (hQ:Q (.ref s.heap.objs.size) { s with heap:=s.heap.push { cls:=.type "dict_keyiterator",data:=.fields #[.ref d,.int 0 0,.int es.size 0,.int ep 0] } }) :
  wpAny (model prog w) A (pyIter (.ref d)) Q E s:=by
 have hT:s.TypeIs (.ref d) "dict":=⟨o,ho,hx.1⟩
 refine wpAny_pyIter_slot hT F.slot_dict_iter (wpAny_call_entry F.slot_dict_iter hT F.entry_dict_iter ?_ (F.args_dict_iter_1 _))
 unfold Builtin.«dict.__iter__»
 refine wpAny_bind ?_
 unfold Builtin.Dict.dictSlotNone
 refine wpAny_bind (wpAny_notOrdered_dict hT ?_)
 show wpAny _ _ (pure (Value.ref d)) _ _ s
 refine wpAny_pure ?_
 show wpAny _ _ (Builtin.Dict.showsAll d >>= _) _ _ s
 unfold Builtin.Dict.showsAll
 rw[if_neg (by rw[hd];exact Bool.false_ne_true)]
 refine wpAny_bind (wpAny_pure (wpAny_bind (wpAny_dictEntries ho hdat (wpAny_bind (wpAny_dictEpoch ho hdat ?_)))))
 refine wpAny_bind (wpAny_newObj_type (wpAny_pure ⟨_,rfl,"dict_keyiterator",_,⟨_,Heap.get?_push_size _ rfl,rfl⟩,F.slot_dict_keyiterator_next.lookup,?_⟩))
 simpa [rawInt] using hQ
theorem next_raw {it d:Addr}{i ep:Nat}{od:Obj}{es:Array DictEntry}{Q:Option Value→Shared→Prop}(hit:s.heap.IsKeyIter it d i es.size ep) (hod:s.heap.get? d=some od) (hdd:od.data=.dict es ep) (hlt':i<es.size)
  (hQ:∀ h',h'.IsKeyIter it d (i+1) es.size ep→Heap.SameBut it s.heap h'→Q (some es[i].key) { s with heap:=h' }) :
  wpAny (model prog w) A (pyNext (.ref it)) Q E s:=by
 obtain⟨o,ho,hc,hd⟩:=id hit
 unfold pyNext
 refine wpAny_bind (wpAny_attempt (wpAny_callSpecial?_slot (name:=Str.ofString "__next__") hit.typeIs F.slot_dict_keyiterator_next
  (wpAny_call_entry F.slot_dict_keyiterator_next hit.typeIs F.entry_dict_keyiterator_next ?_ (F.args_dict_keyiterator_next_1 _))))
 refine wpAny_bind (wpAny_pure ?_)
 refine wpAny_bind ?_
 refine wpAny_bind ?_
 first|refine wpAny_bind (wpAny_typeNameOfWhole_keyiter hit.typeIs (wpAny_pure ?_))|refine wpAny_bind (wpAny_typeNameOf_keyiter hit.typeIs (wpAny_pure ?_))
 refine wpAny_bind (wpAny_fieldsOf ho hd ?_)
 have hown:Builtin.Dict_items.ownsTuple "dict_keyiterator" = false:=by decide
 simp only[hown,Bool.false_eq_true,if_false]
 show wpAny _ _ (if (Value.ref d == Value.none)=true then _ else _) _ _ s
 rw[if_neg (show ¬ ((Value.ref d == Value.none)=true) from Bool.false_ne_true)]
 refine wpAny_bind (wpAny_pure (wpAny_bind (wpAny_dictEntries hod hdd ?_)))
 rw[if_neg (by simp)]
 refine wpAny_bind (wpAny_pure (wpAny_bind (wpAny_dictEpoch hod hdd ?_)))
 rw[if_neg (by simp)]
 refine wpAny_pure ?_
 simp only[show ¬ ((i:Int)<0) from by omega,if_false,Int.toNat_natCast,Array.getElem?_eq_getElem hlt']
 refine wpAny_bind ?_
 first|refine wpAny_bind (wpAny_typeNameOfWhole_keyiter hit.typeIs (wpAny_pure ?_))|refine wpAny_bind (wpAny_typeNameOf_keyiter hit.typeIs (wpAny_pure ?_))
 refine wpAny_bind (wpAny_isOneOf_keyiter hit.typeIs ?_)
 show wpAny _ _ (setField (.ref it) 1 (rawInt ((i:Int)+1)) >>= _) _ _ s
 refine wpAny_bind (wpAny_setField ho hd (by simp) ?_)
 have hit':(s.heap.update it (Obj.mapFields (·.setIfInBounds 1 (rawInt ((i:Int)+1))))).IsKeyIter it d (i+1) es.size ep:=
  ⟨_,Heap.get?_update_self _ ho (Obj.isFreed_of_fields (Obj.data_mapFields hd _)),(Obj.cls_mapFields ..).trans hc,by rw[Obj.data_mapFields hd];simp[rawInt]⟩
 refine wpAny_bind (wpAny_holding ?_)
 refine wpAny_bind (wpAny_isOneOf_keyiter (s:={ s with heap:=s.heap.update it (Obj.mapFields (·.setIfInBounds 1 (rawInt ((i:Int)+1)))) }) hit'.typeIs ?_)
 show wpAny _ _ (pure es[i].key) _ _ _
 exact wpAny_pure (wpAny_pure ⟨_,rfl,wpAny_pure (hQ _ hit' (Heap.SameBut.update ..))⟩)
theorem end_raw {it d:Addr}{i ep:Nat}{od:Obj}{es:Array DictEntry}{Q:Option Value→Shared→Prop}(hh:A.handled=none) (hit:s.heap.IsKeyIter it d i es.size ep) (hod:s.heap.get? d=some od) (hdd:od.data=.dict es ep) (hge:es.size≤i)
  (hQ:∀ h',Heap.ExtBut it s.heap h'→Q none { s with heap:=h' }):wpAny (model prog w) A (pyNext (.ref it)) Q E s:=by
 obtain⟨o,ho,hc,hd⟩:=id hit
 unfold pyNext
 refine wpAny_bind (wpAny_attempt (wpAny_callSpecial?_slot (name:=Str.ofString "__next__") hit.typeIs F.slot_dict_keyiterator_next
  (wpAny_call_entry F.slot_dict_keyiterator_next hit.typeIs F.entry_dict_keyiterator_next ?_ (F.args_dict_keyiterator_next_1 _))))
 refine wpAny_bind (wpAny_pure ?_)
 refine wpAny_bind ?_
 refine wpAny_bind ?_
 first|refine wpAny_bind (wpAny_typeNameOfWhole_keyiter hit.typeIs (wpAny_pure ?_))|refine wpAny_bind (wpAny_typeNameOf_keyiter hit.typeIs (wpAny_pure ?_))
 refine wpAny_bind (wpAny_fieldsOf ho hd ?_)
 have hown:Builtin.Dict_items.ownsTuple "dict_keyiterator" = false:=by decide
 simp only[hown,Bool.false_eq_true,if_false]
 show wpAny _ _ (if (Value.ref d == Value.none)=true then _ else _) _ _ s
 rw[if_neg (show ¬ ((Value.ref d == Value.none)=true) from Bool.false_ne_true)]
 refine wpAny_bind (wpAny_pure (wpAny_bind (wpAny_dictEntries hod hdd ?_)))
 rw[if_neg (by simp)]
 refine wpAny_bind (wpAny_pure (wpAny_bind (wpAny_dictEpoch hod hdd ?_)))
 rw[if_neg (by simp)]
 refine wpAny_pure ?_
 simp only[show ¬ ((i:Int)<0) from by omega,if_false,Int.toNat_natCast,Array.getElem?_eq_none hge]
 refine wpAny_bind ?_
 first|refine wpAny_bind (wpAny_typeNameOfWhole_keyiter hit.typeIs (wpAny_pure ?_))|refine wpAny_bind (wpAny_typeNameOf_keyiter hit.typeIs (wpAny_pure ?_))
 show wpAny _ _ (setField (.ref it) 0 .none >>= _) _ _ s
 refine wpAny_bind (wpAny_setField ho hd (by simp) ?_)
 show wpAny _ _ (newExc (.type "StopIteration") [] >>= _) _ _ _
 refine wpAny_bind ?_
 simp only[newExc,newTuple]
 refine wpAny_bind (wpAny_newObj_type ?_ (by size_fits))
 refine wpAny_bind (m:=firstArgMember _ _) (wpAny_of_eq (a:=Value.none) (by first|rfl|(simp only[firstArgMember];rfl)) ?_)
 refine wpAny_newObj_type ?_ (by size_fits)
 simp only[raiseNew]
 refine wpAny_bind (wpAny_handled ?_)
 rw[show A.in1.handled=none from hh]
 refine wpAny_bind (wpAny_pure (wpAny_throw ?_))
 refine wpAny_bind (wpAny_isInstance (T:="StopIteration") (b:=true) ⟨_,Heap.get?_push_size _ rfl,rfl⟩ isSubtype_stop ?_)
 exact wpAny_pure (hQ _ (((Heap.SameBut.update ..).extBut.push _).push _))
end
end PySem
namespace L2
open PySem PySem.Spec PyProof.Rows
section
variable {X:Cx}{pins:List (Addr×Obj)}{σ:St}{H:Hp}{s:Shared}
theorem Inv.refit {a:Addr}{u u':HO}(I:Inv X pins σ H s) (e:H a=some u) (nt:∀ xs,u≠.tup xs) (nb:∀ ps,u≠.tbl ps) (no:∀ b,u≠.own b) (nf:∀ o v,u=.frz o v→(∀ o' v',X.H₀ a≠some (.frz o' v'))∧∀ x c,X.env.cells.lookup x=some c→c≠a)
  (ok:ObjOk X.prog X.w (upd H a u') s.heap a u'):Inv X pins σ (upd H a u') s:=by
 have ne:∀ {b:Addr} {v:HO},H b=some v→v≠u→b≠a:=fun h n z=>by rw[z,e] at h;exact n (Option.some.inj h).symm
 have n0:∀ {b:Addr},H b=none→b≠a:=fun h z=>by rw[z,e] at h;cases h
 refine⟨I.ok,I.os,I.bare,⟨I.base.keep,I.base.slot,fun b o q n hx=>?_,I.base.there,fun b xs q=>?_,fun b o v q=>?_,fun b ps q=>?_⟩,I.loc,I.cell,?_,fun x c q=>?_,fun p hp=>?_,fun b v q=>?_,I.len⟩
 ·have:=I.base.free b o q n hx
  rw[upd_ne (n0 this)];exact this
 ·have:=I.base.tups b xs q
  rw[upd_ne (ne this fun z=>nt xs z.symm)];exact this
 ·have h1:=I.base.frzs b o v q
  rw[upd_ne fun z=>?_]
  ·exact h1
  ·subst z
   rw[e] at h1
   exact(nf o v (Option.some.inj h1)).1 o v q
 ·obtain⟨m,h1⟩:=I.base.tbls b ps q
  exact⟨m,by rw[upd_ne (ne h1 fun z=>nb _ z.symm)];exact h1⟩
 ·rw[upd_ne (n0 I.free)];exact I.free
 ·rcases I.freeC x c q with h1|⟨h1,o,v,h2⟩
  ·exact .inl (by rw[upd_ne (n0 h1)];exact h1)
  ·refine .inr ⟨h1,o,v,?_⟩
   rw[upd_ne fun z=>?_]
   ·exact h2
   ·have h3:u=.frz o v:=by rw[z,e] at h2;exact Option.some.inj h2
    exact(nf o v h3).2 x c q z
 ·obtain⟨h1,h2,h3⟩:=I.pin p hp
  exact⟨h1,by rw[upd_ne (n0 h2)];exact h2,h3⟩
 ·by_cases z:b=a
  ·subst z
   rw[upd_same] at q;cases q;exact ok
  ·rw[upd_ne z] at q
   refine(I.hok b v q).stay (fun c o hc r=>r) (fun c r=>?_) fun c xs r=>?_
   ·rw[upd_ne (ne r fun z=>no _ z.symm)];exact r
   ·rw[upd_ne (ne r fun z=>nt _ z.symm)];exact r
theorem dt_ok {H':Hp}{h:Heap}{a:Addr}{kvs:List (List Key×V)}(ok:ObjOk X.prog X.w H h a (.dT kvs)) (ht:∀ b xs,H b=some (.tup xs)→H' b=some (.tup xs)):ObjOk X.prog X.w H' h a (.dT kvs):=by
 obtain⟨z,y,xs,r,q⟩:=ok
 exact⟨z,y,xs,KT.keeps r ht,q⟩
theorem Inv.freezeT {a:Addr}{kvs:List (List Key×V)}(I:Inv X pins σ H s) (e:H a=some (.dT kvs)):∃ o,s.heap.get? a=some o∧Inv X pins σ (upd H a (.frz o (.dT kvs))) s:=by
 have ok:=I.hok a _ e
 obtain⟨z,y,xs,r,o,es,ep,h1,h2⟩:=id ok
 refine⟨o,h1,I.refit e (fun _ z=>nomatch z) (fun _ z=>nomatch z) (fun _ z=>nomatch z) (fun _ _ z=>nomatch z) ⟨h1,dt_ok ok fun b xs q=>?_⟩⟩
 rw[upd_ne (ne_of q e (fun z=>nomatch z))];exact q
theorem Inv.thawT {a:Addr}{o:Obj}{kvs:List (List Key×V)}(I:Inv X pins σ H s) (e:H a=some (.frz o (.dT kvs))) (n:∀ o' v',X.H₀ a≠some (.frz o' v')):Inv X pins σ (upd H a (.dT kvs)) s:=by
 obtain⟨h1,ok⟩:=(show ObjOk X.prog X.w H s.heap a (.frz o (.dT kvs)) from I.hok a _ e)
 refine I.refit e (fun _ z=>nomatch z) (fun _ z=>nomatch z) (fun _ z=>nomatch z) (fun o' v' z=>⟨n,fun x c q z=>?_⟩) (dt_ok ok fun b xs q=>?_)
 ·obtain⟨v,oc,h2,h3⟩:=I.cell x c q
  obtain⟨_,_,_,_,o1,es,ep,h4,_,h5,_⟩:=ok
  rw[z,h4] at h2;cases h2
  rw[h5] at h3;cases h3
 ·rw[upd_ne (ne_of q e (fun z=>nomatch z))];exact q
end
theorem Paired.fetch {α β:Type}{F:α→β→Prop}:∀ {xs:List α}{ys:List β}{i:Nat}{x:α},Paired F xs ys→xs[i]? = some x→∃ y,ys[i]? = some y∧F x y
 | _,_,_,_,.nil,e=>by simp at e
 | _,_,0,_,.cons a _,e=>by simp at e;subst e;exact⟨_,rfl,a⟩
 | _,_,i+1,v,.cons _ b,e=>by
  obtain⟨r,h1,h2⟩:=Paired.fetch (i:=i) b (by simpa using e)
  exact⟨r,by simpa using h1,h2⟩
def Itk (a:Addr) (o:Obj) (kvs:List (List Key×V)):It:=
 ⟨fun i H=>H a=some (.frz o (.dT kvs))∧i<kvs.length,fun i H x H'=>H'=H∧∃ b k v,x=.ref b∧kvs[i]? = some (k,v)∧H b=some (.tup (k.map kV)),fun i H=>H a=some (.frz o (.dT kvs))∧kvs.length≤i⟩
theorem turn_keys {P:Program}{w:World}{K:PySem.W.Frag}{tg:Expr}(a it:Addr) {o:Obj}{es:Array DictEntry}{ep:Nat}{kvs:List (List Key×V)}(hd:o.data=.dict es ep) (hn:es.size=kvs.length) :
  Turn P w K tg (Itk a o kvs) [it] it (fun i h=>h.IsKeyIter it a i es.size ep) where
 mem:=by simp
 obj:=fun i h st b hb=>by
  have e:b=it:=by simpa using hb
  subst e
  obtain⟨o,e,c,d⟩:=st
  exact⟨o,e,fun v z=>by rw[d] at z;cases z⟩
 keep:=fun i h h' st k=>by
  obtain⟨o,e,c⟩:=st
  exact⟨o,k it (by simp) o e,c⟩
 item:=by
  intro X hP hw hK hc i pins s σ H E I hf st hg
  subst hP hw hK
  obtain⟨e,hi⟩:=hg
  obtain⟨h1,ok⟩:=(show ObjOk X.prog X.w H s.heap a (.frz o (.dT kvs)) from I.hok a _ e)
  obtain⟨z,y,xs,r,o1,es1,ep1,g1,g2,g3,g4,g5⟩:=ok
  rw[h1] at g1;cases g1
  rw[hd] at g3;cases g3
  obtain⟨f0,f1,f2,f3,f4,f5⟩:=hf it (by simp)
  have hlt:i<es.size:=by omega
  refine next_raw st h1 hd hlt fun h' st' sb=>?_
  have I1:Inv X pins σ H { s with heap:=h' }:=I.turned (t':=s.toks) (fun b o hb e=>(sb.2 b hb).trans e) f0 f1 f3 f4 f5
  obtain⟨oi,ei,ci,di⟩:=id st'
  obtain⟨⟨k,v⟩,hkv⟩:∃ p,kvs[i]? = some p:=⟨_,List.getElem?_eq_getElem hi⟩
  obtain⟨q,hq,q1,q2,q3⟩:∃ q,xs[i]? = some q∧k=q.1∧H q.2.1=some (.tup (k.map kV))∧RelV v q.2.2:=by
   have:=Paired.fetch (i:=i) r hkv
   obtain⟨q,hq,h⟩:=this
   exact⟨q,hq,h⟩
  have ek:es[i].key=.ref q.2.1:=by
   have:=entry_at g4 i
   rw[hq,Array.getElem?_eq_getElem hlt] at this
   have:=Option.some.inj this
   rw[this];rfl
  exact⟨_,rfl,go_of (s:={ s with heap:=h' }) ei ci di (by decide) ⟨.ref q.2.1,H,I1,ek,⟨rfl,q.2.1,k,v,rfl,hkv,q2⟩,st',fun b hb=>(hf b hb).1⟩⟩
 done:=by
  intro X hP hw hK hc i pins s σ H E I hf st hg
  subst hP hw hK
  obtain⟨e,hi⟩:=hg
  obtain⟨h1,ok⟩:=(show ObjOk X.prog X.w H s.heap a (.frz o (.dT kvs)) from I.hok a _ e)
  obtain⟨f0,f1,f2,f3,f4,f5⟩:=hf it (by simp)
  exact end_raw (I.ok.hd hc) st h1 hd (by omega) fun h' eb=>⟨rfl,I.turned (t':=s.toks) (fun b o hb e=>eb b o hb e) f0 f1 f3 f4 f5⟩
 self:=fun _ _ _ _ _ st h=>wpAny_pyIter_keyiter st h
section
variable {X:Cx}{tg:Expr}
def iKeys (tl:TE):TI:=fun σ H R=>tl σ H fun x H1=>∃ a kvs,x=.ref a∧((H1 a=some (.dT kvs)∧∀ o,R (Itk a o kvs) (upd H1 a (.frz o (.dT kvs))))∨∃ o,H1 a=some (.frz o (.dT kvs))∧R (Itk a o kvs) H1)
theorem pi_keys {l:Expr}{tl:TE}(hl:PE X l tl):PI X tg l (iKeys tl):=by
 intro pins s σ H R I h
 refine thn (hl pins s σ H _ I h) fun v s1 ⟨x,H1,I1,r1,q1⟩=>?_
 obtain⟨a,kvs,rfl,q⟩:=q1
 cases r1
 obtain⟨o,H2,I2,e2,hR⟩:∃ o H2,Inv X pins σ H2 s1∧H2 a=some (.frz o (.dT kvs))∧R (Itk a o kvs) H2:=by
  rcases q with ⟨e,q⟩|⟨o,e,q⟩
  ·obtain⟨o,_,I2⟩:=I1.freezeT e
   exact⟨o,_,I2,upd_same,q o⟩
  ·exact⟨o,H1,I1,e,q⟩
 obtain⟨h1,ok⟩:=(show ObjOk X.prog X.w H2 s1.heap a (.frz o (.dT kvs)) from I2.hok a _ e2)
 obtain⟨z,y,xs,r,o1,es,ep,g1,g2,g3,g4,g5⟩:=ok
 rw[h1] at g1;cases g1
 have hn:es.size=kvs.length:=by rw[size_of_entries g4];exact(Paired.length r).symm
 refine iter_raw y h1 g2 g3 ?_
 refine⟨s1.heap.objs.size,[s1.heap.objs.size],_,_,H2,rfl,I2.kept (t':=s1.toks) fun b o e=>Heap.get?_push_of_some _ e,turn_keys a _ g3 hn,⟨_,Heap.get?_push_size _ rfl,rfl,rfl⟩,fun b hb=>?_,hR⟩
 have e:b=s1.heap.objs.size:=by simpa using hb
 subst e
 exact I2.fpOk (Nat.le_refl _) (I2.hok.fresh (Nat.le_refl _))
end
theorem comp_keys {a:Addr}{o:Obj}{kvs:List (List Key×V)}{k:Nat}{g:TG}{tc:TT}{te:TE}{σ:St}{H1:Hp}{Q:VK}(few:kvs.length≤1000)
  (h:∀ acc,H1 acc=none→∃ Pv:Nat→St→List V→Hp→Prop,Pv 0 (σ++List.replicate k none) [] (upd H1 acc (.lst []))∧(∀ i σ2 ys H2,i≤kvs.length→Pv i σ2 ys H2→H2 a=some (.frz o (.dT kvs))∧ys.length≤i) ∧
   (∀ i b kk v σ2 ys H2,i<kvs.length→kvs[i]? = some (kk,v)→H2 b=some (.tup (kk.map kV))→Pv i σ2 ys H2→g (.ref b) σ2 H2 fun σ4 H4=>tc σ4 H4 fun c H5=>if c=true then te σ4 H5 fun v H6=>H6 acc=some (.lst ys)∧Nx kvs.length i (Pv (i+1) σ4 (ys++[v]) (upd H6 acc (.lst (ys++[v])))) else Nx kvs.length i (Pv (i+1) σ4 ys H5)) ∧
   ∀ σ2 ys H2,Pv kvs.length σ2 ys H2→Q (.ref acc) H2):CompR (Itk a o kvs) k g tc te σ H1 Q:=by
 intro acc ha
 obtain⟨Pv,p0,pl,ps,pd⟩:=h acc ha
 refine⟨fun i m σ2 ys H2=>m=kvs.length-i∧i≤kvs.length∧Pv i σ2 ys H2,⟨kvs.length,by simp,Nat.zero_le _,p0⟩,?_⟩
 rintro i m σ2 ys H2 ⟨rfl,hi,p⟩
 obtain⟨q,len⟩:=pl i σ2 ys H2 hi p
 by_cases hlt:i<kvs.length
 ·refine .inr ⟨⟨q,hlt⟩,Nat.lt_of_le_of_lt len (small1000 (by omega)),fun x H3 y=>?_⟩
  obtain⟨e,b,kk,v,rfl,y1,y2⟩:=y
  subst e
  exact ps i b kk v σ2 ys _ hlt y1 y2 p
 ·have e:i=kvs.length:=by omega
  subst e
  exact .inl ⟨⟨q,Nat.le_refl _⟩,pd σ2 ys H2 p⟩
section
variable {X:Cx}
def tThaw (H₀:Hp) (t:TE):TE:=fun σ H Q=>t σ H fun v H1=>∃ a o kvs,H1 a=some (.frz o (.dT kvs))∧(∀ o' v',H₀ a≠some (.frz o' v'))∧Q v (upd H1 a (.dT kvs))
theorem pe_thaw {e:Expr}{t:TE}{H₀:Hp}(h:PE X e t) (hH:X.H₀=H₀:=by rfl):PE X e (tThaw H₀ t):=by
 subst hH
 intro pins s σ H Q I hw
 refine wpAny_mono (h pins s σ H _ I hw) (fun v s1 ⟨y,H1,I1,r1,q1⟩=>?_) fun _ _ z=>z
 obtain⟨a,o,kvs,e1,n,q⟩:=q1
 exact⟨y,_,I1.thawT e1 n,r1,q⟩
end
end L2
set_option Elab.async false
set_option linter.all false
set_option maxRecDepth 100000
namespace L2
open PySem PySem.Spec PyProof.Rows
def Ite (K:PySem.W.Frag) (l:Addr):It:=
 ⟨fun i H=>∃ xs x,SqL K H l xs∧xs[i]? = some x,fun i H v H'=>∃ p x,H p=none∧v=.ref p∧H'=upd H p (.tup [.int i,x])∧∀ xs,SqL K H l xs→xs[i]? = some x,fun i H=>∃ xs,SqL K H l xs∧xs.length≤i⟩
theorem turn_enum {P:Program}{w:World}{K:PySem.W.Frag}{es:List Expr}{kk:Nat}{pos:Pos}(e it l:Addr) (hei:e≠it) :
  Turn P w K (.Tuple es kk pos) (Ite K l) [e,it] e (fun i h=>(∃ old,IsEnum h e it i old)∧h.IsListIter it l i) where
 mem:=by simp
 obj:=fun i h st b hb=>by
  obtain⟨⟨old,he⟩,⟨o1,e1,_,d1⟩⟩:=st
  simp only[List.mem_cons,List.not_mem_nil,or_false] at hb
  rcases hb with rfl|rfl
  ·exact⟨_,he,fun v q=>by cases q⟩
  ·exact⟨_,e1,fun v q=>by rw[d1] at q;cases q⟩
 keep:=fun i h h' st k=>by
  obtain⟨⟨old,he⟩,h1⟩:=st
  exact⟨⟨old,k e (by simp) _ he⟩,h1.at fun o q=>k it (by simp) o q⟩
 item:=by
  intro X hP hw hK hc i pins s σ H E I hf st hg
  subst hP hw hK
  obtain⟨xs,x,q1,hx⟩:=hg
  obtain⟨its,rv,p1,hz⟩:=I.list q1
  obtain⟨u,hu,ru⟩:=rv.get hx
  obtain⟨⟨old,he⟩,h1⟩:=st
  have lt:∀ {c o},s.heap.get? c=some o→s.heap.objs.size≠c:=fun e=>Nat.ne_of_gt (Heap.lt_size e)
  have n1:s.heap.objs.size≠e:=lt he
  have n2:s.heap.objs.size≠it:=by obtain⟨_,q,_⟩:=h1;exact lt q
  refine wpAny_pyNext_enum_item he h1 p1.isList (x:=u) (by simpa using hu) hei fun h' ho hit' hT hsz hk=>?_
  refine⟨_,rfl,wpAny_letOwnedTupleGo_enum (s:={ s with heap:=h',toks:=s.toks+1 }) ho fun h'' he'' sb=>?_⟩
  have k2:∀ c o,c∉[e,it]→s.heap.get? c=some o→h''.get? c=some o:=fun c o hc q=>by
   simp only[List.mem_cons,List.not_mem_nil,or_false,not_or] at hc
   exact(sb.2 c hc.1).trans (hk c o hc.1 hc.2 q)
  have new:ObjOk X.prog X.w (upd H s.heap.objs.size (.tup [.int i,x])) h'' s.heap.objs.size (.tup [.int i,x]):=by
   have e5:h''.get? s.heap.objs.size=some { cls:=.type "tuple",data:=.seq #[.int i s.toks,u] }:=(sb.2 _ n1).trans hT
   exact⟨small1000 (by simp),[.int i s.toks,u],.cons ⟨_,rfl⟩ (.cons ru .nil),_,e5,rfl,_,rfl⟩
  refine⟨.ref s.heap.objs.size,_,I.turnedNew (t':=s.toks+1) k2 hf (Nat.le_refl _) new,rfl,⟨_,x,I.fresh,rfl,rfl,fun zs hs=>by rw[I.list_inj hs q1];exact hx⟩,?_,fun c hc=>?_⟩
  ·exact⟨⟨_,by simpa using he''⟩,hit'.at fun o q=>(sb.2 it hei.symm).trans q⟩
  ·rw[upd_ne]
   ·exact(hf c hc).1
   ·simp only[List.mem_cons,List.not_mem_nil,or_false] at hc
    rcases hc with rfl|rfl
    ·exact Ne.symm n1
    ·exact Ne.symm n2
 done:=by
  intro X hP hw hK hc i pins s σ H E I hf st hg
  subst hP hw hK
  obtain⟨xs,q1,hend⟩:=hg
  obtain⟨its,rv,p1,hz⟩:=I.list q1
  obtain⟨⟨old,he⟩,h1⟩:=st
  have len:=rv.length
  refine wpAny_pyNext_enum_end (I.ok.hd hc) he h1 p1.isList (Array.getElem?_eq_none (by simp;omega)) fun h' hk=>⟨rfl,I.turnedL (t':=s.toks) (its:=[e,it]) (fun c o hc q=>?_) hf⟩
  simp only[List.mem_cons,List.not_mem_nil,or_false,not_or] at hc
  exact hk c o hc.2 q
 self:=fun _ _ _ _ _ st h=>by
  obtain⟨⟨old,he⟩,_⟩:=st
  exact wpAny_pyIter_enum he h
section
variable {X:Cx}{K:PySem.W.Frag}
theorem boot_enumerate:bootBuiltins "enumerate" = some (.type "enumerate"):=by decide +kernel
def iEnum (K:PySem.W.Frag) (ta:TA):TI:=fun σ H R=>ta σ H fun vs H1=>∃ p xs,vs=[.ref p]∧SqL K H1 p xs∧R (Ite K p) H1
theorem pi_enum {a:Expr}{ta:TA}{p pos pos':Pos}{es:List Expr}{kk:Nat}(hg:Gl X "enumerate") (hm:X.mg "enumerate" = none) (ha:PA X [a] ta) (hs:starEach [a] X.env=[(false,eval a X.env)]:=by rfl) (hK:X.K=K:=by rfl) :
  PI X (.Tuple es kk pos') (.Call (.Name "enumerate" p) [a] [] pos) (iEnum K ta):=by
 subst hK
 intro pins s σ H R I h
 refine Call_ (ld_blt I hg hm boot_enumerate (PyProof.Rows.callWith_type1 (thn (ha pos pins s σ H _ I h) fun us s1 ⟨vs,H1,I1,r1,q1⟩=>?_) hs rfl))
 obtain⟨l,xs,rfl,q1,q⟩:=q1
 obtain⟨u,rfl,rx⟩:=vals1 r1
 cases rx
 obtain⟨its,rv,p1,hz⟩:=I1.list q1
 refine call_enumerate_list p1.isList fun h' z1 z2 z3 kp=>?_
 refine wpAny_pyIter_enum z1 ?_
 refine⟨_,_,_,Ite X.K l,H1,rfl,I1.kept (t':=s1.toks) kp,turn_enum _ _ l (Nat.ne_of_gt (Nat.lt_succ_self _)),⟨⟨_,z1⟩,z2⟩,fun b hb=>?_,q⟩
 have ge:s1.heap.objs.size≤b:=by
  simp only[List.mem_cons,List.not_mem_nil,or_false] at hb
  rcases hb with rfl|rfl
  ·exact Nat.le_add_right _ _
  ·exact Nat.le_refl _
 exact I1.fpOk ge (I1.hok.fresh ge)
end
theorem for_enum {K:PySem.W.Frag}{l:Addr}{xs:List V}{g:TG}{tb:TS}{D:Ends}{σ:St}{H:Hp}(Pv:Nat→St→Hp→Prop) (h0:Pv 0 σ H) (hl:∀ i σ H,i≤xs.length→Pv i σ H→SqL K H l xs)
  (hs:∀ i x p σ H,xs[i]? = some x→H p=none→Pv i σ H→g (.ref p) σ (upd H p (.tup [.int i,x])) fun σ2 H2=>tb { D with nx:=Pv (i+1),ct:=Pv (i+1),bk:=D.nx } σ2 H2) (hd:∀ σ H,Pv xs.length σ H→D.nx σ H) :
  ∃ W:Nat→Nat→St→Hp→Prop,(∃ m,W 0 m σ H)∧∀ i m σ H,W i m σ H →
   ((Ite K l).stop i H∧D.nx σ H)∨((Ite K l).go i H∧∃ N:St→Hp→Prop,(∀ σ' H',N σ' H'→∃ m',m'<m∧W (i+1) m' σ' H')∧∀ x H',(Ite K l).yld i H x H'→g x σ H' fun σ2 H2=>tb { D with nx:=N,ct:=N,bk:=D.nx } σ2 H2):=by
 refine⟨fun i m σ H=>m=xs.length-i∧i≤xs.length∧Pv i σ H,⟨xs.length,by simp,Nat.zero_le _,h0⟩,?_⟩
 rintro i m σ H ⟨rfl,hi,p⟩
 have q:=hl i σ H hi p
 by_cases hlt:i<xs.length
 ·refine .inr ⟨⟨xs,xs[i],q,by simp[hlt]⟩,Pv (i+1),fun σ' H' p'=>⟨xs.length-(i+1),by omega,rfl,hlt,p'⟩,fun v H' y=>?_⟩
  obtain⟨a,x,na,rfl,rfl,y⟩:=y
  exact hs i x a σ H (y xs q) na p
 ·have e:i=xs.length:=by omega
  subst e
  exact .inl ⟨⟨xs,q,Nat.le_refl _⟩,hd σ H p⟩
end L2
set_option Elab.async false
set_option linter.all false
set_option maxRecDepth 100000
namespace PySem
section
variable {prog:Program}{w:World}{A:Around}{E:Value→Shared→Prop}{s:Shared}
theorem pair_raw {it d:Addr}{i n ep:Nat}{ok ov x y:Value}{Q:Value→Shared→Prop}(hit:IsItemIter s.heap it d i n ep ok ov)
  (hQ:∀ h',IsItemIterOut h' it d i n ep x y s.heap.objs.size→h'.get? s.heap.objs.size=some { cls:=.type "tuple",data:=.seq #[x,y] }→h'.objs.size=s.heap.objs.size+1 →
   (∀ b o,b≠it→s.heap.get? b=some o→h'.get? b=some o)→Q (.ref s.heap.objs.size) { s with heap:=h' }) :
  wpAny (model prog w) A (Builtin.Dict_items.pairFromOwner (.ref it) 6 x y) Q E s:=by
 unfold Builtin.Dict_items.pairFromOwner
 refine wpAny_bind (wpAny_newTuple ?_)
 have lt:s.heap.objs.size≠it:=Nat.ne_of_gt (Heap.lt_size hit)
 have h0:IsItemIter (s.heap.push { cls:=.type "tuple",data:=.seq #[x,y] }) it d i n ep ok ov:=Heap.get?_push_of_some _ hit
 have t0:(s.heap.push { cls:=.type "tuple",data:=.seq #[x,y] }).get? s.heap.objs.size=some { cls:=.type "tuple",data:=.seq #[x,y] }:=Heap.get?_push_size _ rfl
 have z0:(s.heap.push { cls:=.type "tuple",data:=.seq #[x,y] }).objs.size=s.heap.objs.size+1:=Heap.size_push ..
 have k0:∀ b o,s.heap.get? b=some o→(s.heap.push { cls:=.type "tuple",data:=.seq #[x,y] }).get? b=some o:=fun b o e=>Heap.get?_push_of_some _ e
 show wpAny _ _ (Builtin.Dict_items.ownedTupleIsFree (.ref it) >>= _) _ _ { s with heap:=s.heap.push { cls:=.type "tuple",data:=.seq #[x,y] } }
 generalize s.heap.push { cls:=.type "tuple",data:=.seq #[x,y] }=h at h0 t0 z0 k0 ⊢
 unfold Builtin.Dict_items.ownedTupleIsFree
 refine wpAny_bind (wpAny_bind (wpAny_field h0 rfl (x:=.none) rfl (wpAny_pure ?_)))
 simp only[if_true]
 refine wpAny_bind (wpAny_field h0 rfl (x:=ok) rfl (wpAny_bind (wpAny_field h0 rfl (x:=ov) rfl ?_)))
 refine wpAny_bind (wpAny_setField_rec h0 (by simp) fun h1 e1 s1=>wpAny_bind (wpAny_setField_rec (show IsItemIter h1 it d i n ep x ov from e1) (by simp) fun h2 e2 s2=>?_))
 refine wpAny_bind (wpAny_setField_rec (show IsItemIter h2 it d i n ep x y from e2) (by simp) fun h3 e3 s3=>wpAny_bind (wpAny_setField_rec (show IsItemIterOut h3 it d i n ep x y s.heap.objs.size from e3) (by simp) fun h4 e4 s4=>?_))
 refine wpAny_bind (wpAny_letGo (wpAny_pure (hQ h4 e4 ?_ ?_ fun b o hb e=>?_)))
 ·exact s4.extBut _ _ lt (s3.extBut _ _ lt (s2.extBut _ _ lt (s1.extBut _ _ lt t0)))
 ·have a4:h4.objs.size=h3.objs.size:=s4.1
  have a3:h3.objs.size=h2.objs.size:=s3.1
  have a2:h2.objs.size=h1.objs.size:=s2.1
  have a1:h1.objs.size=h.objs.size:=s1.1
  rw[a4,a3,a2,a1,z0]
 ·exact s4.extBut _ _ hb (s3.extBut _ _ hb (s2.extBut _ _ hb (s1.extBut _ _ hb (k0 _ _ e))))
set_option maxHeartbeats 1000000 in
theorem next_items {it d:Addr}{i ep:Nat}{od:Obj}{es:Array DictEntry}{ok ov:Value}{Q:Option Value→Shared→Prop}(hit:IsItemIter s.heap it d i es.size ep ok ov) (hod:s.heap.get? d=some od) (hdd:od.data=.dict es ep) (hlt:i<es.size)
  (hQ:∀ h',IsItemIterOut h' it d (i+1) es.size ep es[i].key es[i].val s.heap.objs.size →
   h'.get? s.heap.objs.size=some { cls:=.type "tuple",data:=.seq #[es[i].key,es[i].val] }→h'.objs.size=s.heap.objs.size+1 →
   (∀ b o,b≠it→s.heap.get? b=some o→h'.get? b=some o)→Q (some (.ref s.heap.objs.size)) { s with heap:=h' }) :
  wpAny (model prog w) A (pyNext (.ref it)) Q E s:=by
 have hT:s.TypeIs (.ref it) "dict_itemiterator":=⟨_,hit,rfl⟩
 unfold pyNext
 refine wpAny_bind (wpAny_attempt (wpAny_callSpecial?_slot (name:=Str.ofString "__next__") hT F.slot_dict_itemiterator_next
  (wpAny_call_entry F.slot_dict_itemiterator_next hT F.entry_dict_itemiterator_next ?_ (F.args_dict_itemiterator_next_1 _))))
 obtain⟨hp,g,dr,tk,os⟩:=s
 have f1:=mroOf_itemiter
 wp_walk using wpAny_dictEntries hod hdd,wpAny_dictEpoch hod hdd,wpAny_fieldsOf hit rfl,wpAny_typeNameOfWhole_itemiter hT,wpAny_isOneOf_itemiter hT
 simp only[show ¬ ((i:Int)<0) from by omega,if_false,Int.toNat_natCast,Array.getElem?_eq_getElem hlt]
 refine wpAny_bind (wpAny_bind (wpAny_typeNameOfWhole_itemiter hT (wpAny_pure ?_)))
 refine wpAny_bind (wpAny_isOneOf_itemiter hT ?_)
 show wpAny _ _ (setField (.ref it) 3 (rawInt ((i:Int)+1)) >>= _) _ _ ⟨hp,g,dr,tk,os⟩
 refine wpAny_bind (wpAny_setField_rec hit (by simp) fun h1 he1 hs1=>?_)
 have hT1:Shared.TypeIs ⟨h1,g,dr,tk,os⟩ (.ref it) "dict_itemiterator":=⟨_,he1,rfl⟩
 refine wpAny_bind (wpAny_holding ?_)
 refine wpAny_bind (wpAny_isOneOf_itemiter hT1 (wpAny_bind (wpAny_isOneOf_itemiter hT1 ?_)))
 show wpAny _ _ (Builtin.Dict_items.pairFromOwner (.ref it) 6 es[i].key es[i].val) _ _ ⟨h1,g,dr,tk,os⟩
 have he1':IsItemIter h1 it d (i+1) es.size ep ok ov:=by
  have e:((i+1:Nat):Int)=(i:Int)+1:=by omega
  unfold IsItemIter;rw[e];simpa [rawInt] using he1
 have sz:h1.objs.size=hp.objs.size:=hs1.1
 refine pair_raw (s:=⟨h1,g,dr,tk,os⟩) he1' fun h' a b c k=>wpAny_pure ⟨_,rfl,wpAny_pure ?_⟩
 rw[show (Shared.heap ⟨h1,g,dr,tk,os⟩).objs.size=hp.objs.size from sz] at a b c ⊢
 exact hQ h' a b c fun b o hb e=>k b o hb (hs1.extBut b o hb e)
set_option maxHeartbeats 1000000 in
theorem end_items {it d:Addr}{i ep:Nat}{od:Obj}{es:Array DictEntry}{ok ov:Value}{Q:Option Value→Shared→Prop}(hh:A.handled=none) (hit:IsItemIter s.heap it d i es.size ep ok ov) (hod:s.heap.get? d=some od) (hdd:od.data=.dict es ep) (hge:es.size≤i)
  (hQ:∀ h',Heap.ExtBut it s.heap h'→Q none { s with heap:=h' }):wpAny (model prog w) A (pyNext (.ref it)) Q E s:=by
 have hT:s.TypeIs (.ref it) "dict_itemiterator":=⟨_,hit,rfl⟩
 unfold pyNext
 refine wpAny_bind (wpAny_attempt (wpAny_callSpecial?_slot (name:=Str.ofString "__next__") hT F.slot_dict_itemiterator_next
  (wpAny_call_entry F.slot_dict_itemiterator_next hT F.entry_dict_itemiterator_next ?_ (F.args_dict_itemiterator_next_1 _))))
 obtain⟨hp,g,dr,tk,os⟩:=s
 have f1:=mroOf_itemiter
 wp_walk using wpAny_dictEntries hod hdd,wpAny_dictEpoch hod hdd,wpAny_fieldsOf hit rfl,wpAny_typeNameOfWhole_itemiter hT,wpAny_isOneOf_itemiter hT
 simp only[show ¬ ((i:Int)<0) from by omega,if_false,Int.toNat_natCast,Array.getElem?_eq_none hge]
 refine wpAny_bind (wpAny_bind (wpAny_typeNameOfWhole_itemiter hT (wpAny_pure ?_)))
 show wpAny _ _ (setField (.ref it) 2 .none >>= _) _ _ _
 refine wpAny_bind (wpAny_setField hit rfl (by simp) ?_)
 show wpAny _ _ (newExc (.type "StopIteration") [] >>= _) _ _ _
 refine wpAny_bind ?_
 simp only[newExc,newTuple]
 refine wpAny_bind (wpAny_newObj_type ?_ (by size_fits))
 refine wpAny_bind (m:=firstArgMember _ _) (wpAny_of_eq (a:=Value.none) (by first|rfl|(simp only[firstArgMember];rfl)) ?_)
 refine wpAny_newObj_type ?_ (by size_fits)
 simp only[raiseNew]
 refine wpAny_bind (wpAny_handled ?_)
 rw[show A.in1.handled=none from hh]
 refine wpAny_bind (wpAny_pure (wpAny_throw ?_))
 refine wpAny_bind (wpAny_isInstance (T:="StopIteration") (b:=true) ⟨_,Heap.get?_push_size _ rfl,rfl⟩ isSubtype_stop ?_)
 exact wpAny_pure (hQ _ (((Heap.SameBut.update ..).extBut.push _).push _))
theorem view_raw {v d:Addr}{o:Obj}{es:Array DictEntry}{ep:Nat}{Q:Value→Shared→Prop}(hv:s.heap.IsItemsView v d) (ho:s.heap.get? d=some o) (hdat:o.data=.dict es ep)
  (hQ:Q (.ref s.heap.objs.size) { s with heap:=s.heap.push { cls:=.type "dict_itemiterator",data:=.fields #[.none,.bool false,.ref d,.int 0 0,.int es.size 0,.int ep 0,.none,.none] } }) :
  wpAny (model prog w) A (pyIter (.ref v)) Q E s:=by
 obtain⟨ov,hov,hcv,hdv⟩:=id hv
 refine wpAny_pyIter_slot hv.typeIs F.slot_dict_items_iter (wpAny_call_entry F.slot_dict_items_iter hv.typeIs F.entry_dict_items_iter ?_ (F.args_dict_items_iter_1 _))
 unfold Builtin.«dict_items.__iter__» Builtin.Dict_items.dictOf Builtin.Dict_items.newIterator
 refine wpAny_bind (wpAny_pure (wpAny_bind (wpAny_bind (wpAny_field hov hdv (x:=.ref d) rfl (wpAny_pure ?_)))))
 refine wpAny_bind (wpAny_bind (wpAny_dictEntries ho hdat (wpAny_bind (wpAny_dictEpoch ho hdat ?_))))
 have hown:Builtin.Dict_items.ownsTuple "dict_itemiterator" = true:=by decide
 simp only[hown,if_true]
 refine wpAny_newObj_type (wpAny_pure ⟨_,rfl,"dict_itemiterator",_,⟨_,Heap.get?_push_size _ rfl,rfl⟩,F.slot_dict_itemiterator_next.lookup,?_⟩)
  (by simp only[sizeOk,Builtin.Dict_items.ownedTupleFields,List.size_toArray,List.length_append,List.length_cons,List.length_nil,sizeLine_eq];omega)
 simpa [rawInt,Builtin.Dict_items.ownedTupleFields] using hQ
theorem meets_items_raw (d:Addr) (hd:(d == sysModules)=false) :
  MeetsIn prog w (Builtin.«dict.items» ⟨[.ref d],[]⟩) (fun _ R s=>s.TypeIs (.ref d) "dict" ∧ R (.ok (.ret (.ref s.heap.objs.size))) { s with heap:=s.heap.push { cls:=.type "dict_items",data:=.fields #[.ref d] } }):=
 .of_wp fun A R s ⟨hT,h⟩=>by
  unfold Builtin.«dict.items» Builtin.Dict.noArgs
  refine wpAny_bind (wpAny_bind (wpAny_notOrdered_dict hT ?_))
  show wpAny _ _ (pure d) _ _ s
  refine wpAny_pure ?_
  show wpAny _ _ (Builtin.Dict.showsAll d >>= _) _ _ s
  unfold Builtin.Dict.showsAll
  rw[if_neg (by rw[hd];exact Bool.false_ne_true)]
  exact wpAny_bind (wpAny_pure (wpAny_bind (wpAny_newObj_type (wpAny_pure ⟨_,rfl,h⟩))))
end
end PySem
namespace L2
open PySem PySem.Spec PyProof.Rows
def Iti (a:Addr) (o:Obj) (kvs:List (List Key×V)):It:=
 ⟨fun i H=>H a=some (.frz o (.dT kvs))∧i<kvs.length,fun i H x H'=>∃ p b k v,H p=none∧x=.ref p∧kvs[i]? = some (k,v)∧H b=some (.tup (k.map kV))∧H'=upd H p (.tup [.ref b,v]),fun i H=>H a=some (.frz o (.dT kvs))∧kvs.length≤i⟩
theorem turn_items {P:Program}{w:World}{K:PySem.W.Frag}{ex:List Expr}{kk:Nat}{pos:Pos}(a it:Addr) {o:Obj}{es:Array DictEntry}{ep:Nat}{kvs:List (List Key×V)}(hd:o.data=.dict es ep) (hn:es.size=kvs.length) :
  Turn P w K (.Tuple ex kk pos) (Iti a o kvs) [it] it (fun i h=>∃ ok ov,IsItemIter h it a i es.size ep ok ov) where
 mem:=by simp
 obj:=fun i h st b hb=>by
  have e:b=it:=by simpa using hb
  subst e
  obtain⟨ok,ov,st⟩:=st
  exact⟨_,st,fun v q=>by cases q⟩
 keep:=fun i h h' st k=>by
  obtain⟨ok,ov,st⟩:=st
  exact⟨ok,ov,k it (by simp) _ st⟩
 item:=by
  intro X hP hw hK hc i pins s σ H E I hf st hg
  subst hP hw hK
  obtain⟨e,hi⟩:=hg
  obtain⟨ok,ov,st⟩:=st
  obtain⟨h1,ok1⟩:=(show ObjOk X.prog X.w H s.heap a (.frz o (.dT kvs)) from I.hok a _ e)
  obtain⟨z,y,xs,r,o1,es1,ep1,g1,g2,g3,g4,g5⟩:=ok1
  rw[h1] at g1;cases g1
  rw[hd] at g3;cases g3
  have hlt:i<es.size:=by omega
  have n1:s.heap.objs.size≠it:=Nat.ne_of_gt (Heap.lt_size st)
  obtain⟨⟨k,v⟩,hkv⟩:∃ p,kvs[i]? = some p:=⟨_,List.getElem?_eq_getElem hi⟩
  obtain⟨q,hq,q1,q2,q3⟩:∃ q,xs[i]? = some q∧k=q.1∧H q.2.1=some (.tup (k.map kV))∧RelV v q.2.2:=Paired.fetch (i:=i) r hkv
  have ee:es[i]=⟨(tupleKind (mixKind X.prog X.w)).hash q.1,.ref q.2.1,q.2.2⟩:=by
   have:=entry_at g4 i
   rw[hq,Array.getElem?_eq_getElem hlt] at this
   exact Option.some.inj this
  refine next_items st h1 hd hlt fun h' ho hT hsz hk=>?_
  refine⟨_,rfl,wpAny_letOwnedTupleGo_items (s:={ s with heap:=h' }) ho fun h'' he'' sb=>?_⟩
  have k2:∀ c o,c∉[it]→s.heap.get? c=some o→h''.get? c=some o:=fun c o hc q=>by
   simp only[List.mem_singleton] at hc
   exact(sb.2 c hc).trans (hk c o hc q)
  have new:ObjOk X.prog X.w (upd H s.heap.objs.size (.tup [.ref q.2.1,v])) h'' s.heap.objs.size (.tup [.ref q.2.1,v]):=by
   have e5:h''.get? s.heap.objs.size=some { cls:=.type "tuple",data:=.seq #[.ref q.2.1,q.2.2] }:=by
    rw[ee] at hT
    exact(sb.2 _ n1).trans hT
   exact⟨small1000 (by simp),[.ref q.2.1,q.2.2],.cons rfl (.cons q3 .nil),_,e5,rfl,_,rfl⟩
  refine⟨.ref s.heap.objs.size,_,I.turnedNew (t':=s.toks) k2 hf (Nat.le_refl _) new,rfl,⟨_,q.2.1,k,v,I.fresh,rfl,hkv,q2,rfl⟩,⟨_,_,he''⟩,fun c hc=>?_⟩
  rw[upd_ne]
  ·exact(hf c hc).1
  ·have:c=it:=by simpa using hc
   rw[this];exact Ne.symm n1
 done:=by
  intro X hP hw hK hc i pins s σ H E I hf st hg
  subst hP hw hK
  obtain⟨e,hi⟩:=hg
  obtain⟨ok,ov,st⟩:=st
  obtain⟨h1,_⟩:=(show ObjOk X.prog X.w H s.heap a (.frz o (.dT kvs)) from I.hok a _ e)
  refine end_items (I.ok.hd hc) st h1 hd (by omega) fun h' hk=>⟨rfl,I.turnedL (t':=s.toks) (its:=[it]) (fun c o hc q=>?_) hf⟩
  exact hk c o (fun z=>hc (by simp[z])) q
 self:=fun _ _ _ _ _ st h=>by
  obtain⟨ok,ov,st⟩:=st
  exact PySem.W.kcp_self st h
section
variable {X:Cx}
def iItems (tl:TE):TI:=fun σ H R=>tl σ H fun x H1=>∃ a kvs,x=.ref a∧((H1 a=some (.dT kvs)∧∀ o,R (Iti a o kvs) (upd H1 a (.frz o (.dT kvs))))∨∃ o,H1 a=some (.frz o (.dT kvs))∧R (Iti a o kvs) H1)
theorem pi_items {l:Expr}{tl:TE}{apos cpos pos:Pos}{ex:List Expr}{kk:Nat}(hl:PE X l tl) (hbase:attributeBase l "items" X.env (eval l X.env)=eval l X.env:=by rfl) (hline:(apos.endLine == cpos.line)=true:=by rfl) :
  PI X (.Tuple ex kk pos) (.Call (.Attribute l "items" apos) [] [] cpos) (iItems tl):=by
 intro pins s σ H R I h
 refine wpAny_Call_method0_late hbase hline (thn (hl pins s σ H _ I h) fun v s1 ⟨x,H1,I1,r1,q1⟩=>?_)
 obtain⟨a,kvs,rfl,q⟩:=q1
 cases r1
 obtain⟨o,H2,I2,e2,hR⟩:∃ o H2,Inv X pins σ H2 s1∧H2 a=some (.frz o (.dT kvs))∧R (Iti a o kvs) H2:=by
  rcases q with ⟨e,q⟩|⟨o,e,q⟩
  ·obtain⟨o,_,I2⟩:=I1.freezeT e
   exact⟨o,_,I2,upd_same,q o⟩
  ·exact⟨o,H1,I1,e,q⟩
 obtain⟨h1,ok⟩:=(show ObjOk X.prog X.w H2 s1.heap a (.frz o (.dT kvs)) from I2.hok a _ e2)
 obtain⟨z,y,xs,r,o1,es,ep,g1,g2,g3,g4,g5⟩:=ok
 rw[h1] at g1;cases g1
 have hn:es.size=kvs.length:=by rw[size_of_entries g4];exact(Paired.length r).symm
 have hT:s1.TypeIs (.ref a) "dict":=⟨o,h1,g2.1⟩
 refine⟨"dict","dict.items",F.plainAttrs_dict,F.slot_dict_items,F.type_dict_items,hT,fun b hb=>by cases hb;exact⟨o,h1,g2.2.1⟩,Calls.callWith_builtin rfl (PySem.evalArgs_none ?_)⟩
 refine call_meetsIn F.slot_dict_items hT F.entry_dict_items (F.args_dict_items_1 _) (meets_items_raw a y) ⟨hT,?_⟩
 refine view_raw (s:={ s1 with heap:=s1.heap.push { cls:=.type "dict_items",data:=.fields #[.ref a] } }) ⟨_,Heap.get?_push_size _ rfl,rfl,rfl⟩ (Heap.get?_push_of_some _ h1) g3 ?_
 have kp:∀ b u,s1.heap.get? b=some u→((s1.heap.push { cls:=.type "dict_items",data:=.fields #[.ref a] }).push { cls:=.type "dict_itemiterator",data:=.fields #[.none,.bool false,.ref a,.int 0 0,.int es.size 0,.int ep 0,.none,.none] }).get? b=some u:=fun b u e=>Heap.get?_push_of_some _ (Heap.get?_push_of_some _ e)
 refine⟨_,[(s1.heap.push { cls:=.type "dict_items",data:=.fields #[.ref a] }).objs.size],_,_,H2,rfl,I2.kept (t':=s1.toks) kp,turn_items a _ g3 hn,⟨_,_,Heap.get?_push_size _ rfl⟩,fun b hb=>?_,hR⟩
 have e:b=(s1.heap.push { cls:=.type "dict_items",data:=.fields #[.ref a] }).objs.size:=by simpa using hb
 have ge:s1.heap.objs.size≤b:=by rw[e,Heap.size_push];exact Nat.le_succ _
 exact I2.fpOk ge (I2.hok.fresh ge)
end
theorem for_items {a:Addr}{o:Obj}{kvs:List (List Key×V)}{g:TG}{tb:TS}{D:Ends}{σ:St}{H:Hp}(Pv:Nat→St→Hp→Prop) (h0:Pv 0 σ H) (hl:∀ i σ H,i≤kvs.length→Pv i σ H→H a=some (.frz o (.dT kvs)))
  (hs:∀ i p b kk v σ H,kvs[i]? = some (kk,v)→H p=none→H b=some (.tup (kk.map kV))→Pv i σ H→g (.ref p) σ (upd H p (.tup [.ref b,v])) fun σ2 H2=>tb { D with nx:=Pv (i+1),ct:=Pv (i+1),bk:=D.nx } σ2 H2) (hd:∀ σ H,Pv kvs.length σ H→D.nx σ H) :
  ∃ W:Nat→Nat→St→Hp→Prop,(∃ m,W 0 m σ H)∧∀ i m σ H,W i m σ H →
   ((Iti a o kvs).stop i H∧D.nx σ H)∨((Iti a o kvs).go i H∧∃ N:St→Hp→Prop,(∀ σ' H',N σ' H'→∃ m',m'<m∧W (i+1) m' σ' H')∧∀ x H',(Iti a o kvs).yld i H x H'→g x σ H' fun σ2 H2=>tb { D with nx:=N,ct:=N,bk:=D.nx } σ2 H2):=by
 refine⟨fun i m σ H=>m=kvs.length-i∧i≤kvs.length∧Pv i σ H,⟨kvs.length,by simp,Nat.zero_le _,h0⟩,?_⟩
 rintro i m σ H ⟨rfl,hi,p⟩
 have q:=hl i σ H hi p
 by_cases hlt:i<kvs.length
 ·refine .inr ⟨⟨q,hlt⟩,Pv (i+1),fun σ' H' p'=>⟨kvs.length-(i+1),by omega,rfl,hlt,p'⟩,fun x H' y=>?_⟩
  obtain⟨c,b,kk,v,nc,rfl,y1,y2,rfl⟩:=y
  exact hs i c b kk v σ H y1 nc y2 p
 ·have e:i=kvs.length:=by omega
  subst e
  exact .inl ⟨⟨q,Nat.le_refl _⟩,hd σ H p⟩
end L2
set_option Elab.async false
set_option linter.all false
set_option maxRecDepth 100000
namespace L2
open PySem PySem.Spec PyProof.Rows
def lamOf (s:Stmt):Expr:=match s with
 | .Assign _ e _=>e
 | _=>.Name "" ⟨0,0,0,0⟩
def lamArgs (e:Expr):Arguments:=match e with
 | .Lambda a _ _ _=>a
 | _=>{ posonlyargs:=[],args:=[],vararg:=none,kwonlyargs:=[],kw_defaults:=[],kwarg:=none,defaults:=[] }
def lamBody (e:Expr):Expr:=match e with
 | .Lambda _ b _ _=>b
 | _=>.Name "" ⟨0,0,0,0⟩
def lamScope (e:Expr):Scope:=match e with
 | .Lambda _ _ sc _=>sc
 | _=>{ kind:=.function,names:=[],isGenerator:=false,isCoroutine:=false }
def lamPos (e:Expr):Pos:=match e with
 | .Lambda _ _ _ p=>p
 | _=>⟨0,0,0,0⟩
structure CloL (H:Hp) (qual:Str) (e:Expr) (F:List Str) (f:Addr) (ws:List V):Prop where
 ex:∃ (cl:List (Str×Addr)) (pm ctv:Value) (c':Addr) (oc:Obj) (vs:Array Value) (t:Tok),
  H f=some (.frz { cls:=.type "function",data:=.func (PySem.W.kla_fn "<lambda>" qual (lamArgs e) (lamBody e) (lamScope e) cl pm (.ref c') ctv) } (.own f)) ∧
  H c'=some (.frz oc (.own c'))∧oc.data=.fields vs∧vs[1]? = some (.str qual t) ∧
  (∀ x c,cl.lookup x=some c→x∈F)∧(∀ x y c,cl.lookup x=some c→cl.lookup y=some c→x=y) ∧
  ∀ (i:Nat) x v,F[i]? = some x→ws[i]? = some v→∃ c o u,cl.lookup x=some c∧H c=some (.frz o (.own c))∧o.data=.cell (some u)∧RelV v u
 len:ws.length=F.length
theorem CloL.same {H H':Hp}{qual:Str}{e:Expr}{F:List Str}{f:Addr}{ws:List V}(k:Knows H H') (c:CloL H qual e F f ws):CloL H' qual e F f ws:=by
 obtain⟨⟨cl,pm,ctv,c',oc,vs,t,e1,e2,e3,e4,e5,e6,e7⟩,l⟩:=c
 exact⟨⟨cl,pm,ctv,c',oc,vs,t,k _ _ _ e1,k _ _ _ e2,e3,e4,e5,e6,fun i x v h1 h2=>let ⟨c,o,u,z1,z2,z3,z4⟩:=e7 i x v h1 h2;⟨c,o,u,z1,k _ _ _ z2,z3,z4⟩⟩,l⟩
structure CloOkL (P:Program) (w:World) (K:PySem.W.Frag) (mg:Str→Option Value) (base:Heap) (CX:CXT) (k:Nat) (qual:Str) (e:Expr) (ps F:List Str) (sp:List V→Sp):Prop where
 len:∀ ws vs H Q E,sp ws vs H Q E→vs.length=ps.length
 run:∀ (f:Addr) (ws:List V) (A:Around) (outer:List Env) (s:Shared) (H:Hp) (us:List Value) (vs:List V) (Q:VK) (E:XK),Room k A→Env0 P w K mg base A outer s H→CloL H qual e F f ws→Vals vs us→sp ws vs H Q E →
  codeAny (model P w) A (.call (.ref f) ⟨us,[]⟩) (CR CX outer P w H s Q E) s
theorem CloOkL.mono {P:Program}{w:World}{K:PySem.W.Frag}{mg:Str→Option Value}{base:Heap}{CX:CXT}{j k:Nat}{qual:Str}{e:Expr}{ps F:List Str}{sp:List V→Sp}(C:CloOkL P w K mg base CX j qual e ps F sp) (h:j≤k) :
  CloOkL P w K mg base CX k qual e ps F sp:=⟨C.len,fun f ws A outer s H us vs Q E hr=>C.run f ws A outer s H us vs Q E (hr.mono h)⟩
theorem clol_of {CX:CXT}{P:Program}{w:World}{K:PySem.W.Frag}{mg:Str→Option Value}{base:Heap}{k:Nat}{qual:Str}{e:Expr}{N ps F:List Str}{sp:List V→Sp}(S:CloScope N ps F (lamScope e))
  (len:∀ ws vs H Q E,sp ws vs H Q E→vs.length=ps.length)
  (hb:∀ (cl:List (Str×Addr)) (pm ctv:Value) (c':Addr) (us:List Value),us.length=ps.length→bindArgs (PySem.W.kla_fn "<lambda>" qual (lamArgs e) (lamBody e) (lamScope e) cl pm (.ref c') ctv) ⟨us,[]⟩=pure (ps.zip us))
  (hbody:∀ (f:Addr) (cdv:Value) (cl:List (Str×Addr)) (A:Around) (outer:List Env) (s:Shared) (H:Hp) (ws vs:List V) (Q:VK) (E:XK),
   Room k (A.deeper (PySem.W.envX qual (lamScope e) s.heap.objs.size f cdv (cellsFrom (s.heap.objs.size+1) (lamScope e).names cl)))→ws.length=F.length→sp ws vs H Q E →
   ∃ t,PE (cxC CX P w K mg base N F qual (lamScope e) f cdv cl A outer s H E).nox (lamBody e) t∧t (startC N vs ws) H Q) :
  CloOkL P w K mg base CX (k+1) qual e ps F sp:=by
 refine⟨len,fun f ws A outer s H us vs Q E hr e0 c r hsp=>?_⟩
 have hl:=len _ _ _ _ _ hsp
 obtain⟨⟨cl,pm,ctv,c',oc,cvs,t,e1,e2,e3,e4,e5,e6,e7⟩,wl⟩:=c
 have lim:s.heap.NoLimit:=e0.mod.nolimit.keeps fun b o e=>(e0.bs b o e).1
 have hul:us.length=ps.length:=by rw[← r.length];exact hl
 obtain⟨g1,_⟩:=e0.hok f _ e1
 obtain⟨g2,_⟩:=e0.hok c' _ e2
 refine PySem.W.kla_callFunE hr.depth g1 rfl S.co S.gen rfl ⟨c',oc,cvs,t,rfl,g2,e3,e4⟩ ?_
 rw[hb cl pm ctv c' us hul]
 refine wpAny_pure ?_
 refine newEnv_clo S.kind (fun y hy=>S.par y.1 (List.of_mem_zip hy).1) fun env he h' tk n hk o1 o2=>?_
 subst he
 refine⟨lim.keeps hk,PySem.W.kla_codeExpr ?_⟩
 obtain⟨t,ht,hq⟩:=hbody f (.ref c') cl A outer s H ws vs Q E (hr.deeper _) wl hsp
 have I:Inv (cxC CX P w K mg base N F qual (lamScope e) f (.ref c') cl A outer s H E) [] (startC N vs ws) H { s with heap:=h',toks:=tk }:=inv_startC S hr.hd e0 hl r wl e5 e6 e7 n hk o1 o2
 refine wpAny_mono (ht.nox [] _ (startC N vs ws) H _ I hq) (fun u s' hs=>?_) fun e s' hs=>hs
 obtain⟨v,H',J,rv,q⟩:=hs
 exact⟨v,H',J.os,J.bare,J.base,J.hok,rv,q⟩
section
variable {X:Cx}
def tCallF (C:Addr) (m:Str) (qual:Str) (e:Expr) (F:List Str) (sp:List V→Sp) (E:XK) (tf:TE) (t:TA):TE:=fun σ H Q=>tf σ H fun x H1=>∃ a dx fs f ws,x=.ref a∧H1 a=some (.ins C dx fs)∧fs.lookup m=some (.ref f)∧CloL H1 qual e F f ws∧t σ H1 fun vs H2=>Knows H1 H2∧sp ws vs H2 Q E
theorem call_clol {CX:CXT}{k:Nat}{qual:Str}{lam:Expr}{ps F:List Str}{sp:List V→Sp}{E:XK}{pos:Pos}{e:Expr}{es:List Expr}{t:TA}{pins:List (Addr×Obj)}{σ:St}{H1:Hp}{Q:VK}{f:Addr}{ws:List V}{s1:Shared}
  (C:CloOkL X.prog X.w X.K X.mg X.base CX k qual lam ps F sp) (hr:Room k X.A) (hx:Passes CX X E) (ha:PA X (e::es) t) (I1:Inv X pins σ H1 s1) (c:CloL H1 qual lam F f ws) (h1:t σ H1 fun vs H2=>Knows H1 H2∧sp ws vs H2 Q E)
  (he:starEach (e::es) X.env=(false,eval e X.env)::starEach es X.env) (hpl:(backTo pos (starEach es X.env)).any (·.1)=false) :
  wpAny (model X.prog X.w) X.A (callWith pos (.ref f) [] (backTo pos (starEach (e::es) X.env)) []) (EP X pins σ Q) X.xe s1:=by
 obtain⟨cl,pm,ctv,c',oc,vs,tq,e1,_⟩:=id c.ex
 have one:∀ {o:Obj} {h:Heap},h.get? f=some o→PySem.W.Frag.In [(f,o)] h:=fun {o h} z a o' q=>by
  rw[List.lookup_cons] at q
  cases hb:a == f with
  | true=>rw[hb] at q;cases q;rw[beq_iff_eq.mp hb];exact z
  | false=>rw[hb] at q;cases q
 obtain⟨g1,_⟩:=I1.hok f _ e1
 refine PySem.W.callWith_K (h₀:=s1.heap) (one g1) (by simp[PySem.W.keepIn]) (thn (ha pos pins s1 σ H1 _ I1 h1) fun us s2 ⟨vs,H2,I2,r,kn,q⟩=>?_) he hpl
 obtain⟨g2,_⟩:=I2.hok f _ (kn _ _ _ e1)
 refine⟨one g2,?_⟩
 refine wpAny_call (codeAny_mono (C.run f ws X.A X.stack s2 H2 us vs Q E hr I2.env0 (c.same kn) r q) fun r s' hq=>?_)
 cases r with
 | error e=>exact hx pins σ H2 s2 e s' I2 hq
 | ok fl=>
  cases fl with
  | ret u=>exact I2.after hq
  | next=>exact False.elim hq
  | brk=>exact False.elim hq
  | cont=>exact False.elim hq
end
section
variable {X:Cx}{pins:List (Addr×Obj)}{σ:St}{H:Hp}{s:Shared}{A:Around}{E:Value→Shared→Prop}
theorem getmethF_ok {a C dx:Addr}{fs:List (Str×V)}{m:Str}{v:V}{pl:Sem Bool}{Q:Value×List Value→Shared→Prop}(I:Inv X pins σ H s) (e:H a=some (.ins C dx fs)) (c:Cls X.K C) (n:NoAttr X.K C m) (l:fs.lookup m=some v)
  (h:∀ u s',Inv X pins σ H s'→RelV v u→Q (u,[]) s'):wpAny (model X.prog X.w) A (getMethod (.ref a) m pl) Q E s:=by
 obtain⟨mA,O,r,_,_,_⟩:=ins_get I.hok e
 obtain⟨od,J,_⟩:=O.look
 exact PySem.W.method_usual I.kIn J (PySem.W.plainGet_of (c.get m)).1 (PySem.W.plainGet_of (c.get m)).2 n rfl (getattr_ok I e c n l h)
theorem pe_callF {CX:CXT}{k:Nat}{C:Addr}{m qual:Str}{lam o:Expr}{ps F:List Str}{sp:List V→Sp}{E:XK}{apos pos:Pos}{e:Expr}{es:List Expr}{tf:TE}{t:TA}{pl:Sem Bool}(CO:CloOkL X.prog X.w X.K X.mg X.base CX k qual lam ps F sp) (hr:Room k X.A)
  (hf:PE X o tf) (c:Cls X.K C) (n:NoAttr X.K C m) (hx:Passes CX X E) (ha:PA X (e::es) t) (hst:starEach (e::es) X.env=(false,eval e X.env)::starEach es X.env:=by rfl) (hpl:(backTo pos (starEach es X.env)).any (·.1)=false:=by rfl)
  (ht:eval (.Call (.Attribute o m apos) (e::es) [] pos) X.env=(do
   let ov ← eval o X.env
   standAt apos.atName
   let (f,first) ← holding [ov] (getMethod ov m pl)
   callWith pos f first (backTo pos (starEach (e::es) X.env)) (backToKw pos (keywordEach [] X.env))):=by rfl) :
  PE X (.Call (.Attribute o m apos) (e::es) [] pos) (tCallF C m qual lam F sp E tf t):=by
 intro pins s σ H Q I h
 refine PySem.W.methodCall_KW (pl:=pl) (thn (hf pins s σ H _ I h) fun u s1 ⟨x,H1,I1,rx,a,dx,fs,f,ws,ex,ea,l,cl,q⟩=>?_) ht
 subst ex
 obtain rfl:u=Value.ref a:=rx
 refine getmethF_ok I1 ea c n l fun u2 s2 I2 ru=>?_
 obtain rfl:u2=Value.ref f:=ru
 exact call_clol CO hr hx ha I2 cl q hst hpl
end
abbrev Cx.clos (X:Cx) (F:List Str):Cx:={ X with fn:=fun x=>X.fn x && !F.contains x }
section
variable {X:Cx}{σ:St}{H:Hp}{s:Shared}
theorem Inv.freeze {F:List Str}(I:Inv X [] σ H s) (hfn:∀ x,X.fn x=true) :
  ∃ H2,Inv (X.clos F) [] σ H2 s∧(∀ b o,H b=some o→H2 b=some o)∧(∀ x∈F,∀ c,X.env.cells.lookup x=some c→∃ o,s.heap.get? c=some o∧H2 c=some (.frz o (.own c)))∧∀ b,H2 b≠none→H b≠none∨∃ x∈F,X.env.cells.lookup x=some b:=by
 have cnone:∀ x c,X.env.cells.lookup x=some c→H c=none:=fun x c e=>(I.freeC x c e).elim id fun z=>absurd ((hfn x).symm.trans z.1) (by decide)
 have cab:∀ x c,X.env.cells.lookup x=some c→X.s₀.heap.objs.size≤c:=fun x c e=>I.ok.cab x c (hfn x) e
 classical
 let H2:Hp:=fun b=>if (∃ x∈F,X.env.cells.lookup x=some b) then (s.heap.get? b).map (fun o=>.frz o (.own b)) else H b
 have neg:∀ b,(¬ ∃ x∈F,X.env.cells.lookup x=some b)→H2 b=H b:=fun b n=>if_neg n
 have posi:∀ b,(∃ x∈F,X.env.cells.lookup x=some b)→H2 b=(s.heap.get? b).map (fun o=>.frz o (.own b)):=fun b n=>if_pos n
 have old:∀ b o,H b=some o→H2 b=some o:=fun b o e=>by
  rw[neg]
  ·exact e
  ·rintro⟨x,_,z⟩;rw[cnone x b z] at e;cases e
 have oldn:∀ b,b<X.s₀.heap.objs.size→H2 b=H b:=fun b lt=>neg b fun ⟨x,_,z⟩=>absurd (Nat.lt_of_lt_of_le lt (cab x b z)) (Nat.lt_irrefl _)
 have isc:∀ x∈F,∀ c,X.env.cells.lookup x=some c→∃ o,s.heap.get? c=some o∧H2 c=some (.frz o (.own c)):=fun x hx c e=>by
  obtain⟨v,o,ho,_⟩:=I.cell x c e
  exact⟨o,ho,by rw[posi c ⟨x,hx,e⟩,ho];rfl⟩
 refine⟨H2,⟨⟨I.ok.mod,I.ok.kind,I.ok.glob,I.ok.blt,I.ok.above,I.ok.inj,I.ok.has,fun x c hf e=>cab x c e,I.ok.hd,I.ok.frames,I.ok.stk,I.ok.exf,I.ok.bs,I.ok.bsz,I.ok.noex,I.ok.exfs,I.ok.funs,I.ok.frf⟩,I.os,I.bare,
  ⟨I.base.keep,I.base.slot,fun b o q n hx=>by rw[oldn b (Heap.lt_size q)];exact I.base.free b o q n hx,I.base.there,fun b xs q=>old _ _ (I.base.tups b xs q),fun b o u q=>old _ _ (I.base.frzs b o u q),fun b ps q=>let ⟨m,z⟩:=I.base.tbls b ps q;⟨m,old _ _ z⟩⟩,
  I.loc,I.cell,?_,fun x c e=>?_,fun p hp=>?_,fun b o q=>?_,I.len⟩,old,isc,fun b n=>?_⟩
 ·rw[neg]
  ·exact I.free
  ·rintro⟨x,_,z⟩;exact I.cne x _ z rfl
 ·by_cases hx:x∈F
  ·obtain⟨o,_,e2⟩:=isc x hx c e
   refine .inr ⟨?_,o,_,e2⟩
   show (X.fn x && !F.contains x)=false
   rw[List.contains_iff_mem.mpr hx];simp
  ·refine .inl ?_
   rw[neg]
   ·exact cnone x c e
   ·rintro⟨y,hy,z⟩
    exact hx (by rw[I.ok.inj x y c e z];exact hy)
 ·obtain⟨z1,z2,z3,z4,z5⟩:=I.pin p hp
  refine⟨z1,?_,z3,z4,z5⟩
  rw[neg]
  ·exact z2
  ·rintro⟨x,_,z⟩
   obtain⟨v,o,ho,hd⟩:=I.cell x _ z
   rw[z1] at ho;cases ho
   exact z5 _ hd
 ·by_cases hb:∃ x∈F,X.env.cells.lookup x=some b
  ·rw[posi b hb] at q
   obtain⟨ob,z,rfl⟩:=Option.map_eq_some_iff.mp q
   exact⟨z,ob,z⟩
  ·rw[neg b hb] at q
   exact(I.hok b o q).stay (fun _ _ _ r=>r) (fun c r=>old _ _ r) fun c xs r=>old _ _ r
 ·by_cases hb:∃ x∈F,X.env.cells.lookup x=some b
  ·exact .inr hb
  ·rw[neg b hb] at n;exact .inl n
end
def tLam (T:Addr) (qual:Str) (lam:Expr) (F:List Str) (ix:List Nat) (i:Nat) (u:TE):TE:=fun σ H Q=>TabT H T (lamPos lam) qual∧∃ ws,ws.length=F.length∧(∀ (j i:Nat),ix[j]? = some i→∃ v,σ[i]? = some (some v)∧ws[j]? = some v) ∧
 ∀ f H',H f=none→SameT T H H'→TabT H' T (lamPos lam) qual→CloL H' qual lam F f ws→u (σ.set i (some (.ref f))) H' Q
theorem pm_lam {X:Cx}{T c:Addr}{x qual:Str}(lam:Expr) {args:Arguments}{body:Expr}{scope:Scope}{pos pA p0:Pos}{rest:List Stmt}{u:TE}{F:List Str}{ix:List Nat}{i:Nat}(hlam:lam=.Lambda args body scope pos) (Tb:Tab X.mg X.base c T) (hcd:X.env.code=.ref c) (hN:X.N.Nodup) (hi:X.N[i]? = some x)
  (hloc:X.env.scope.names.lookup x=some .local) (hfn:∀ x,X.fn x=true) (hix:∀ (j:Nat) x,F[j]? = some x→∃ i',ix[j]? = some i'∧X.N[i']? = some x) (hni:∀ i'∈ix,i'≠i) (hF:∀ x∈F,X.env.scope.names.lookup x=some .cell)
  (hfr:∀ y∈(lamScope lam).names,y.2=.free→y.1∈F) (hfr2:∀ x∈F,(lamScope lam).names.lookup x=some .free) (hrest:PM (X.clos F) rest u)
  (hdf:defaultsOf (lamArgs lam) X.env=([],[]):=by rfl) (hq:X.env.qual ++ "<lambda>" = qual:=by rfl) (hs:swapsWith lam (some (.Name x p0)) pA.line X.env=pure false:=by rfl) :
  PM X (.Assign [.Name x p0] lam pA::rest) (tLam T qual lam F ix i u):=by
 subst hlam
 intro s σ H Q I h
 obtain⟨tab,ws,wl,hw,k⟩:=h
 have hfr:∀ y∈scope.names,y.2=.free→y.1∈F:=hfr
 have hfr2:∀ x∈F,scope.names.lookup x=some .free:=hfr2
 have has:∀ y∈scope.names,y.2=.free→∃ c,X.env.cells.lookup y.1=some c:=fun y hy hf=>I.ok.has y.1 (.inl (hF _ (hfr y hy hf)))
 obtain⟨cl,ecl,hcl,hfc⟩:=closure_some has
 obtain⟨cl2,ecl2,hkey⟩:=closure_keys has
 have:cl=cl2:=by rw[ecl] at ecl2;injection ecl2
 subst this
 have fin:∀ (f c':Addr) (oc:Obj) (cvs:Array Value) (tq:Tok) (pm ctv:Value) (H1:Hp) (h1:Heap) (tk:Nat),H f=none→Inv X [] σ H1 { s with heap:=h1,toks:=tk }→SameT T H H1→TabT H1 T pos qual →
   H1 f=some (.frz { cls:=.type "function",data:=.func (PySem.W.kla_fn "<lambda>" qual args body scope cl pm (.ref c') ctv) } (.own f))→H1 c'=some (.frz oc (.own c'))→oc.data=.fields cvs→cvs[1]? = some (.str qual tq) →
   wpAny (model X.prog X.w) X.A (storeName X.env x (.ref f)) (fun _ s2=>wpAny (model X.prog X.w) X.A (execs rest X.env)
    (fun fl s'=>∃ u v H',fl=.ret u∧s'.os=X.s₀.os∧AllBare s'.gens∧Un X.fs X.ex X.H₀ H' X.s₀.heap s'.heap∧HOk X.prog X.w H' s'.heap∧RelV v u∧Q v H') X.xe s2) X.xe { s with heap:=h1,toks:=tk }:=by
  intro f c' oc cvs tq pm ctv H1 h1 tk fresh I1 sT tT ef ec' e3 e4
  refine store_ok (v:=.ref f) (u:=.ref f) I1 hN hi (.inl hloc) rfl (fun s2 I2=>?_) (.inr hloc)
  obtain⟨H2,I3,old,isc,_⟩:=I2.freeze (F:=F) hfn
  refine hrest s2 _ H2 Q I3 (k f H2 fresh (fun b o hb e=>old _ _ (sT b o hb e)) ?_ ⟨⟨cl,pm,ctv,c',oc,cvs,tq,old _ _ ef,old _ _ ec',e3,e4,?_,?_,?_⟩,wl⟩)
  ·rcases tT with z|⟨c2,oc2,v2,t2,z,z2,r⟩
   ·exact .inl (old _ _ z)
   ·exact .inr ⟨c2,oc2,v2,t2,old _ _ z,old _ _ z2,r⟩
  ·intro x c e
   obtain⟨y,m,rfl,hy⟩:=hkey x c e
   exact hfr y m hy
  ·intro x y c e1 e2
   exact I3.ok.inj x y c (hcl x c e1) (hcl y c e2)
  ·intro j x v ej ewj
   obtain⟨i',ei,eN⟩:=hix j x ej
   obtain⟨v',es,ew⟩:=hw j i' ei
   rw[ewj] at ew;cases ew
   have xF:x∈F:=List.mem_of_getElem? ej
   obtain⟨m,hn,hl⟩:=I3.loc
   obtain⟨u,ru,lo⟩:=hl i' x v eN (by rw[List.getElem?_set_ne (Ne.symm (hni i' (List.mem_of_getElem? ei)))];exact es) (.inr (.inl (hF x xF)))
   rcases lo with ⟨z,_⟩|⟨_,c,ec,o,ho,hd⟩
   ·have z':X.env.scope.names.lookup x=some .local:=z
    rw[hF x xF] at z';cases z'
   ·obtain⟨c2,ec2⟩:=hfc _ (PySem.mem_of_lookup (hfr2 x xF)) rfl
    have:=hcl x c2 ec2
    rw[ec] at this;cases this
    obtain⟨o2,ho2,hH2⟩:=isc x xF c ec
    rw[ho] at ho2;cases ho2
    exact⟨c,o,u,ec2,hH2,hd,ru⟩
 have G:=I.mod.glob.keeps I.bk
 have C:=Tb.code.keeps I.bk
 have B:=Tb.blt.keeps I.bk
 refine wpAny_execs_cons (wpAny_Assign_Name (PySem.W.kla_eval hdf ?_) hs)
 rw[hq]
 rcases tab with tab|⟨c',oc,cvs,tq,tab,ec',e3,e4⟩
 ·have hP:s.heap.get? T=some (PySem.W.tabObj #[]):=I.hok T _ tab
  refine PySem.W.kla_makeFunction ecl I.ok.glob G hcd C hP trivial rfl Tb.ne B fun c' ctv h' tk hx hge hlt hrec htb=>?_
  obtain⟨c2,oc,cvs,tq,e2,g2,e3,e4⟩:=hrec
  cases e2
  let fo:Obj:={ cls:=.type "function",data:=.func (PySem.W.kla_fn "<lambda>" qual args body scope cl ((X.mg "__name__").getD .none) (.ref c') ctv) }
  let H1:Hp:=upd (upd (upd H T (.tbl (#[] ++ #[rawInt pos.line,rawInt pos.col,.ref c']))) c' (.frz oc (.own c'))) h'.objs.size (.frz fo (.own h'.objs.size))
  have Tlt:T<s.heap.objs.size:=I.hok.lt tab
  have cT:c'≠T:=Nat.ne_of_gt (Nat.lt_of_lt_of_le Tlt hge)
  have fc:h'.objs.size≠c':=Nat.ne_of_gt hlt
  have fT:h'.objs.size≠T:=Nat.ne_of_gt (Nat.lt_trans (Nat.lt_of_lt_of_le Tlt hge) hlt)
  have n1:H c'=none:=I.hok.fresh hge
  have n2:H h'.objs.size=none:=I.hok.fresh (Nat.le_trans hge (Nat.le_of_lt hlt))
  have H1f:H1 h'.objs.size=some (.frz fo (.own h'.objs.size)):=upd_same
  have H1c:H1 c'=some (.frz oc (.own c')):=by show upd _ _ _ _=_;rw[upd_ne (Ne.symm fc),upd_same]
  have H1T:H1 T=some (.tbl (#[] ++ #[rawInt pos.line,rawInt pos.col,.ref c'])):=by show upd _ _ _ _=_;rw[upd_ne (Ne.symm fT),upd_ne (Ne.symm cT),upd_same]
  have H1o:∀ b,b≠T→b≠c'→b≠h'.objs.size→H1 b=H b:=fun b x1 x2 x3=>by show upd _ _ _ _=_;rw[upd_ne x3,upd_ne x2,upd_ne x1]
  have sT:SameT T H H1:=fun b o hb e=>by
   rw[H1o b hb (fun z=>by rw[z,n1] at e;cases e) (fun z=>by rw[z,n2] at e;cases e)];exact e
  have gf:(h'.push fo).get? h'.objs.size=some fo:=Heap.get?_push_size _ rfl
  have gr:=grown (fs:=X.fs) (P:=X.prog) (w:=X.w) (h':=h'.push fo) tab I.hok sT (fun b hb n lt=>by rw[H1o b hb (Nat.ne_of_lt (Nat.lt_of_lt_of_le lt hge)) (Nat.ne_of_lt (Nat.lt_trans (Nat.lt_of_lt_of_le lt hge) hlt))];exact n)
   (fun b o hb e=>Heap.get?_push_of_some _ (hx b o hb e)) H1T (Heap.get?_push_of_some _ htb) (fun b o n e=>by
    by_cases x3:b=h'.objs.size
    ·subst x3;rw[H1f] at e;cases e;exact⟨gf,_,gf⟩
    ·by_cases x2:b=c'
     ·subst x2;rw[H1c] at e;cases e;exact⟨Heap.get?_push_of_some _ g2,_,Heap.get?_push_of_some _ g2⟩
     ·have x1:b≠T:=fun z=>by rw[z,tab] at n;cases n
      rw[H1o b x1 x2 x3,n] at e;cases e)
  exact fin h'.objs.size c' oc cvs tq _ ctv H1 (h'.push fo) tk n2 (I.un gr.1 gr.2) sT (.inr ⟨c',oc,cvs,tq,by rw[H1T];rfl,H1c,e3,e4⟩) H1f H1c e3 e4
 ·have hP:s.heap.get? T=some (PySem.W.tabObj #[rawInt pos.line,rawInt pos.col,.ref c']):=I.hok T _ tab
  refine PySem.W.kla_makeFunctionHit (cv:=.ref c') ecl I.ok.glob G hcd C hP (by simp[TriplesOk,rawInt]) (by simp[codeAmong,rawInt]) B fun ctv h' tk hx hge=>?_
  let fo:Obj:={ cls:=.type "function",data:=.func (PySem.W.kla_fn "<lambda>" qual args body scope cl ((X.mg "__name__").getD .none) (.ref c') ctv) }
  let H1:Hp:=upd H h'.objs.size (.frz fo (.own h'.objs.size))
  have n2:H h'.objs.size=none:=I.hok.fresh hge
  have H1f:H1 h'.objs.size=some (.frz fo (.own h'.objs.size)):=upd_same
  have all:∀ b o,H b=some o→H1 b=some o:=fun b o e=>by show upd _ _ _ _=_;rw[upd_ne (ne_of_none e n2)];exact e
  have gf:(h'.push fo).get? h'.objs.size=some fo:=Heap.get?_push_size _ rfl
  have I1:Inv X [] σ H1 { s with heap:=h'.push fo,toks:=tk }:=I.laid (fun b o e=>Heap.get?_push_of_some _ (hx b o e)) hge ⟨gf,_,gf⟩
  exact fin h'.objs.size c' oc cvs tq _ ctv H1 (h'.push fo) tk n2 I1 (fun b o _ e=>all b o e) (.inr ⟨c',oc,cvs,tq,all _ _ tab,all _ _ ec',e3,e4⟩) H1f (all _ _ ec') e3 e4
theorem pm_body {X:Cx}{body:List Stmt}{t:TS}(h:PSs X body t):PM X body (fun σ H Q=>t { nx:=fun _ _=>False,rt:=Q } σ H):=by
 intro s σ H Q I hq
 refine wpAny_mono (h [] s σ H _ I hq) (fun fl s' hs=>?_) fun e s' hs=>hs
 cases fl with
 | ret u=>
  obtain⟨v,σ',H',J,rv,q⟩:=hs
  exact⟨u,v,H',rfl,J.os,J.bare,J.base,J.hok,rv,q⟩
 | next=>obtain⟨_,_,_,q⟩:=hs;exact False.elim q
 | brk=>obtain⟨_,_,_,q⟩:=hs;exact False.elim q
 | cont=>obtain⟨_,_,_,q⟩:=hs;exact False.elim q
end L2
set_option Elab.async false
set_option linter.all false
set_option maxRecDepth 100000
namespace Tim
open PySem PyProof.Rows
def Cmp (prog:Program) (w:World) (A:Around) (s:Shared) (rk:Keyed→Int) (κ:SortKind) (S:List Keyed):Prop:=
 ∀ x∈S,∀ y∈S,∀ (E:Value→Shared→Prop) (Q:Bool→Shared→Prop),Q (decide (rk x<rk y)) s→wpAny (model prog w) A (keyLt' κ x.1 y.1) Q E s
structure SB (a₀:Array Keyed) (κ:SortKind) (P:Array (Nat×Nat×Nat)) (st:SortSt):Prop where
 perm:(arrOf st).Perm a₀
 kind:kindOf st=κ
 failed:failedOf st=none
 pend:pendingOf st=P
def R (rk:Keyed→Int) (xs:Array Keyed) (i:Nat):Int:=match xs[i]? with
 | some p=>rk p
 | none=>0
section
variable {rk:Keyed→Int}{κ:SortKind}{a₀:Array Keyed}{P:Array (Nat×Nat×Nat)}
theorem R_at {xs:Array Keyed}{i:Nat}(h:i<xs.size):R rk xs i=rk xs[i]:=by unfold R;rw[getElem?_pos xs i h]
theorem R_congr {xs ys:Array Keyed}{i j:Nat}(h:xs[i]? = ys[j]?):R rk xs i=R rk ys j:=by unfold R;rw[h]
theorem SB.size {st:SortSt}(h:SB a₀ κ P st):(arrOf st).size=a₀.size:=h.perm.size_eq
theorem SB.setArr {st:SortSt}(h:SB a₀ κ P st) {xs:Array Keyed}(hp:xs.Perm (arrOf st)):SB a₀ κ P (setArr st xs):=⟨hp.trans h.perm,h.kind,h.failed,h.pend⟩
theorem SB.mem {st:SortSt}(h:SB a₀ κ P st) {i:Nat}(hi:i<(arrOf st).size):(arrOf st)[i]∈a₀.toList:=(Array.perm_iff_toList_perm.mp h.perm).mem_iff.mp (by simp)
theorem perm_inj {xs:Array Keyed}(D:(a₀.toList.map rk).Nodup) (hp:xs.Perm a₀) {i j:Nat}(hi:i<xs.size) (hj:j<xs.size) (e:R rk xs i=R rk xs j):i=j:=by
 have n:(xs.toList.map rk).Nodup:=((Array.perm_iff_toList_perm.mp hp).map rk).nodup_iff.mpr D
 rw[R_at hi,R_at hj] at e
 have hi':(xs.toList.map rk)[i]? = some (rk xs[i]):=by rw[List.getElem?_map];simp[hi]
 have hj':(xs.toList.map rk)[j]? = some (rk xs[j]):=by rw[List.getElem?_map];simp[hj]
 exact(List.getElem?_inj (List.getElem?_eq_some_iff.mp hi').1 n).mp (by rw[hi',hj',e])
def Seg (rk:Keyed→Int) (xs:Array Keyed) (lo hi:Nat):Prop:=∀ i j,lo≤i→i<j→j<hi→R rk xs i<R rk xs j
theorem R_bubble {xs:Array Keyed}{src d:Nat}(hs:src<xs.size) (hd:d≤src) (k:Nat) :
  R rk (bubble xs src d) k=if k=src-d then R rk xs src else if src-d<k∧k≤src then R rk xs (k-1) else R rk xs k:=by
 have e:=getElem?_bubble hs d hd k
 by_cases h1:k=src-d
 ·rw[if_pos h1] at e ⊢;exact R_congr e
 ·rw[if_neg h1] at e ⊢
  by_cases h2:src-d<k∧k≤src
  ·rw[if_pos h2] at e ⊢;exact R_congr e
  ·rw[if_neg h2] at e ⊢;exact R_congr e
theorem R_mirror {xs:Array Keyed}{i j:Nat}(hj:j≤xs.size) (k:Nat):R rk (mirror xs i j ((j-i)/2)) k=if i≤k∧k<j then R rk xs (i+j-1-k) else R rk xs k:=by
 have e:=getElem?_mirror_all (i:=i) hj k
 by_cases h:i≤k∧k<j
 ·rw[if_pos h] at e ⊢;exact R_congr e
 ·rw[if_neg h] at e ⊢;exact R_congr e
end
section
variable {prog:Program}{w:World}{A:Around}{E:Value→Shared→Prop}{s:Shared}{rk:Keyed→Int}{κ:SortKind}{a₀:Array Keyed}{P:Array (Nat×Nat×Nat)}
theorem wpS_lt {st:SortSt}{x y:Keyed}{Q:Option Bool→SortSt→Prop}(C:Cmp prog w A s rk κ a₀.toList) (hk:kindOf st=κ) (hx:x∈a₀.toList) (hy:y∈a₀.toList) (h:Q (some (decide (rk x<rk y))) st) :
  wpS (model prog w) A E s (lt' x y) Q st:=by
 rw[lt'_eq]
 refine wpS_bind (wpS_get ?_)
 rw[hk]
 exact wpS_bind (wpS_lift (wpAny_attempt (C x hx y hy _ _ ⟨rfl,wpS_pure h⟩)))
theorem wpS_elem {st:SortSt}{xs:Array Keyed}{i:Nat}{Q:Keyed→SortSt→Prop}(hi:i<xs.size) (h:Q xs[i] st):wpS (model prog w) A E s (elem' xs i) Q st:=by
 rw[elem'_eq,getElem?_pos xs i hi]
 exact wpS_pure h
theorem wpS_ltA {st:SortSt}{i j:Nat}{Q:Option Bool→SortSt→Prop}(C:Cmp prog w A s rk κ a₀.toList) (hB:SB a₀ κ P st) (hi:i<a₀.size) (hj:j<a₀.size)
  (h:Q (some (decide (R rk (arrOf st) i<R rk (arrOf st) j))) st):wpS (model prog w) A E s (ltAt' i j) Q st:=by
 have hi':i<(arrOf st).size:=by rw[hB.size];exact hi
 have hj':j<(arrOf st).size:=by rw[hB.size];exact hj
 rw[ltAt'_eq]
 refine wpS_bind (wpS_get ?_)
 refine wpS_bind (wpS_elem hi' (wpS_bind (wpS_elem hj' ?_)))
 refine wpS_lt C hB.kind (hB.mem hi') (hB.mem hj') ?_
 rw[R_at hi',R_at hj'] at h
 exact h
theorem wpS_binarySort {st:SortSt}{lo n ok:Nat}{Q:Bool→SortSt→Prop}(C:Cmp prog w A s rk κ a₀.toList) (D:(a₀.toList.map rk).Nodup) (hn:lo+n≤a₀.size) (hok:ok≤n) (hB:SB a₀ κ P st) (hs:Seg rk (arrOf st) lo (lo+ok))
  (h:∀ st',SB a₀ κ P st'→Seg rk (arrOf st') lo (lo+n)→(∀ k,(k<lo∨lo+n≤k)→(arrOf st')[k]? = (arrOf st)[k]?)→Q true st'):wpS (model prog w) A E s (binarySort' lo n ok) Q st:=by
 rw[binarySort'_eq]
 refine wpS_bind (wpS_mono (wpS_forRange (I:=fun k c st'=>c=(none,())∧SB a₀ κ P st'∧Seg rk (arrOf st') lo (lo+min k n)∧∀ k,(k<lo∨lo+n≤k)→(arrOf st')[k]? = (arrOf st)[k]?)
  (Q:=fun c st'=>c=(none,())∧SB a₀ κ P st'∧Seg rk (arrOf st') lo (lo+n)∧∀ k,(k<lo∨lo+n≤k)→(arrOf st')[k]? = (arrOf st)[k]?) ?step ?fin ?init) ?post)
 case post=>
  rintro c st' ⟨rfl,hB',hs',ho⟩
  exact wpS_pure (h st' hB' hs' ho)
 case init=>
  refine⟨rfl,hB,fun i j h0 hij hj=>?_,fun _ _=>rfl⟩
  by_cases h1:ok=0
  ·omega
  ·exact hs i j h0 hij (by omega)
 case fin=>
  rintro c st' ⟨hc,hB',hs',ho⟩
  refine⟨hc,hB',?_,ho⟩
  rwa [show min (max (max ok 1) n) n=n by omega] at hs'
 case step=>
  rintro k c st' hak hkn ⟨rfl,hB',hs',ho⟩
  rw[show min k n=k by omega] at hs'
  have hks:lo+k<(arrOf st').size:=by rw[hB'.size];omega
  refine wpS_bind (wpS_mono (wpS_forRange (I:=fun x c st''=>st''=st'∧∃ l r,c=(none,l,r)∧l≤r∧r≤k∧r-l≤k-x ∧
    (∀ i,i<l→R rk (arrOf st') (lo+i)<R rk (arrOf st') (lo+k))∧(∀ i,r≤i→i<k→R rk (arrOf st') (lo+k)<R rk (arrOf st') (lo+i)))
   (Q:=fun c st''=>st''=st'∧∃ l r,c=(none,l,r)∧l≤k ∧
    (∀ i,i<l→R rk (arrOf st') (lo+i)<R rk (arrOf st') (lo+k))∧(∀ i,l≤i→i<k→R rk (arrOf st') (lo+k)<R rk (arrOf st') (lo+i))) ?istep ?ifin ?iinit) ?ipost)
  case iinit=>exact⟨rfl,0,k,rfl,by omega,by omega,by omega,fun i hi=>by omega,fun i h1 h2=>by omega⟩
  case ifin=>
   rintro c st'' ⟨rfl,l,r,rfl,hlr,hrk,hm,hlo,hhi⟩
   have:l=r:=by omega
   subst this
   exact⟨rfl,l,l,rfl,hrk,hlo,hhi⟩
  case istep=>
   rintro x c st'' _ hxk ⟨rfl,l,r,rfl,hlr,hrk,hm,hlo,hhi⟩
   dsimp only
   by_cases hge:l ≥ r
   ·rw[if_pos hge]
    have:l=r:=by omega
    subst this
    exact wpS_pure ⟨rfl,l,l,rfl,hrk,hlo,hhi⟩
   ·rw[if_neg hge]
    refine wpS_bind (wpS_ltA C hB' (by omega) (by omega) ?_)
    by_cases hless:R rk (arrOf st'') (lo+k)<R rk (arrOf st'') (lo+(l+r)/2)
    ·simp only[hless,decide_true,if_true]
     refine wpS_pure ⟨rfl,l,(l+r)/2,rfl,by omega,by omega,by omega,hlo,fun i h1 h2=>?_⟩
     by_cases e:i=(l+r)/2
     ·rw[e];exact hless
     ·exact Int.lt_trans hless (hs' _ _ (by omega) (by omega) (by omega))
    ·simp only[hless,decide_false,Bool.false_eq_true,if_false]
     have ne:R rk (arrOf st'') (lo+(l+r)/2)≠R rk (arrOf st'') (lo+k):=fun e=>by
      have:=perm_inj D hB'.perm (by omega) hks e
      omega
     have lt:R rk (arrOf st'') (lo+(l+r)/2)<R rk (arrOf st'') (lo+k):=by omega
     refine wpS_pure ⟨rfl,(l+r)/2+1,r,rfl,by omega,by omega,by omega,fun i h1=>?_,hhi⟩
     by_cases e:i=(l+r)/2
     ·rw[e];exact lt
     ·exact Int.lt_trans (hs' _ _ (by omega) (by omega) (by omega)) lt
  case ipost=>
   rintro c st'' ⟨rfl,l,r,rfl,hlk,hlo,hhi⟩
   show wpS _ _ _ _ (do moveDown' (lo+k) (lo+l);pure (ForInStep.yield (none,()))) _ _
   rw[moveDown'_eq]
   refine wpS_bind (wpS_modify (wpS_pure ⟨rfl,hB'.setArr (bubble_perm _ _ _),?_,fun j hj=>?_⟩))
   ·rw[show min (k+1) n=k+1 by omega]
    intro i j h0 hij hj
    show R rk (bubble (arrOf st'') (lo+k) (lo+k-(lo+l))) i<R rk (bubble (arrOf st'') (lo+k) (lo+k-(lo+l))) j
    have hlo':∀ i,lo≤i→i<lo+l→R rk (arrOf st'') i<R rk (arrOf st'') (lo+k):=fun i a b=>by
     have:=hlo (i-lo) (by omega)
     rwa [show lo+(i-lo)=i by omega] at this
    have hhi':∀ i,lo+l≤i→i<lo+k→R rk (arrOf st'') (lo+k)<R rk (arrOf st'') i:=fun i a b=>by
     have:=hhi (i-lo) (by omega) (by omega)
     rwa [show lo+(i-lo)=i by omega] at this
    rw[R_bubble hks (by omega),R_bubble hks (by omega),show lo+k-(lo+k-(lo+l))=lo+l by omega]
    repeat' split
    all_goals first
     | (exfalso;omega)
     | exact hlo' _ (by omega) (by omega)
     | exact hhi' _ (by omega) (by omega)
     | exact hs' _ _ (by omega) (by omega) (by omega)
   ·have e:=getElem?_bubble hks (lo+k-(lo+l)) (by omega) j
    show (bubble (arrOf st'') (lo+k) (lo+k-(lo+l)))[j]? = _
    rw[e,if_neg (by omega),if_neg (by omega)]
    exact ho j hj
end
end Tim
set_option Elab.async false
set_option linter.all false
set_option maxRecDepth 100000
namespace Tim
open PySem PyProof.Rows
section
variable {prog:Program}{w:World}{A:Around}{E:Value→Shared→Prop}{s:Shared}{rk:Keyed→Int}{κ:SortKind}{a₀:Array Keyed}{P:Array (Nat×Nat×Nat)}
theorem Seg.one {xs:Array Keyed}{lo:Nat}:Seg rk xs lo (lo+1):=fun i j a b c=>by omega
theorem Seg.grow {xs:Array Keyed}{lo n:Nat}(h:Seg rk xs lo (lo+n)) (h1:1≤n) (lt:R rk xs (lo+n-1)<R rk xs (lo+n)):Seg rk xs lo (lo+(n+1)):=fun i j a b c=>by
 by_cases e:j=lo+n
 ·subst e
  by_cases e2:i=lo+n-1
  ·rw[e2];exact lt
  ·exact Int.lt_trans (h i (lo+n-1) a (by omega) (by omega)) lt
 ·exact h i j a b (by omega)
theorem wpS_countRun {st:SortSt}{lo nrem:Nat}{Q:Option Nat→SortSt→Prop}(C:Cmp prog w A s rk κ a₀.toList) (D:(a₀.toList.map rk).Nodup) (h1:1≤nrem) (hn:lo+nrem≤a₀.size) (hB:SB a₀ κ P st)
  (h:∀ n st',SB a₀ κ P st'→1≤n→n≤nrem→Seg rk (arrOf st') lo (lo+n)→(∀ k,(k<lo∨lo+nrem≤k)→(arrOf st')[k]? = (arrOf st)[k]?)→Q (some n) st'):wpS (model prog w) A E s (countRun' lo nrem) Q st:=by
 have ne:∀ {st':SortSt},SB a₀ κ P st'→∀ i j,i<j→j<a₀.size→¬ R rk (arrOf st') j<R rk (arrOf st') i→R rk (arrOf st') i<R rk (arrOf st') j:=fun hB' i j a b c=>by
  have:R rk (arrOf _) i≠R rk (arrOf _) j:=fun e=>by
   have:=perm_inj D hB'.perm (by rw[hB'.size];omega) (by rw[hB'.size];omega) e
   omega
  omega
 have ne2:∀ {st':SortSt},SB a₀ κ P st'→∀ i j,i<j→j<a₀.size→¬ R rk (arrOf st') i<R rk (arrOf st') j→R rk (arrOf st') j<R rk (arrOf st') i:=fun hB' i j a b c=>by
  have:R rk (arrOf _) i≠R rk (arrOf _) j:=fun e=>by
   have:=perm_inj D hB'.perm (by rw[hB'.size];omega) (by rw[hB'.size];omega) e
   omega
  omega
 rw[countRun'_eq]
 refine wpS_bind (wpS_mono (wpS_forRange (I:=fun x c st'=>st'=st∧c=(none,x)∧1≤x∧Seg rk (arrOf st) lo (lo+x))
  (Q:=fun c st'=>st'=st∧∃ n,c=(none,n)∧1≤n∧n≤nrem∧Seg rk (arrOf st) lo (lo+n)∧(n=nrem∨R rk (arrOf st) (lo+n)<R rk (arrOf st) (lo+n-1))) ?step ?fin ?init) ?post)
 case init=>exact⟨rfl,rfl,Nat.le_refl _,Seg.one⟩
 case fin=>
  rintro c st' ⟨rfl,rfl,a,b⟩
  rw[show max 1 nrem=nrem by omega] at b ⊢
  exact⟨rfl,nrem,rfl,h1,Nat.le_refl _,b,.inl rfl⟩
 case step=>
  rintro x c st' hx1 hxn ⟨rfl,rfl,_,hs⟩
  dsimp only
  refine wpS_bind (wpS_ltA C hB (by omega) (by omega) ?_)
  by_cases hl:R rk (arrOf st') (lo+x)<R rk (arrOf st') (lo+x-1)
  ·simp only[hl,decide_true,if_true]
   exact wpS_pure ⟨rfl,x,rfl,hx1,by omega,hs,.inr hl⟩
  ·simp only[hl,decide_false,Bool.false_eq_true,if_false]
   exact wpS_pure ⟨rfl,rfl,by omega,hs.grow hx1 (ne hB _ _ (by omega) (by omega) hl)⟩
 case post=>
  rintro c st' ⟨rfl,n,rfl,hn1,hn2,hs,hor⟩
  dsimp only
  by_cases e:n=nrem
  ·rw[if_pos (by simp[e])]
   exact wpS_pure (h n st' hB hn1 hn2 hs fun _ _=>rfl)
  rw[if_neg (by simp[e])]
  have hlt:=hor.resolve_left e
  by_cases g1:n>1
  ·rw[if_pos g1]
   refine wpS_bind (wpS_ltA C hB (by omega) (by omega) ?_)
   have:R rk (arrOf st') lo<R rk (arrOf st') (lo+n-1):=hs _ _ (Nat.le_refl _) (by omega) (by omega)
   simp only[this,decide_true,if_true]
   exact wpS_pure (h n st' hB hn1 hn2 hs fun _ _=>rfl)
  rw[if_neg g1]
  have n1:n=1:=by omega
  subst n1
  refine wpS_bind (wpS_lift (wpAny_rule ⟨rfl,?_⟩))
  have h2:2≤nrem:=by omega
  refine wpS_bind (wpS_mono (wpS_forRange (I:=fun x c st''=>st''=st'∧c=(none,x,0)∧∀ i j,lo≤i→i<j→j<lo+x→R rk (arrOf st') j<R rk (arrOf st') i)
   (Q:=fun c st''=>st''=st'∧∃ n,c=(none,n,0)∧2≤n∧n≤nrem∧∀ i j,lo≤i→i<j→j<lo+n→R rk (arrOf st') j<R rk (arrOf st') i) ?step2 ?fin2 ?init2) ?post2)
  case init2=>
   refine⟨rfl,rfl,fun i j a b c=>?_⟩
   have e1:i=lo:=by omega
   have e2:j=lo+1:=by omega
   rw[e1,e2]
   simpa using hlt
  case fin2=>
   rintro c st'' ⟨rfl,rfl,b⟩
   rw[show max (1+1) nrem=nrem by omega] at b ⊢
   exact⟨rfl,nrem,rfl,h2,Nat.le_refl _,b⟩
  case step2=>
   rintro x c st'' hx1 hxn ⟨rfl,rfl,hf⟩
   dsimp only
   refine wpS_bind (wpS_ltA C hB (by omega) (by omega) ?_)
   by_cases hl:R rk (arrOf st'') (lo+x)<R rk (arrOf st'') (lo+x-1)
   ·simp only[hl,decide_true,if_true]
    rw[if_neg (by omega)]
    refine wpS_pure ⟨rfl,rfl,fun i j a b c=>?_⟩
    by_cases e:j=lo+x
    ·subst e
     by_cases e2:i=lo+x-1
     ·rw[e2];exact hl
     ·exact Int.lt_trans hl (hf i (lo+x-1) a (by omega) (by omega))
    ·exact hf i j a b (by omega)
   ·simp only[hl,decide_false,Bool.false_eq_true,if_false]
    refine wpS_bind (wpS_ltA C hB (by omega) (by omega) ?_)
    have:=ne hB _ _ (show lo+x-1<lo+x by omega) (by omega) hl
    simp only[this,decide_true,if_true]
    exact wpS_pure ⟨rfl,x,rfl,by omega,by omega,hf⟩
  case post2=>
   rintro c st'' ⟨rfl,n,rfl,hn1,hn2,hf⟩
   dsimp only
   rw[if_neg (by omega),reverseSlice'_eq]
   have hz:lo+n≤(arrOf st'').size:=by rw[hB.size];omega
   have hB2:SB a₀ κ P (setArr st'' (mirror (arrOf st'') lo (lo+n) ((lo+n-lo)/2))):=hB.setArr (mirror_perm _ _ _ _)
   have hs2:Seg rk (mirror (arrOf st'') lo (lo+n) ((lo+n-lo)/2)) lo (lo+n):=fun i j a b c=>by
    rw[R_mirror hz,R_mirror hz,if_pos (by omega),if_pos (by omega)]
    exact hf _ _ (by omega) (by omega) (by omega)
   have ho:∀ k,(k<lo∨lo+nrem≤k)→(mirror (arrOf st'') lo (lo+n) ((lo+n-lo)/2))[k]? = (arrOf st'')[k]?:=fun k hk=>by
    rw[getElem?_mirror_all hz,if_neg (by omega)]
   refine wpS_bind (wpS_modify ?_)
   have hs2':Seg rk (arrOf (setArr st'' (mirror (arrOf st'') lo (lo+n) ((lo+n-lo)/2)))) lo (lo+n):=hs2
   have ho':∀ k,(k<lo∨lo+nrem≤k)→(arrOf (setArr st'' (mirror (arrOf st'') lo (lo+n) ((lo+n-lo)/2))))[k]? = (arrOf st'')[k]?:=ho
   clear hs2 ho
   generalize setArr st'' (mirror (arrOf st'') lo (lo+n) ((lo+n-lo)/2))=st2 at hB2 hs2' ho' ⊢
   refine wpS_bind (wpS_mono (wpS_forRange (I:=fun x c st'=>st'=st2∧c=(none,x)∧Seg rk (arrOf st2) lo (lo+x))
    (Q:=fun c st'=>st'=st2∧∃ m,c=(none,m)∧1≤m∧m≤nrem∧Seg rk (arrOf st2) lo (lo+m)) ?step3 ?fin3 ?init3) ?post3)
   case init3=>exact⟨rfl,rfl,hs2'⟩
   case fin3=>
    rintro c st' ⟨rfl,rfl,b⟩
    rw[show max n nrem=nrem by omega] at b ⊢
    exact⟨rfl,nrem,rfl,h1,Nat.le_refl _,b⟩
   case step3=>
    rintro x c st' hx1 hxn ⟨rfl,rfl,hs⟩
    dsimp only
    refine wpS_bind (wpS_ltA C hB2 (by omega) (by omega) ?_)
    by_cases hl:R rk (arrOf st') (lo+x)<R rk (arrOf st') (lo+x-1)
    ·simp only[hl,decide_true,if_true]
     exact wpS_pure ⟨rfl,x,rfl,by omega,by omega,hs⟩
    ·simp only[hl,decide_false,Bool.false_eq_true,if_false]
     exact wpS_pure ⟨rfl,rfl,hs.grow (by omega) (ne hB2 _ _ (by omega) (by omega) hl)⟩
   case post3=>
    rintro c st' ⟨rfl,m,rfl,hm1,hm2,hs⟩
    exact wpS_pure (h m st' hB2 hm1 hm2 hs ho')
def gallop':Bool→Keyed→Array Keyed→Nat→Nat→Nat→StateT SortSt Sem (Option Nat):=sortPriv% PySem.Builtin.gallop
def Falls (b:Nat→Bool) (n k:Nat):Prop:=k≤n∧(∀ i,i<k→b i=true)∧∀ i,k≤i→i<n→b i=false
theorem wpS_gallop {st:SortSt}{left:Bool}{key:Keyed}{arr:Array Keyed}{base n hint k:Nat}{b:Nat→Bool}{Q:Option Nat→SortSt→Prop}
  (hb:∀ i,i<n→∀ (Q:Option Bool→SortSt→Prop),Q (some (b i)) st→wpS (model prog w) A E s (do
   let x ← elem' arr (base+i)
   if left then lt' x key else return (← lt' key x).map (!·)) Q st)
  (hh:hint<n) (hf:Falls b n k) (h:Q (some k) st):wpS (model prog w) A E s (gallop' left key arr base n hint) Q st:=by
 obtain⟨kn,kt,kf⟩:=hf
 have gt:∀ i,i<n→b i=true→i<k:=fun i a c=>Nat.lt_of_not_le fun z=>by rw[kf i z a] at c;cases c
 have ge:∀ i,b i=false→k≤i:=fun i c=>Nat.le_of_not_lt fun z=>by rw[kt i z] at c;cases c
 change wpS (model prog w) A E s (bind _ _) Q st
 refine wpS_bind ?_
 refine hb hint hh _ ?_
 dsimp only
 cases hr:b hint with
 | true=>
  rw[if_pos rfl]
  refine wpS_bind (wpS_mono (wpS_forRange (I:=fun x c st'=>st'=st∧∃ la of,c=(none,la,of)∧x+1≤of∧hint+la<k)
   (Q:=fun c st'=>st'=st∧∃ la of,c=(none,la,of)∧hint+la<k∧(n-hint≤of∨k≤hint+of)) ?step ?fin ?init) ?post)
  case init=>exact⟨rfl,0,1,rfl,by omega,gt _ hh hr⟩
  case fin=>
   rintro c st' ⟨rfl,la,of,rfl,a,c⟩
   exact⟨rfl,la,of,rfl,c,.inl (by omega)⟩
  case step=>
   rintro x c st' _ hxn ⟨rfl,la,of,rfl,a,c⟩
   dsimp only
   by_cases g:of ≥ n-hint
   ·rw[if_pos g]
    exact wpS_pure ⟨rfl,la,of,rfl,c,.inl g⟩
   ·rw[if_neg g]
    refine wpS_bind (hb (hint+of) (by omega) _ ?_)
    dsimp only
    cases hm:b (hint+of) with
    | true=>
     simp only[Bool.not_true,Bool.false_eq_true,if_false]
     exact wpS_pure ⟨rfl,of,2*of+1,rfl,by omega,gt _ (by omega) hm⟩
    | false=>
     simp only[Bool.not_false,if_true]
     exact wpS_pure ⟨rfl,la,of,rfl,c,.inr (ge _ hm)⟩
  case post=>
   rintro c st' ⟨rfl,la,of,rfl,c,d⟩
   dsimp only
   refine wpS_bind (wpS_mono (wpS_forRange (I:=fun x c st''=>st''=st'∧∃ lo hi,c=(none,lo,hi)∧lo≤k∧k≤hi∧hi≤n∧hi-lo≤n-x) (Q:=fun c st''=>st''=st'∧∃ lo,c=(none,lo,k)) ?step2 ?fin2 ?init2) ?post2)
   case init2=>exact⟨rfl,_,_,rfl,by omega,by omega,by omega,by omega⟩
   case fin2=>
    rintro c st'' ⟨rfl,lo,hi,rfl,e1,e2,e3,e4⟩
    have:hi=k:=by omega
    subst this
    exact⟨rfl,lo,rfl⟩
   case step2=>
    rintro x c st'' _ hxn ⟨rfl,lo,hi,rfl,e1,e2,e3,e4⟩
    dsimp only
    by_cases g:lo ≥ hi
    ·rw[if_pos g]
     have:hi=k:=by omega
     subst this
     exact wpS_pure ⟨rfl,lo,rfl⟩
    ·rw[if_neg g]
     refine wpS_bind (hb (lo+(hi-lo)/2) (by omega) _ ?_)
     dsimp only
     cases hm:b (lo+(hi-lo)/2) with
     | true=>
      rw[if_pos rfl]
      have:=gt _ (by omega) hm
      exact wpS_pure ⟨rfl,_,_,rfl,by omega,by omega,by omega,by omega⟩
     | false=>
      rw[if_neg (by decide)]
      have:=ge _ hm
      exact wpS_pure ⟨rfl,_,_,rfl,by omega,by omega,by omega,by omega⟩
   case post2=>
    rintro c st'' ⟨rfl,lo,rfl⟩
    exact wpS_pure h
 | false=>
  rw[if_neg (by decide)]
  refine wpS_bind (wpS_mono (wpS_forRange (I:=fun x c st'=>st'=st∧∃ la of,c=(none,la,of)∧x+1≤of∧k≤hint-la∧la≤hint)
   (Q:=fun c st'=>st'=st∧∃ la of,c=(none,la,of)∧k≤hint-la∧la≤hint∧(hint+1≤of∨(of≤hint∧hint-of<k))) ?step ?fin ?init) ?post)
  case init=>exact⟨rfl,0,1,rfl,by omega,by have:=ge _ hr;omega,by omega⟩
  case fin=>
   rintro c st' ⟨rfl,la,of,rfl,a,c,d⟩
   exact⟨rfl,la,of,rfl,c,d,.inl (by omega)⟩
  case step=>
   rintro x c st' _ hxn ⟨rfl,la,of,rfl,a,c,d⟩
   dsimp only
   by_cases g:of ≥ hint+1
   ·rw[if_pos g]
    exact wpS_pure ⟨rfl,la,of,rfl,c,d,.inl g⟩
   ·rw[if_neg g]
    refine wpS_bind (hb (hint-of) (by omega) _ ?_)
    dsimp only
    cases hm:b (hint-of) with
    | true=>
     rw[if_pos rfl]
     exact wpS_pure ⟨rfl,la,of,rfl,c,d,.inr ⟨by omega,gt _ (by omega) hm⟩⟩
    | false=>
     rw[if_neg (by decide)]
     exact wpS_pure ⟨rfl,of,2*of+1,rfl,by omega,ge _ hm,by omega⟩
  case post=>
   rintro c st' ⟨rfl,la,of,rfl,c,d,e⟩
   dsimp only
   refine wpS_bind (wpS_mono (wpS_forRange (I:=fun x c st''=>st''=st'∧∃ lo hi,c=(none,lo,hi)∧lo≤k∧k≤hi∧hi≤n∧hi-lo≤n-x) (Q:=fun c st''=>st''=st'∧∃ lo,c=(none,lo,k)) ?step2 ?fin2 ?init2) ?post2)
   case init2=>exact⟨rfl,_,_,rfl,by omega,by omega,by omega,by omega⟩
   case fin2=>
    rintro c st'' ⟨rfl,lo,hi,rfl,e1,e2,e3,e4⟩
    have:hi=k:=by omega
    subst this
    exact⟨rfl,lo,rfl⟩
   case step2=>
    rintro x c st'' _ hxn ⟨rfl,lo,hi,rfl,e1,e2,e3,e4⟩
    dsimp only
    by_cases g:lo ≥ hi
    ·rw[if_pos g]
     have:hi=k:=by omega
     subst this
     exact wpS_pure ⟨rfl,lo,rfl⟩
    ·rw[if_neg g]
     refine wpS_bind (hb (lo+(hi-lo)/2) (by omega) _ ?_)
     dsimp only
     cases hm:b (lo+(hi-lo)/2) with
     | true=>
      rw[if_pos rfl]
      have:=gt _ (by omega) hm
      exact wpS_pure ⟨rfl,_,_,rfl,by omega,by omega,by omega,by omega⟩
     | false=>
      rw[if_neg (by decide)]
      have:=ge _ hm
      exact wpS_pure ⟨rfl,_,_,rfl,by omega,by omega,by omega,by omega⟩
   case post2=>
    rintro c st'' ⟨rfl,lo,rfl⟩
    exact wpS_pure h
end
end Tim
set_option Elab.async false
set_option linter.all false
set_option maxRecDepth 100000
namespace Tim
open PySem PyProof.Rows
section
variable {rk:Keyed→Int}
abbrev Asc (rk:Keyed→Int) (l:List Keyed):Prop:=l.Pairwise fun x y=>rk x<rk y
structure ML (rk:Keyed→Int) (X Y O:List Keyed) (i j:Nat):Prop where
 perm:O.Perm (X.take i++Y.take j)
 srt:Asc rk O
 la:∀ x∈O,∀ y∈X.drop i,rk x<rk y
 lb:∀ x∈O,∀ y∈Y.drop j,rk x<rk y
theorem drop_block {X:List Keyed}(i k:Nat):X.drop i=(X.drop i).take k++X.drop (i+k):=by
 rw[← List.drop_drop];exact(List.take_append_drop k _).symm
theorem ML.a {X Y O:List Keyed}{i j k:Nat}(m:ML rk X Y O i j) (sX:Asc rk X) (h:∀ y∈(X.drop i).take k,∀ z∈Y.drop j,rk y<rk z):ML rk X Y (O++(X.drop i).take k) (i+k) j:=by
 have sd:Asc rk (X.drop i):=sX.sublist (List.drop_sublist _ _)
 rw[drop_block i k] at sd
 obtain⟨s1,s2,s3⟩:=List.pairwise_append.mp sd
 refine⟨?_,List.pairwise_append.mpr ⟨m.srt,s1,fun x hx y hy=>m.la x hx y (List.mem_of_mem_take hy)⟩,fun x hx y hy=>?_,fun x hx y hy=>?_⟩
 ·refine(m.perm.append_right _).trans ?_
  rw[List.take_add,List.append_assoc,List.append_assoc]
  exact List.Perm.append_left _ List.perm_append_comm
 ·rcases List.mem_append.mp hx with hx|hx
  ·refine m.la x hx y ?_
   rw[drop_block i k];exact List.mem_append_right _ hy
  ·exact s3 x hx y hy
 ·rcases List.mem_append.mp hx with hx|hx
  ·exact m.lb x hx y hy
  ·exact h x hx y hy
theorem ML.swap {X Y O:List Keyed}{i j:Nat}(m:ML rk X Y O i j):ML rk Y X O j i:=⟨m.perm.trans List.perm_append_comm,m.srt,m.lb,m.la⟩
theorem ML.b {X Y O:List Keyed}{i j k:Nat}(m:ML rk X Y O i j) (sY:Asc rk Y) (h:∀ y∈(Y.drop j).take k,∀ z∈X.drop i,rk y<rk z):ML rk X Y (O++(Y.drop j).take k) i (j+k):=(m.swap.a sY h).swap
theorem ML.endA {X Y O:List Keyed}{i j:Nat}(m:ML rk X Y O i j) (sX:Asc rk X) (hj:Y.length≤j):(O++X.drop i).Perm (X++Y)∧Asc rk (O++X.drop i):=by
 refine⟨?_,List.pairwise_append.mpr ⟨m.srt,sX.sublist (List.drop_sublist _ _),m.la⟩⟩
 refine(m.perm.append_right _).trans ?_
 rw[List.take_of_length_le hj,List.append_assoc]
 refine(List.Perm.append_left _ List.perm_append_comm).trans ?_
 rw[← List.append_assoc,List.take_append_drop]
theorem ML.endL {X Y O:List Keyed}{i j:Nat}(m:ML rk X Y O i j) (sX:Asc rk X) (sY:Asc rk Y) (h:∀ y∈Y.drop j,∀ x∈X.drop i,rk y<rk x):(O++Y.drop j++X.drop i).Perm (X++Y)∧Asc rk (O++Y.drop j++X.drop i):=by
 refine⟨?_,List.pairwise_append.mpr ⟨List.pairwise_append.mpr ⟨m.srt,sY.sublist (List.drop_sublist _ _),m.lb⟩,sX.sublist (List.drop_sublist _ _),fun x hx y hy=>?_⟩⟩
 ·refine((m.perm.append_right _).append_right _).trans ?_
  rw[List.append_assoc (X.take i),List.take_append_drop]
  refine(List.perm_append_comm.append_right _).trans ?_
  rw[List.append_assoc,List.take_append_drop]
  exact List.perm_append_comm
 ·rcases List.mem_append.mp hx with hx|hx
  ·exact m.la x hx y hy
  ·exact h x hx y hy
theorem seg_asc {xs:Array Keyed}(h:Seg rk xs 0 xs.size):Asc rk xs.toList:=by
 unfold Asc
 rw[List.pairwise_iff_getElem]
 intro i j hi hj hij
 have:=h i j (Nat.zero_le _) hij (by simpa using hj)
 rw[R_at (by simpa using hi),R_at (by simpa using hj)] at this
 simpa using this
theorem asc_seg {xs:Array Keyed}(h:Asc rk xs.toList):Seg rk xs 0 xs.size:=fun i j a b c=>by
 unfold Asc at h
 rw[List.pairwise_iff_getElem] at h
 have:=h i j (by simp;omega) (by simpa using c) b
 rw[R_at (by omega),R_at c]
 simpa using this
theorem mem_drop_R {xs:Array Keyed}{i:Nat}{y:Keyed}(h:y∈xs.toList.drop i):∃ k,i≤k∧∃ hk:k<xs.size,y=xs[k]:=by
 obtain⟨n,hn,e⟩:=List.mem_iff_getElem.mp h
 rw[List.length_drop] at hn
 refine⟨i+n,by omega,by simp at hn;omega,?_⟩
 rw[← e,List.getElem_drop];simp
theorem mem_block_R {xs:Array Keyed}{i k:Nat}{y:Keyed}(h:y∈(xs.toList.drop i).take k):∃ n,n<k∧∃ hk:i+n<xs.size,y=xs[i+n]:=by
 obtain⟨n,hn,e⟩:=List.mem_iff_getElem.mp h
 rw[List.length_take,List.length_drop] at hn
 refine⟨n,by omega,by simp at hn;omega,?_⟩
 rw[← e,List.getElem_take,List.getElem_drop];simp
theorem falls_of {b:Nat→Bool}:∀ (n:Nat),(∀ i j,i≤j→j<n→b j=true→b i=true)→∃ k,Falls b n k
 | 0,_=>⟨0,Nat.le_refl _,fun i h=>by omega,fun i _ h=>by omega⟩
 | n+1,m=>by
  cases h:b n with
  | true=>exact⟨n+1,Nat.le_refl _,fun i hi=>m i n (by omega) (by omega) h,fun i a c=>by omega⟩
  | false=>
   obtain⟨k,h1,h2,h3⟩:=falls_of n fun i j a c=>m i j a (by omega)
   refine⟨k,by omega,h2,fun i a c=>?_⟩
   by_cases e:i=n
   ·rw[e];exact h
   ·exact h3 i a (by omega)
end
section
variable {prog:Program}{w:World}{A:Around}{E:Value→Shared→Prop}{s:Shared}{rk:Keyed→Int}{κ:SortKind}{a₀:Array Keyed}
theorem wpS_gallopR {st:SortSt}{key:Keyed}{arr:Array Keyed}{base n hint:Nat}{Q:Option Nat→SortSt→Prop}(C:Cmp prog w A s rk κ a₀.toList) (hk:kindOf st=κ) (mk:key∈a₀.toList) (ma:∀ i (h:base+i<arr.size),i<n→arr[base+i]∈a₀.toList)
  (hz:base+n≤arr.size) (hs:Seg rk arr base (base+n)) (hh:hint<n)
  (h:∀ k,k≤n→(∀ i,i<k→R rk arr (base+i)≤rk key)→(∀ i,k≤i→i<n→rk key<R rk arr (base+i))→Q (some k) st):wpS (model prog w) A E s (gallop' false key arr base n hint) Q st:=by
 obtain⟨k,hf⟩:=falls_of (b:=fun i=>!decide (rk key<R rk arr (base+i))) n fun i j hij hj e=>by
  simp only[Bool.not_eq_true',decide_eq_false_iff_not] at e ⊢
  by_cases q:i=j
  ·rw[q];exact e
  ·have:=hs (base+i) (base+j) (by omega) (by omega) (by omega)
   omega
 refine wpS_gallop (b:=fun i=>!decide (rk key<R rk arr (base+i))) (k:=k) (fun i hi Q' hq=>?_) hh hf (h k hf.1 (fun i hi=>?_) fun i a c=>?_)
 ·have hz':base+i<arr.size:=by omega
  refine wpS_bind (wpS_elem hz' ?_)
  simp only[Bool.false_eq_true,if_false]
  refine wpS_bind (wpS_lt C hk mk (ma i hz' hi) (wpS_pure ?_))
  rw[R_at hz'] at hq
  exact hq
 ·have:=hf.2.1 i hi
  simp only[Bool.not_eq_true',decide_eq_false_iff_not] at this
  omega
 ·have:=hf.2.2 i a c
  simpa using this
theorem wpS_gallopL {st:SortSt}{key:Keyed}{arr:Array Keyed}{base n hint:Nat}{Q:Option Nat→SortSt→Prop}(C:Cmp prog w A s rk κ a₀.toList) (hk:kindOf st=κ) (mk:key∈a₀.toList) (ma:∀ i (h:base+i<arr.size),i<n→arr[base+i]∈a₀.toList)
  (hz:base+n≤arr.size) (hs:Seg rk arr base (base+n)) (hh:hint<n)
  (h:∀ k,k≤n→(∀ i,i<k→R rk arr (base+i)<rk key)→(∀ i,k≤i→i<n→rk key≤R rk arr (base+i))→Q (some k) st):wpS (model prog w) A E s (gallop' true key arr base n hint) Q st:=by
 obtain⟨k,hf⟩:=falls_of (b:=fun i=>decide (R rk arr (base+i)<rk key)) n fun i j hij hj e=>by
  simp only[decide_eq_true_eq] at e ⊢
  by_cases q:i=j
  ·rw[q];exact e
  ·have:=hs (base+i) (base+j) (by omega) (by omega) (by omega)
   omega
 refine wpS_gallop (b:=fun i=>decide (R rk arr (base+i)<rk key)) (k:=k) (fun i hi Q' hq=>?_) hh hf (h k hf.1 (fun i hi=>?_) fun i a c=>?_)
 ·have hz':base+i<arr.size:=by omega
  refine wpS_bind (wpS_elem hz' ?_)
  simp only[if_true]
  refine wpS_lt C hk (ma i hz' hi) mk ?_
  rw[R_at hz'] at hq
  exact hq
 ·have:=hf.2.1 i hi
  simpa using this
 ·have:=hf.2.2 i a c
  simp only[decide_eq_false_iff_not] at this
  omega
theorem ext_block {a:Array Keyed}{i k:Nat}:(a.extract i (i+k)).toList=(a.toList.drop i).take k:=by
 rw[Array.toList_extract]
 simp
theorem ext_drop {a:Array Keyed}{i:Nat}:(a.extract i).toList=a.toList.drop i:=by
 rw[Array.toList_extract]
 simp
 exact List.take_of_length_le (by simp)
theorem one_block {a:Array Keyed}{i:Nat}(h:i<a.size):(a.toList.drop i).take 1=[a[i]]:=by
 rw[List.drop_eq_getElem_cons (by simpa using h)]
 simp
theorem Asc.ge {a:Array Keyed}(s:Asc rk a.toList) {i k:Nat}(h:i≤k) (hk:k<a.size):R rk a i≤R rk a k:=by
 by_cases e:i=k
 ·rw[e];exact Int.le_refl _
 ·exact Int.le_of_lt (asc_seg s i k (Nat.zero_le _) (by omega) hk)
theorem wpS_ite {σ α:Type}{M:Model}{c:Prop} [Decidable c] {x y:StateT σ Sem α}{Q:α→σ→Prop}{st:σ}(h1:c→wpS M A E s x Q st) (h2:¬ c→wpS M A E s y Q st):wpS M A E s (if c then x else y) Q st:=by
 by_cases h:c
 ·rw[if_pos h];exact h1 h
 ·rw[if_neg h];exact h2 h
def mergeLo':Array Keyed→Array Keyed→StateT SortSt Sem (Array Keyed):=sortPriv% PySem.Builtin.mergeLo
def mergeHi':Array Keyed→Array Keyed→StateT SortSt Sem (Array Keyed):=sortPriv% PySem.Builtin.mergeHi
def Like (st st':SortSt):Prop:=arrOf st'=arrOf st∧kindOf st'=kindOf st∧failedOf st'=failedOf st∧pendingOf st'=pendingOf st
theorem Like.refl {st:SortSt}:Like st st:=⟨rfl,rfl,rfl,rfl⟩
theorem Like.trans {a b c:SortSt}(h:Like a b) (k:Like b c):Like a c:=⟨k.1.trans h.1,k.2.1.trans h.2.1,k.2.2.1.trans h.2.2.1,k.2.2.2.trans h.2.2.2⟩
set_option maxHeartbeats 4000000 in
theorem wpS_mergeLo {st:SortSt}{a b:Array Keyed}{Q:Array Keyed→SortSt→Prop}(C:Cmp prog w A s rk κ a₀.toList) (hk:kindOf st=κ) (ma:∀ x∈a.toList,x∈a₀.toList) (mb:∀ x∈b.toList,x∈a₀.toList)
  (D:∀ i j,i<a.size→j<b.size→R rk a i≠R rk b j) (sa:Asc rk a.toList) (sb:Asc rk b.toList) (h1:1≤a.size) (h2:1≤b.size) (h0:∀ i,i<a.size→R rk b 0<R rk a i) (hl:∀ j,j<b.size→R rk b j<R rk a (a.size-1))
  (h:∀ (out:Array Keyed) st',Like st st'→out.toList.Perm (a.toList++b.toList)→Asc rk out.toList→Q out st'):wpS (model prog w) A E s (mergeLo' a b) Q st:=by
 have mA:∀ i (h:i<a.size),a[i]∈a₀.toList:=fun i h=>ma _ (by simp)
 have mB:∀ i (h:i<b.size),b[i]∈a₀.toList:=fun i h=>mb _ (by simp)
 have oneA:∀ {out:Array Keyed} {ia ib:Nat} (h:ia<a.size),ML rk a.toList b.toList out.toList ia ib→(∀ j,ib≤j→j<b.size→R rk a ia<R rk b j)→ML rk a.toList b.toList (out.push a[ia]).toList (ia+1) ib:=fun {out ia ib} h m q=>by
  have:=m.a (k:=1) sa fun y hy z hz=>by
   rw[one_block h,List.mem_singleton] at hy
   obtain⟨k,k1,k2,rfl⟩:=mem_drop_R hz
   have:=q k k1 k2
   rw[R_at h,R_at k2] at this
   rw[hy];exact this
  rw[one_block h] at this
  rw[Array.toList_push];exact this
 have oneB:∀ {out:Array Keyed} {ia ib:Nat} (h:ib<b.size),ML rk a.toList b.toList out.toList ia ib→(∀ j,ia≤j→j<a.size→R rk b ib<R rk a j)→ML rk a.toList b.toList (out.push b[ib]).toList ia (ib+1):=fun {out ia ib} h m q=>by
  have:=m.b (k:=1) sb fun y hy z hz=>by
   rw[one_block h,List.mem_singleton] at hy
   obtain⟨k,k1,k2,rfl⟩:=mem_drop_R hz
   have:=q k k1 k2
   rw[R_at h,R_at k2] at this
   rw[hy];exact this
  rw[one_block h] at this
  rw[Array.toList_push];exact this
 have blkA:∀ {out:Array Keyed} {ia ib k:Nat},ML rk a.toList b.toList out.toList ia ib→(∀ i,i<k→ia+i<a.size→∀ j,ib≤j→j<b.size→R rk a (ia+i)<R rk b j)→ML rk a.toList b.toList (out++a.extract ia (ia+k)).toList (ia+k) ib:=fun {out ia ib k} m q=>by
  rw[Array.toList_append,ext_block]
  refine m.a sa fun y hy z hz=>?_
  obtain⟨n,n1,n2,rfl⟩:=mem_block_R hy
  obtain⟨j,j1,j2,rfl⟩:=mem_drop_R hz
  have:=q n n1 n2 j j1 j2
  rw[R_at n2,R_at j2] at this
  exact this
 have blkB:∀ {out:Array Keyed} {ia ib k:Nat},ML rk a.toList b.toList out.toList ia ib→(∀ i,i<k→ib+i<b.size→∀ j,ia≤j→j<a.size→R rk b (ib+i)<R rk a j)→ML rk a.toList b.toList (out++b.extract ib (ib+k)).toList ia (ib+k):=fun {out ia ib k} m q=>by
  rw[Array.toList_append,ext_block]
  refine m.b sb fun y hy z hz=>?_
  obtain⟨n,n1,n2,rfl⟩:=mem_block_R hy
  obtain⟨j,j1,j2,rfl⟩:=mem_drop_R hz
  have:=q n n1 n2 j j1 j2
  rw[R_at n2,R_at j2] at this
  exact this
 have finB:∀ {out:Array Keyed} {ia ib:Nat},ML rk a.toList b.toList out.toList ia ib→b.size≤ib→(out++a.extract ia++b.extract ib).toList.Perm (a.toList++b.toList)∧Asc rk (out++a.extract ia++b.extract ib).toList:=fun {out ia ib} m q=>by
  rw[Array.toList_append,Array.toList_append,ext_drop,ext_drop,List.drop_of_length_le (l:=b.toList) (by simpa using q),List.append_nil]
  exact m.endA sa (by simpa using q)
 have finL:∀ {out:Array Keyed} {ia ib:Nat},ML rk a.toList b.toList out.toList ia ib→ia+1=a.size→(out++b.extract ib++a.extract ia).toList.Perm (a.toList++b.toList)∧Asc rk (out++b.extract ib++a.extract ia).toList:=fun {out ia ib} m q=>by
  rw[Array.toList_append,Array.toList_append,ext_drop,ext_drop]
  refine m.endL sa sb fun y hy x hx=>?_
  obtain⟨j,j1,j2,rfl⟩:=mem_drop_R hy
  obtain⟨i,i1,i2,rfl⟩:=mem_drop_R hx
  have e:i=a.size-1:=by omega
  have:=hl j j2
  rw[R_at j2,R_at (by omega)] at this
  subst e
  exact this
 change wpS (model prog w) A E s (bind _ _) Q st
 refine wpS_bind (wpS_lift (wpAny_rule ⟨rfl,?_⟩))
 dsimp only
 refine wpS_bind (wpS_elem (show 0<b.size by omega) ?_)
 have m0:ML rk a.toList b.toList (#[b[0]]:Array Keyed).toList 0 1:=by
  have:=oneB (out:=#[]) (ia:=0) (ib:=0) (show 0<b.size by omega) ⟨.nil,.nil,(fun x hx=>by cases hx),(fun x hx=>by cases hx)⟩ fun j _ hj=>h0 j hj
  exact this
 by_cases c1:1=b.size
 ·rw[if_pos (by simpa using c1)]
  obtain⟨p,q⟩:=finB m0 (Nat.le_of_eq c1.symm)
  exact wpS_pure (h _ _ .refl p q)
 rw[if_neg (by simpa using c1)]
 by_cases c2:0+1=a.size
 ·rw[if_pos (by simpa using c2)]
  obtain⟨p,q⟩:=finL m0 c2
  exact wpS_pure (h _ _ .refl p q)
 rw[if_neg (by simpa using c2)]
 refine wpS_bind (wpS_get ?_)
 refine wpS_bind (wpS_mono (wpS_forRange (I:=fun x c st'=>Like st st'∧∃ out ia ib mg,c=(none,out,ia,ib,mg)∧ML rk a.toList b.toList out.toList ia ib∧ia+1<a.size∧ib<b.size∧x≤ia+ib)
  (Q:=fun c st'=>Like st st'∧∃ r rest,c=(some r,rest)∧r.toList.Perm (a.toList++b.toList)∧Asc rk r.toList) ?step ?fin ?init) ?post)
 case init=>exact⟨.refl,_,0,1,_,rfl,m0,by omega,by omega,by omega⟩
 case fin=>
  rintro c st' ⟨lk,out,ia,ib,mg,rfl,m,e1,e2,e3⟩
  omega
 case post=>
  rintro c st' ⟨lk,r,rest,rfl,p,q⟩
  exact wpS_pure (h r st' lk p q)
 case step=>
  rintro x c st' _ hx ⟨lk,out,ia,ib,mg,rfl,m,e1,e2,e3⟩
  dsimp only
  refine wpS_bind (wpS_mono (wpS_forRange (I:=fun y c st''=>st''=st'∧∃ out ia' ib' ac bc,c=(none,out,ia',ib',ac,bc)∧ML rk a.toList b.toList out.toList ia' ib'∧ia'+1<a.size∧ib'<b.size∧ia+ib+y≤ia'+ib')
   (Q:=fun c st''=>st''=st'∧((∃ r rest,c=(some r,rest)∧r.toList.Perm (a.toList++b.toList)∧Asc rk r.toList)∨∃ out ia' ib' ac bc,c=(none,out,ia',ib',ac,bc)∧ML rk a.toList b.toList out.toList ia' ib'∧ia'+1<a.size∧ib'<b.size∧ia+ib<ia'+ib')) ?istep ?ifin ?iinit) ?ipost)
  case iinit=>exact⟨rfl,_,_,_,_,_,rfl,m,e1,e2,by omega⟩
  case ifin=>
   rintro c st'' ⟨rfl,out,ia',ib',ac,bc,rfl,m,f1,f2,f3⟩
   omega
  case istep=>
   rintro y c st'' _ hy ⟨rfl,out,ia',ib',ac,bc,rfl,m,f1,f2,f3⟩
   dsimp only
   refine wpS_bind (wpS_elem f2 (wpS_bind (wpS_elem (show ia'<a.size by omega) ?_)))
   refine wpS_bind (wpS_lt C (lk.2.1.trans hk) (mB _ f2) (mA _ (by omega)) ?_)
   have ra:R rk a ia'=rk a[ia']:=R_at (by omega)
   have rb:R rk b ib'=rk b[ib']:=R_at f2
   by_cases bw:rk b[ib']<rk a[ia']
   ·simp only[bw,decide_true,if_true]
    refine wpS_bind (wpS_elem f2 ?_)
    have m':=oneB f2 m fun j j1 j2=>by have:=sa.ge j1 j2;omega
    by_cases g:ib'+1=b.size
    ·rw[if_pos (by simpa using g)]
     exact wpS_pure ⟨rfl,.inl ⟨_,_,rfl,finB m' (Nat.le_of_eq g.symm)⟩⟩
    ·rw[if_neg (by simpa using g)]
     split
     ·exact wpS_pure ⟨rfl,.inr ⟨_,_,_,_,_,rfl,m',f1,by omega,by omega⟩⟩
     ·exact wpS_pure ⟨rfl,_,_,_,_,_,rfl,m',f1,by omega,by omega⟩
   ·simp only[bw,decide_false,Bool.false_eq_true,if_false]
    refine wpS_bind (wpS_elem (show ia'<a.size by omega) ?_)
    have nd:=D ia' ib' (by omega) f2
    have m':=oneA (show ia'<a.size by omega) m fun j j1 j2=>by have:=sb.ge j1 j2;omega
    by_cases g:ia'+1+1=a.size
    ·rw[if_pos (by simpa using g)]
     exact wpS_pure ⟨rfl,.inl ⟨_,_,rfl,finL m' g⟩⟩
    ·rw[if_neg (by simpa using g)]
     split
     ·exact wpS_pure ⟨rfl,.inr ⟨_,_,_,_,_,rfl,m',by omega,f2,by omega⟩⟩
     ·exact wpS_pure ⟨rfl,_,_,_,_,_,rfl,m',by omega,f2,by omega⟩
  case ipost=>
   rintro c st'' ⟨rfl,⟨r,rest,rfl,p,q⟩|⟨out,ia',ib',ac,bc,rfl,m,f1,f2,f3⟩⟩
   ·exact wpS_pure ⟨lk,r,_,rfl,p,q⟩
   dsimp only
   refine wpS_bind (wpS_lift (wpAny_rule ⟨rfl,?_⟩))
   refine wpS_bind (wpS_mono (wpS_forRange (I:=fun y c st''=>Like st st''∧∃ out i j mg ac bc,c=(none,out,i,j,mg,ac,bc)∧ML rk a.toList b.toList out.toList i j∧i+1<a.size∧j<b.size∧ia'+ib'+y≤i+j)
    (Q:=fun c st''=>Like st st''∧((∃ r rest,c=(some r,rest)∧r.toList.Perm (a.toList++b.toList)∧Asc rk r.toList)∨∃ out i j mg ac bc,c=(none,out,i,j,mg,ac,bc)∧ML rk a.toList b.toList out.toList i j∧i+1<a.size∧j<b.size∧ia'+ib'≤i+j)) ?gstep ?gfin ?ginit) ?gpost)
   case ginit=>exact⟨lk,_,_,_,_,_,_,rfl,m,f1,f2,by omega⟩
   case gfin=>
    rintro c st3 ⟨lk3,out,i,j,mg,ac,bc,rfl,m,g1,g2,g3⟩
    omega
   case gpost=>
    rintro c st3 ⟨lk3,⟨r,rest,rfl,p,q⟩|⟨out,i,j,mg,ac,bc,rfl,m,g1,g2,g3⟩⟩
    ·exact wpS_pure ⟨lk3,r,_,rfl,p,q⟩
    ·dsimp only
     refine wpS_bind (wpS_modify (wpS_pure ⟨lk3.trans ⟨rfl,rfl,rfl,rfl⟩,_,_,_,_,rfl,m,g1,g2,by omega⟩))
   case gstep=>
    rintro y c st3 _ hy ⟨lk3,out,i,j,mg,ac,bc,rfl,m,g1,g2,g3⟩
    refine wpS_ite (fun _=>?_) fun _=>?_
    all_goals (
     refine wpS_bind (wpS_modify ?_)
     refine wpS_bind (wpS_elem (xs:=b) (i:=j) g2 ?_)
     refine wpS_bind (wpS_gallopR (arr:=a) (base:=i) (n:=a.size-i) (hint:=0) (key:=b[j]) C (lk3.2.1.trans hk) (mB _ g2) (fun n hn _=>mA _ hn) (by omega) (fun p q a b c=>asc_seg sa p q (Nat.zero_le _) b (by omega)) (by omega) fun k k1 k2 k3=>?_)
     have rb:R rk b j=rk b[j]:=R_at g2
     have kl:i+k<a.size:=by
      refine Nat.lt_of_not_le fun z=>?_
      have h3:=k2 (a.size-1-i) (by omega)
      rw[show i+(a.size-1-i)=a.size-1 by omega] at h3
      have:=hl j g2
      omega
     have mA':=blkA (k:=k) m fun n n1 n2 q q1 q2=>by
      have h3:=k2 n n1
      have h4:=D (i+n) j n2 g2
      have h5:=sb.ge q1 q2
      omega
     have after:∀ n,i+k≤n→n<a.size→R rk b j<R rk a n:=fun n n1 n2=>by
      have h3:=k3 (n-i) (by omega) (by omega)
      rw[show i+(n-i)=n by omega] at h3
      omega
     refine wpS_ite (fun k0=>wpS_ite (fun c1=>wpS_pure ⟨lk3.trans ⟨rfl,rfl,rfl,rfl⟩,.inl ⟨_,_,rfl,finL mA' (by simpa using c1)⟩⟩) fun c1=>wpS_ite (fun c2=>absurd (show i+k=a.size by simpa using c2) (by omega)) fun c2=>?_) fun k0=>?_
     ·have L1:i+k+1<a.size:=by
       have:¬ i+k+1=a.size:=by simpa using c1
       omega
      have M1:=mA'
      have P1:=after
      refine wpS_bind (wpS_elem (xs:=b) (i:=j) g2 ?_)
      have M2:=oneB g2 M1 P1
      have A1:i+k<a.size:=by omega
      refine wpS_ite (fun c3=>wpS_pure ⟨lk3.trans ⟨rfl,rfl,rfl,rfl⟩,.inl ⟨_,_,rfl,finB M2 (Nat.le_of_eq (Eq.symm (show j+1=b.size by simpa using c3)))⟩⟩) fun c3=>?_
      have c3':j+1<b.size:=by
       have:¬ j+1=b.size:=by simpa using c3
       omega
      refine wpS_bind (wpS_elem (xs:=a) (i:=i+k) A1 ?_)
      refine wpS_bind (wpS_gallopL (key:=a[i+k]) (arr:=b) (base:=j+1) (n:=b.size-(j+1)) (hint:=0) C (lk3.2.1.trans hk) (mA _ A1) (fun n hn _=>mB _ hn) (by omega) (fun p q a b c=>asc_seg sb p q (Nat.zero_le _) b (by omega)) (by omega) fun k' k1' k2' k3'=>?_)
      have ra:R rk a (i+k)=rk a[i+k]:=R_at A1
      have mB':=blkB (k:=k') M2 fun n n1 n2 q q1 q2=>by
       have h3:=k2' n n1
       have h5:=sa.ge q1 q2
       omega
      have after':∀ n,j+1+k'≤n→n<b.size→R rk a (i+k)<R rk b n:=fun n n1 n2=>by
       have h3:=k3' (n-(j+1)) (by omega) (by omega)
       rw[show j+1+(n-(j+1))=n by omega] at h3
       have h4:=D (i+k) n A1 n2
       omega
      refine wpS_ite (fun d0=>wpS_ite (fun d1=>wpS_pure ⟨lk3.trans ⟨rfl,rfl,rfl,rfl⟩,.inl ⟨_,_,rfl,finB mB' (Nat.le_of_eq (Eq.symm (show j+1+k'=b.size by simpa using d1)))⟩⟩) fun d1=>?_) fun d0=>?_
      ·have d1':j+1+k'<b.size:=by
        have:¬ j+1+k'=b.size:=by simpa using d1
        omega
       refine wpS_bind (wpS_elem (xs:=a) (i:=i+k) A1 ?_)
       have M4:=oneA A1 mB' fun n n1 n2=>after' n (by omega) n2
       refine wpS_ite (fun e=>wpS_pure ⟨lk3.trans ⟨rfl,rfl,rfl,rfl⟩,.inl ⟨_,_,rfl,finL M4 (show i+k+1+1=a.size by simpa using e)⟩⟩) fun e=>?_
       have e':i+k+1+1<a.size:=by
        have:¬ i+k+1+1=a.size:=by simpa using e
        omega
       refine wpS_ite (fun _=>wpS_pure ⟨lk3.trans ⟨rfl,rfl,rfl,rfl⟩,.inr ⟨_,i+k+1,j+1+k',_,_,_,rfl,M4,e',by omega,by omega⟩⟩) fun _=>wpS_pure ⟨lk3.trans ⟨rfl,rfl,rfl,rfl⟩,_,i+k+1,j+1+k',_,_,_,rfl,M4,e',by omega,by omega⟩
      ·have d00:k'=0:=by omega
       refine wpS_bind (wpS_elem (xs:=a) (i:=i+k) A1 ?_)
       have M4:=oneA A1 M2 fun n n1 n2=>after' n (by omega) n2
       refine wpS_ite (fun e=>wpS_pure ⟨lk3.trans ⟨rfl,rfl,rfl,rfl⟩,.inl ⟨_,_,rfl,finL M4 (show i+k+1+1=a.size by simpa using e)⟩⟩) fun e=>?_
       have e':i+k+1+1<a.size:=by
        have:¬ i+k+1+1=a.size:=by simpa using e
        omega
       refine wpS_ite (fun _=>wpS_pure ⟨lk3.trans ⟨rfl,rfl,rfl,rfl⟩,.inr ⟨_,i+k+1,j+1,_,_,_,rfl,M4,e',by omega,by omega⟩⟩) fun _=>wpS_pure ⟨lk3.trans ⟨rfl,rfl,rfl,rfl⟩,_,i+k+1,j+1,_,_,_,rfl,M4,e',by omega,by omega⟩
     ·have L1:=g1
      have M1:=m
      have P1:∀ n,i≤n→n<a.size→R rk b j<R rk a n:=fun n n1 n2=>after n (by omega) n2
      refine wpS_bind (wpS_elem (xs:=b) (i:=j) g2 ?_)
      have M2:=oneB g2 M1 P1
      have A1:i<a.size:=by omega
      refine wpS_ite (fun c3=>wpS_pure ⟨lk3.trans ⟨rfl,rfl,rfl,rfl⟩,.inl ⟨_,_,rfl,finB M2 (Nat.le_of_eq (Eq.symm (show j+1=b.size by simpa using c3)))⟩⟩) fun c3=>?_
      have c3':j+1<b.size:=by
       have:¬ j+1=b.size:=by simpa using c3
       omega
      refine wpS_bind (wpS_elem (xs:=a) (i:=i) A1 ?_)
      refine wpS_bind (wpS_gallopL (key:=a[i]) (arr:=b) (base:=j+1) (n:=b.size-(j+1)) (hint:=0) C (lk3.2.1.trans hk) (mA _ A1) (fun n hn _=>mB _ hn) (by omega) (fun p q a b c=>asc_seg sb p q (Nat.zero_le _) b (by omega)) (by omega) fun k' k1' k2' k3'=>?_)
      have ra:R rk a (i)=rk a[i]:=R_at A1
      have mB':=blkB (k:=k') M2 fun n n1 n2 q q1 q2=>by
       have h3:=k2' n n1
       have h5:=sa.ge q1 q2
       omega
      have after':∀ n,j+1+k'≤n→n<b.size→R rk a (i)<R rk b n:=fun n n1 n2=>by
       have h3:=k3' (n-(j+1)) (by omega) (by omega)
       rw[show j+1+(n-(j+1))=n by omega] at h3
       have h4:=D (i) n A1 n2
       omega
      refine wpS_ite (fun d0=>wpS_ite (fun d1=>wpS_pure ⟨lk3.trans ⟨rfl,rfl,rfl,rfl⟩,.inl ⟨_,_,rfl,finB mB' (Nat.le_of_eq (Eq.symm (show j+1+k'=b.size by simpa using d1)))⟩⟩) fun d1=>?_) fun d0=>?_
      ·have d1':j+1+k'<b.size:=by
        have:¬ j+1+k'=b.size:=by simpa using d1
        omega
       refine wpS_bind (wpS_elem (xs:=a) (i:=i) A1 ?_)
       have M4:=oneA A1 mB' fun n n1 n2=>after' n (by omega) n2
       refine wpS_ite (fun e=>wpS_pure ⟨lk3.trans ⟨rfl,rfl,rfl,rfl⟩,.inl ⟨_,_,rfl,finL M4 (show i+1+1=a.size by simpa using e)⟩⟩) fun e=>?_
       have e':i+1+1<a.size:=by
        have:¬ i+1+1=a.size:=by simpa using e
        omega
       refine wpS_ite (fun _=>wpS_pure ⟨lk3.trans ⟨rfl,rfl,rfl,rfl⟩,.inr ⟨_,i+1,j+1+k',_,_,_,rfl,M4,e',by omega,by omega⟩⟩) fun _=>wpS_pure ⟨lk3.trans ⟨rfl,rfl,rfl,rfl⟩,_,i+1,j+1+k',_,_,_,rfl,M4,e',by omega,by omega⟩
      ·have d00:k'=0:=by omega
       refine wpS_bind (wpS_elem (xs:=a) (i:=i) A1 ?_)
       have M4:=oneA A1 M2 fun n n1 n2=>after' n (by omega) n2
       refine wpS_ite (fun e=>wpS_pure ⟨lk3.trans ⟨rfl,rfl,rfl,rfl⟩,.inl ⟨_,_,rfl,finL M4 (show i+1+1=a.size by simpa using e)⟩⟩) fun e=>?_
       have e':i+1+1<a.size:=by
        have:¬ i+1+1=a.size:=by simpa using e
        omega
       refine wpS_ite (fun _=>wpS_pure ⟨lk3.trans ⟨rfl,rfl,rfl,rfl⟩,.inr ⟨_,i+1,j+1,_,_,_,rfl,M4,e',by omega,by omega⟩⟩) fun _=>wpS_pure ⟨lk3.trans ⟨rfl,rfl,rfl,rfl⟩,_,i+1,j+1,_,_,_,rfl,M4,e',by omega,by omega⟩)
end
end Tim
set_option Elab.async false
set_option linter.all false
set_option maxRecDepth 100000
namespace Tim
open PySem PyProof.Rows
section
variable {rk:Keyed→Int}
abbrev ng (rk:Keyed→Int):Keyed→Int:=fun x=>- rk x
theorem asc_rev {l:List Keyed}:Asc (ng rk) l↔Asc rk l.reverse:=by
 unfold Asc ng
 rw[List.pairwise_reverse]
 constructor
 ·exact fun h=>h.imp fun h=>by omega
 ·exact fun h=>h.imp fun h=>by omega
theorem drop_rev {a:Array Keyed}{na:Nat}(h:na≤a.size):a.toList.reverse.drop (a.size-na)=(a.toList.take na).reverse:=by
 rw[List.drop_reverse]
 congr 2
 simp;omega
theorem mem_drop_rev {a:Array Keyed}{na:Nat}(h:na≤a.size) {y:Keyed}(hy:y∈a.toList.reverse.drop (a.size-na)):∃ k,k<na∧∃ hk:k<a.size,y=a[k]:=by
 rw[drop_rev h,List.mem_reverse] at hy
 obtain⟨n,hn,e⟩:=List.mem_iff_getElem.mp hy
 rw[List.length_take] at hn
 refine⟨n,by omega,by omega,?_⟩
 rw[← e,List.getElem_take];simp
theorem block_rev {a:Array Keyed}{na at_:Nat}(h:na≤a.size) (h2:at_≤na):(a.toList.reverse.drop (a.size-na)).take (na-at_)=(a.extract at_ na).toList.reverse:=by
 rw[drop_rev h,List.take_reverse,Array.toList_extract]
 congr 1
 rw[List.length_take,Array.length_toList,Nat.min_eq_left h,show na-(na-at_)=at_ by omega,List.extract_eq_drop_take',List.drop_take]
theorem mem_block_rev {a:Array Keyed}{na at_:Nat}(h:na≤a.size) (h2:at_≤na) {y:Keyed}(hy:y∈(a.toList.reverse.drop (a.size-na)).take (na-at_)):∃ n,at_≤n∧n<na∧∃ hk:n<a.size,y=a[n]:=by
 rw[block_rev h h2,List.mem_reverse,Array.toList_extract,List.extract_eq_drop_take'] at hy
 obtain⟨n,hn,e⟩:=List.mem_iff_getElem.mp hy
 simp at hn
 refine⟨at_+n,by omega,by omega,by omega,?_⟩
 rw[← e];simp
theorem one_rev {a:Array Keyed}{na:Nat}(h:na+1≤a.size):(a.toList.reverse.drop (a.size-(na+1))).take 1=[a[na]]:=by
 have:=block_rev (a:=a) (na:=na+1) (at_:=na) h (by omega)
 rw[show na+1-na=1 by omega] at this
 rw[this,Array.toList_extract]
 simp
 rw[List.drop_eq_getElem_cons (by simp;omega)]
 simp
end
section
variable {prog:Program}{w:World}{A:Around}{E:Value→Shared→Prop}{s:Shared}{rk:Keyed→Int}{κ:SortKind}{a₀:Array Keyed}
set_option maxHeartbeats 4000000 in
theorem wpS_mergeHi {st:SortSt}{a b:Array Keyed}{Q:Array Keyed→SortSt→Prop}(C:Cmp prog w A s rk κ a₀.toList) (hk:kindOf st=κ) (ma:∀ x∈a.toList,x∈a₀.toList) (mb:∀ x∈b.toList,x∈a₀.toList)
  (D:∀ i j,i<a.size→j<b.size→R rk a i≠R rk b j) (sa:Asc rk a.toList) (sb:Asc rk b.toList) (h1:1≤a.size) (h2:1≤b.size) (h0:∀ i,i<a.size→R rk b 0<R rk a i) (hl:∀ j,j<b.size→R rk b j<R rk a (a.size-1))
  (h:∀ (out:Array Keyed) st',Like st st'→out.toList.Perm (a.toList++b.toList)→Asc rk out.toList→Q out st'):wpS (model prog w) A E s (mergeHi' a b) Q st:=by
 have mA:∀ i (h:i<a.size),a[i]∈a₀.toList:=fun i h=>ma _ (by simp)
 have mB:∀ i (h:i<b.size),b[i]∈a₀.toList:=fun i h=>mb _ (by simp)
 have sa':Asc (ng rk) a.toList.reverse:=asc_rev.mpr (by rw[List.reverse_reverse];exact sa)
 have sb':Asc (ng rk) b.toList.reverse:=asc_rev.mpr (by rw[List.reverse_reverse];exact sb)
 have oneA:∀ {out:Array Keyed} {na nb:Nat} (h:na+1≤a.size),nb≤b.size→ML (ng rk) a.toList.reverse b.toList.reverse out.toList (a.size-(na+1)) (b.size-nb)→(∀ j,j<nb→R rk b j<R rk a na)→ML (ng rk) a.toList.reverse b.toList.reverse (out.push a[na]).toList (a.size-na) (b.size-nb):=fun {out na nb} h hn m q=>by
  have:=m.a (k:=1) sa' fun y hy z hz=>by
   rw[one_rev h,List.mem_singleton] at hy
   obtain⟨k,k1,k2,rfl⟩:=mem_drop_rev hn hz
   have:=q k k1
   rw[R_at (show na<a.size by lia),R_at k2] at this
   rw[hy];show-_ < - _;lia
  rw[one_rev h,show a.size-(na+1)+1=a.size-na by lia] at this
  rw[Array.toList_push];exact this
 have oneB:∀ {out:Array Keyed} {na nb:Nat} (h:nb+1≤b.size),na≤a.size→ML (ng rk) a.toList.reverse b.toList.reverse out.toList (a.size-na) (b.size-(nb+1))→(∀ j,j<na→R rk a j<R rk b nb)→ML (ng rk) a.toList.reverse b.toList.reverse (out.push b[nb]).toList (a.size-na) (b.size-nb):=fun {out na nb} h hn m q=>by
  have:=m.b (k:=1) sb' fun y hy z hz=>by
   rw[one_rev h,List.mem_singleton] at hy
   obtain⟨k,k1,k2,rfl⟩:=mem_drop_rev hn hz
   have:=q k k1
   rw[R_at (show nb<b.size by lia),R_at k2] at this
   rw[hy];show-_ < - _;lia
  rw[one_rev h,show b.size-(nb+1)+1=b.size-nb by lia] at this
  rw[Array.toList_push];exact this
 have blkA:∀ {out:Array Keyed} {na nb at_:Nat},na≤a.size→nb≤b.size→at_≤na→ML (ng rk) a.toList.reverse b.toList.reverse out.toList (a.size-na) (b.size-nb)→(∀ i,at_≤i→i<na→∀ j,j<nb→R rk b j<R rk a i)→ML (ng rk) a.toList.reverse b.toList.reverse (out++(a.extract at_ na).reverse).toList (a.size-at_) (b.size-nb):=fun {out na nb at_} h hn hat m q=>by
  have:=m.a (k:=na-at_) sa' fun y hy z hz=>by
   obtain⟨n,n1,n2,n3,rfl⟩:=mem_block_rev h hat hy
   obtain⟨j,j1,j2,rfl⟩:=mem_drop_rev hn hz
   have:=q n n1 n2 j j1
   rw[R_at n3,R_at j2] at this
   show-_ < - _;lia
  rw[block_rev h hat,show a.size-na+(na-at_)=a.size-at_ by lia] at this
  rw[Array.toList_append,Array.toList_reverse];exact this
 have blkB:∀ {out:Array Keyed} {na nb at_:Nat},na≤a.size→nb≤b.size→at_≤nb→ML (ng rk) a.toList.reverse b.toList.reverse out.toList (a.size-na) (b.size-nb)→(∀ i,at_≤i→i<nb→∀ j,j<na→R rk a j<R rk b i)→ML (ng rk) a.toList.reverse b.toList.reverse (out++(b.extract at_ nb).reverse).toList (a.size-na) (b.size-at_):=fun {out na nb at_} h hn hat m q=>by
  have:=m.b (k:=nb-at_) sb' fun y hy z hz=>by
   obtain⟨n,n1,n2,n3,rfl⟩:=mem_block_rev hn hat hy
   obtain⟨j,j1,j2,rfl⟩:=mem_drop_rev h hz
   have:=q n n1 n2 j j1
   rw[R_at n3,R_at j2] at this
   show-_ < - _;lia
  rw[block_rev hn hat,show b.size-nb+(nb-at_)=b.size-at_ by lia] at this
  rw[Array.toList_append,Array.toList_reverse];exact this
 have ext0:∀ {c:Array Keyed} {n:Nat},n≤c.size→(c.extract 0 n).toList=(c.toList.reverse.drop (c.size-n)).reverse:=fun {c n} h=>by
  rw[drop_rev h,List.reverse_reverse,Array.toList_extract];simp
 have finA:∀ {out:Array Keyed} {na nb:Nat},na=0→nb≤b.size→ML (ng rk) a.toList.reverse b.toList.reverse out.toList (a.size-na) (b.size-nb)→(a.extract 0 na++b.extract 0 nb++out.reverse).toList.Perm (a.toList++b.toList)∧Asc rk (a.extract 0 na++b.extract 0 nb++out.reverse).toList:=fun {out na nb} e hn m=>by
  subst e
  obtain⟨p,q⟩:=m.swap.endA sb' (by simp)
  have e:(a.extract 0 0++b.extract 0 nb++out.reverse).toList=(out.toList++b.toList.reverse.drop (b.size-nb)).reverse:=by
   rw[Array.toList_append,Array.toList_append,Array.toList_reverse,ext0 hn,List.reverse_append];simp
  rw[e]
  refine⟨((List.reverse_perm _).trans p).trans ?_,asc_rev.mp q⟩
  exact((List.reverse_perm _).append (List.reverse_perm _)).trans List.perm_append_comm
 have finF:∀ {out:Array Keyed} {na nb:Nat},nb=1→na≤a.size→ML (ng rk) a.toList.reverse b.toList.reverse out.toList (a.size-na) (b.size-nb)→(b.extract 0 nb++a.extract 0 na++out.reverse).toList.Perm (a.toList++b.toList)∧Asc rk (b.extract 0 nb++a.extract 0 na++out.reverse).toList:=fun {out na nb} e hn m=>by
  subst e
  obtain⟨p,q⟩:=m.swap.endL sb' sa' fun y hy x hx=>by
   obtain⟨i,i1,i2,rfl⟩:=mem_drop_rev hn hy
   obtain⟨j,j1,j2,rfl⟩:=mem_drop_rev h2 hx
   have e0:j=0:=by lia
   subst e0
   have:=h0 i i2
   rw[R_at i2,R_at j2] at this
   show-_ < - _;lia
  have e:(b.extract 0 1++a.extract 0 na++out.reverse).toList=(out.toList++a.toList.reverse.drop (a.size-na)++b.toList.reverse.drop (b.size-1)).reverse:=by
   rw[Array.toList_append,Array.toList_append,Array.toList_reverse,ext0 hn,ext0 h2,List.reverse_append,List.reverse_append,List.append_assoc]
  rw[e]
  refine⟨((List.reverse_perm _).trans p).trans ?_,asc_rev.mp q⟩
  exact((List.reverse_perm _).append (List.reverse_perm _)).trans List.perm_append_comm
 have oneA':∀ {out:Array Keyed} {na nb:Nat} (h:na-1<a.size),1≤na→nb≤b.size→ML (ng rk) a.toList.reverse b.toList.reverse out.toList (a.size-na) (b.size-nb)→(∀ j,j<nb→R rk b j<R rk a (na-1))→ML (ng rk) a.toList.reverse b.toList.reverse (out.push a[na-1]).toList (a.size-(na-1)) (b.size-nb):=fun {out na nb} h p hn m q=>by
  obtain⟨z,rfl⟩:∃ z,na=z+1:=⟨na-1,by lia⟩
  exact oneA (na:=z) (by lia) hn m q
 have oneB':∀ {out:Array Keyed} {na nb:Nat} (h:nb-1<b.size),1≤nb→na≤a.size→ML (ng rk) a.toList.reverse b.toList.reverse out.toList (a.size-na) (b.size-nb)→(∀ j,j<na→R rk a j<R rk b (nb-1))→ML (ng rk) a.toList.reverse b.toList.reverse (out.push b[nb-1]).toList (a.size-na) (b.size-(nb-1)):=fun {out na nb} h p hn m q=>by
  obtain⟨z,rfl⟩:∃ z,nb=z+1:=⟨nb-1,by lia⟩
  exact oneB (nb:=z) (by lia) hn m q
 change wpS (model prog w) A E s (bind _ _) Q st
 refine wpS_bind (wpS_lift (wpAny_rule ⟨rfl,?_⟩))
 dsimp only
 refine wpS_bind (wpS_elem (show a.size-1<a.size by lia) ?_)
 have m0:ML (ng rk) a.toList.reverse b.toList.reverse (#[a[a.size-1]]:Array Keyed).toList (a.size-(a.size-1)) (b.size-b.size):=by
  have:=oneA (out:=#[]) (na:=a.size-1) (nb:=b.size) (by lia) (Nat.le_refl _) (by
   rw[show a.size-(a.size-1+1)=0 by lia,Nat.sub_self]
   exact⟨.nil,.nil,(fun x hx=>by cases hx),(fun x hx=>by cases hx)⟩) fun j hj=>hl j hj
  exact this
 refine wpS_ite (fun c1=>?_) fun c1=>?_
 ·obtain⟨p,q⟩:=finA (na:=a.size-1) (by simpa using c1) (Nat.le_refl _) m0
  exact wpS_pure (h _ _ .refl p q)
 have c1':1<a.size:=by
  have:¬ a.size-1=0:=by simpa using c1
  lia
 refine wpS_ite (fun c2=>?_) fun c2=>?_
 ·obtain⟨p,q⟩:=finF (nb:=b.size) (by simpa using c2) (by lia) m0
  exact wpS_pure (h _ _ .refl p q)
 have c2':1<b.size:=by
  have:¬ b.size=1:=by simpa using c2
  lia
 refine wpS_bind (wpS_get ?_)
 refine wpS_bind (wpS_mono (wpS_forRange (I:=fun x c st'=>Like st st'∧∃ na nb out mg,c=(none,na,nb,out,mg)∧ML (ng rk) a.toList.reverse b.toList.reverse out.toList (a.size-na) (b.size-nb)∧1≤na∧na≤a.size∧2≤nb∧nb≤b.size∧x+na+nb≤a.size+b.size)
  (Q:=fun c st'=>Like st st'∧∃ r rest,c=(some r,rest)∧r.toList.Perm (a.toList++b.toList)∧Asc rk r.toList) ?step ?fin ?init) ?post)
 case init=>exact⟨.refl,a.size-1,b.size,_,_,rfl,m0,by lia,by lia,by lia,by lia,by lia⟩
 case fin=>
  rintro c st' ⟨lk,na,nb,out,mg,rfl,m,e1,e2,e3,e4,e5⟩
  lia
 case post=>
  rintro c st' ⟨lk,r,rest,rfl,p,q⟩
  exact wpS_pure (h r st' lk p q)
 case step=>
  rintro x c st' _ hx ⟨lk,na,nb,out,mg,rfl,m,e1,e2,e3,e4,e5⟩
  refine wpS_bind (wpS_mono (wpS_forRange (I:=fun y c st''=>st''=st'∧∃ na' nb' out ac bc,c=(none,na',nb',out,ac,bc)∧ML (ng rk) a.toList.reverse b.toList.reverse out.toList (a.size-na') (b.size-nb')∧1≤na'∧na'≤a.size∧2≤nb'∧nb'≤b.size∧y+na'+nb'≤na+nb)
   (Q:=fun c st''=>st''=st'∧((∃ r rest,c=(some r,rest)∧r.toList.Perm (a.toList++b.toList)∧Asc rk r.toList)∨∃ na' nb' out ac bc,c=(none,na',nb',out,ac,bc)∧ML (ng rk) a.toList.reverse b.toList.reverse out.toList (a.size-na') (b.size-nb')∧1≤na'∧na'≤a.size∧2≤nb'∧nb'≤b.size∧na'+nb'<na+nb)) ?istep ?ifin ?iinit) ?ipost)
  case iinit=>exact⟨rfl,na,nb,out,_,_,rfl,m,e1,e2,e3,e4,by lia⟩
  case ifin=>
   rintro c st'' ⟨rfl,na',nb',out,ac,bc,rfl,m,f1,f2,f3,f4,f5⟩
   lia
  case istep=>
   rintro y c st'' _ hy ⟨rfl,na',nb',out,ac,bc,rfl,m,f1,f2,f3,f4,f5⟩
   have A1:na'-1<a.size:=by lia
   have B1:nb'-1<b.size:=by lia
   refine wpS_bind (wpS_elem (xs:=b) (i:=nb'-1) B1 (wpS_bind (wpS_elem (xs:=a) (i:=na'-1) A1 ?_)))
   refine wpS_bind (wpS_lt C (lk.2.1.trans hk) (mB _ B1) (mA _ A1) ?_)
   have ra:R rk a (na'-1)=rk a[na'-1]:=R_at A1
   have rb:R rk b (nb'-1)=rk b[nb'-1]:=R_at B1
   by_cases bw:rk b[nb'-1]<rk a[na'-1]
   ·simp only[bw,decide_true,if_true]
    refine wpS_bind (wpS_elem (xs:=a) (i:=na'-1) A1 ?_)
    have m':=oneA' A1 f1 f4 m fun j j1=>by have:=sb.ge (show j≤nb'-1 by lia) B1;lia
    refine wpS_ite (fun g=>wpS_pure ⟨rfl,.inl ⟨_,_,rfl,finA (na:=na'-1) (by simpa using g) f4 m'⟩⟩) fun g=>?_
    have g':¬ na'-1=0:=by simpa using g
    refine wpS_ite (fun _=>wpS_pure ⟨rfl,.inr ⟨na'-1,nb',_,_,_,rfl,m',by lia,by lia,f3,f4,by lia⟩⟩) fun _=>wpS_pure ⟨rfl,na'-1,nb',_,_,_,rfl,m',by lia,by lia,f3,f4,by lia⟩
   ·simp only[bw,decide_false,Bool.false_eq_true,if_false]
    refine wpS_bind (wpS_elem (xs:=b) (i:=nb'-1) B1 ?_)
    have nd:=D (na'-1) (nb'-1) A1 B1
    have m':=oneB' B1 (by lia) f2 m fun j j1=>by have:=sa.ge (show j≤na'-1 by lia) A1;lia
    refine wpS_ite (fun g=>wpS_pure ⟨rfl,.inl ⟨_,_,rfl,finF (nb:=nb'-1) (by simpa using g) f2 m'⟩⟩) fun g=>?_
    have g':¬ nb'-1=1:=by simpa using g
    refine wpS_ite (fun _=>wpS_pure ⟨rfl,.inr ⟨na',nb'-1,_,_,_,rfl,m',f1,f2,by lia,by lia,by lia⟩⟩) fun _=>wpS_pure ⟨rfl,na',nb'-1,_,_,_,rfl,m',f1,f2,by lia,by lia,by lia⟩
  case ipost=>
   rintro c st'' ⟨rfl,⟨r,rest,rfl,p,q⟩|⟨na',nb',out,ac,bc,rfl,m,f1,f2,f3,f4,f5⟩⟩
   ·exact wpS_pure ⟨lk,r,_,rfl,p,q⟩
   refine wpS_bind (wpS_lift (wpAny_rule ⟨rfl,?_⟩))
   refine wpS_bind (wpS_mono (wpS_forRange (I:=fun y c st''=>Like st st''∧∃ i j out mg ac bc,c=(none,i,j,out,mg,ac,bc)∧ML (ng rk) a.toList.reverse b.toList.reverse out.toList (a.size-i) (b.size-j)∧1≤i∧i≤a.size∧2≤j∧j≤b.size∧y+i+j≤na'+nb')
    (Q:=fun c st''=>Like st st''∧((∃ r rest,c=(some r,rest)∧r.toList.Perm (a.toList++b.toList)∧Asc rk r.toList)∨∃ i j out mg ac bc,c=(none,i,j,out,mg,ac,bc)∧ML (ng rk) a.toList.reverse b.toList.reverse out.toList (a.size-i) (b.size-j)∧1≤i∧i≤a.size∧2≤j∧j≤b.size∧i+j≤na'+nb')) ?gstep ?gfin ?ginit) ?gpost)
   case ginit=>exact⟨lk,na',nb',out,_,_,_,rfl,m,f1,f2,f3,f4,by lia⟩
   case gfin=>
    rintro c st3 ⟨lk3,i,j,out,mg,ac,bc,rfl,m,g1,g2,g3,g4,g5⟩
    lia
   case gpost=>
    rintro c st3 ⟨lk3,⟨r,rest,rfl,p,q⟩|⟨i,j,out,mg,ac,bc,rfl,m,g1,g2,g3,g4,g5⟩⟩
    ·exact wpS_pure ⟨lk3,r,_,rfl,p,q⟩
    ·refine wpS_bind (wpS_modify (wpS_pure ⟨lk3.trans ⟨rfl,rfl,rfl,rfl⟩,i,j,out,_,rfl,m,g1,g2,g3,g4,by lia⟩))
   case gstep=>
    rintro y c st3 _ hy ⟨lk3,i,j,out,mg,ac,bc,rfl,m,g1,g2,g3,g4,g5⟩
    have B1:j-1<b.size:=by lia
    have rb:R rk b (j-1)=rk b[j-1]:=R_at B1
    refine wpS_ite (fun _=>?_) fun _=>?_
    all_goals (
     refine wpS_bind (wpS_modify ?_)
     refine wpS_bind (wpS_elem (xs:=b) (i:=j-1) B1 ?_)
     refine wpS_bind (wpS_gallopR (arr:=a) (base:=0) (n:=i) (hint:=i-1) (key:=b[j-1]) C (lk3.2.1.trans hk) (mB _ B1) (fun n hn _=>mA _ hn) (by lia) (fun p q a b c=>asc_seg sa p q (Nat.zero_le _) b (by lia)) (by lia) fun k k1 k2 k3=>?_)
     have before:∀ n,n<k→R rk a n<R rk b (j-1):=fun n n1=>by
      have h3:=k2 n n1
      rw[Nat.zero_add] at h3
      have h4:=D n (j-1) (by lia) B1
      lia
     have mA':=blkA (at_:=k) g2 g4 k1 m fun n n1 n2 q q1=>by
      have h3:=k3 n n1 n2
      rw[Nat.zero_add] at h3
      have h5:=sb.ge (show q≤j-1 by lia) B1
      lia
     refine wpS_ite (fun k0=>wpS_ite (fun c1=>wpS_pure ⟨lk3.trans ⟨rfl,rfl,rfl,rfl⟩,.inl ⟨_,_,rfl,finA (na:=k) (by simpa using c1) g4 mA'⟩⟩) fun c1=>?_) fun k0=>?_
     ·have kn:¬ k=0:=by simpa using c1
      have k0':i-k>0:=k0
      have A1:k-1<a.size:=by lia
      refine wpS_bind (wpS_elem (xs:=b) (i:=j-1) B1 ?_)
      have M2:=oneB' B1 (by lia) (show k≤a.size by lia) mA' fun n n1=>before n (by lia)
      refine wpS_ite (fun c3=>wpS_pure ⟨lk3.trans ⟨rfl,rfl,rfl,rfl⟩,.inl ⟨_,_,rfl,finF (nb:=j-1) (by simpa using c3) (by lia) M2⟩⟩) fun c3=>?_
      have c3':¬ j-1=1:=by simpa using c3
      refine wpS_bind (wpS_elem (xs:=a) (i:=k-1) A1 ?_)
      have ra:R rk a (k-1)=rk a[k-1]:=R_at A1
      refine wpS_bind (wpS_gallopL (key:=a[k-1]) (arr:=b) (base:=0) (n:=j-1) (hint:=j-1-1) C (lk3.2.1.trans hk) (mA _ A1) (fun n hn _=>mB _ hn) (by lia) (fun p q a b c=>asc_seg sb p q (Nat.zero_le _) b (by lia)) (by lia) fun k' k1' k2' k3'=>?_)
      have after:∀ n,n<k'→R rk b n<R rk a (k-1):=fun n n1=>by
       have h3:=k2' n n1
       rw[Nat.zero_add] at h3
       lia
      have kp:1≤k':=by
       refine Nat.lt_of_not_le fun z=>?_
       have h3:=k3' 0 z (by lia)
       rw[Nat.zero_add] at h3
       have:=h0 (k-1) A1
       lia
      have mB':=blkB (at_:=k') (show k≤a.size by lia) (show j-1≤b.size by lia) k1' M2 fun n n1 n2 q q1=>by
       have h3:=k3' n n1 n2
       rw[Nat.zero_add] at h3
       have h4:=D (k-1) n A1 (by lia)
       have h5:=sa.ge (show q≤k-1 by lia) A1
       lia
      refine wpS_ite (fun d0=>wpS_ite (fun d1=>wpS_pure ⟨lk3.trans ⟨rfl,rfl,rfl,rfl⟩,.inl ⟨_,_,rfl,finF (nb:=k') (by simpa using d1) (by lia) mB'⟩⟩) fun d1=>wpS_ite (fun d2=>absurd (show k'=0 by simpa using d2) (by lia)) fun d2=>?_) fun d0=>?_
      ·have d1':¬ k'=1:=by simpa using d1
       have d0':j-1-k'>0:=d0
       refine wpS_bind (wpS_elem (xs:=a) (i:=k-1) A1 ?_)
       have M4:=oneA' A1 (by lia) (show k'≤b.size by lia) mB' fun n n1=>after n (by lia)
       refine wpS_ite (fun e=>wpS_pure ⟨lk3.trans ⟨rfl,rfl,rfl,rfl⟩,.inl ⟨_,_,rfl,finA (na:=k-1) (by simpa using e) (show k'≤b.size by lia) M4⟩⟩) fun e=>?_
       have e':¬ k-1=0:=by simpa using e
       refine wpS_ite (fun _=>wpS_pure ⟨lk3.trans ⟨rfl,rfl,rfl,rfl⟩,.inr ⟨k-1,k',_,_,_,_,rfl,M4,by lia,by lia,by lia,by lia,by lia⟩⟩) fun _=>wpS_pure ⟨lk3.trans ⟨rfl,rfl,rfl,rfl⟩,k-1,k',_,_,_,_,rfl,M4,by lia,by lia,by lia,by lia,by lia⟩
      ·have d0':¬ (j-1-k'>0):=d0
       have d00:k'=j-1:=by lia
       refine wpS_bind (wpS_elem (xs:=a) (i:=k-1) A1 ?_)
       have M4:=oneA' A1 (by lia) (show j-1≤b.size by lia) M2 fun n n1=>after n (by lia)
       refine wpS_ite (fun e=>wpS_pure ⟨lk3.trans ⟨rfl,rfl,rfl,rfl⟩,.inl ⟨_,_,rfl,finA (na:=k-1) (by simpa using e) (show j-1≤b.size by lia) M4⟩⟩) fun e=>?_
       have e':¬ k-1=0:=by simpa using e
       refine wpS_ite (fun _=>wpS_pure ⟨lk3.trans ⟨rfl,rfl,rfl,rfl⟩,.inr ⟨k-1,(j-1),_,_,_,_,rfl,M4,by lia,by lia,by lia,by lia,by lia⟩⟩) fun _=>wpS_pure ⟨lk3.trans ⟨rfl,rfl,rfl,rfl⟩,k-1,(j-1),_,_,_,_,rfl,M4,by lia,by lia,by lia,by lia,by lia⟩
     ·have k0':¬ (i-k>0):=k0
      have ki:k=i:=by lia
      have A1:i-1<a.size:=by lia
      refine wpS_bind (wpS_elem (xs:=b) (i:=j-1) B1 ?_)
      have M2:=oneB' B1 (by lia) (show i≤a.size by lia) m fun n n1=>before n (by lia)
      refine wpS_ite (fun c3=>wpS_pure ⟨lk3.trans ⟨rfl,rfl,rfl,rfl⟩,.inl ⟨_,_,rfl,finF (nb:=j-1) (by simpa using c3) (by lia) M2⟩⟩) fun c3=>?_
      have c3':¬ j-1=1:=by simpa using c3
      refine wpS_bind (wpS_elem (xs:=a) (i:=i-1) A1 ?_)
      have ra:R rk a (i-1)=rk a[i-1]:=R_at A1
      refine wpS_bind (wpS_gallopL (key:=a[i-1]) (arr:=b) (base:=0) (n:=j-1) (hint:=j-1-1) C (lk3.2.1.trans hk) (mA _ A1) (fun n hn _=>mB _ hn) (by lia) (fun p q a b c=>asc_seg sb p q (Nat.zero_le _) b (by lia)) (by lia) fun k' k1' k2' k3'=>?_)
      have after:∀ n,n<k'→R rk b n<R rk a (i-1):=fun n n1=>by
       have h3:=k2' n n1
       rw[Nat.zero_add] at h3
       lia
      have kp:1≤k':=by
       refine Nat.lt_of_not_le fun z=>?_
       have h3:=k3' 0 z (by lia)
       rw[Nat.zero_add] at h3
       have:=h0 (i-1) A1
       lia
      have mB':=blkB (at_:=k') (show i≤a.size by lia) (show j-1≤b.size by lia) k1' M2 fun n n1 n2 q q1=>by
       have h3:=k3' n n1 n2
       rw[Nat.zero_add] at h3
       have h4:=D (i-1) n A1 (by lia)
       have h5:=sa.ge (show q≤i-1 by lia) A1
       lia
      refine wpS_ite (fun d0=>wpS_ite (fun d1=>wpS_pure ⟨lk3.trans ⟨rfl,rfl,rfl,rfl⟩,.inl ⟨_,_,rfl,finF (nb:=k') (by simpa using d1) (by lia) mB'⟩⟩) fun d1=>wpS_ite (fun d2=>absurd (show k'=0 by simpa using d2) (by lia)) fun d2=>?_) fun d0=>?_
      ·have d1':¬ k'=1:=by simpa using d1
       have d0':j-1-k'>0:=d0
       refine wpS_bind (wpS_elem (xs:=a) (i:=i-1) A1 ?_)
       have M4:=oneA' A1 (by lia) (show k'≤b.size by lia) mB' fun n n1=>after n (by lia)
       refine wpS_ite (fun e=>wpS_pure ⟨lk3.trans ⟨rfl,rfl,rfl,rfl⟩,.inl ⟨_,_,rfl,finA (na:=i-1) (by simpa using e) (show k'≤b.size by lia) M4⟩⟩) fun e=>?_
       have e':¬ i-1=0:=by simpa using e
       refine wpS_ite (fun _=>wpS_pure ⟨lk3.trans ⟨rfl,rfl,rfl,rfl⟩,.inr ⟨i-1,k',_,_,_,_,rfl,M4,by lia,by lia,by lia,by lia,by lia⟩⟩) fun _=>wpS_pure ⟨lk3.trans ⟨rfl,rfl,rfl,rfl⟩,i-1,k',_,_,_,_,rfl,M4,by lia,by lia,by lia,by lia,by lia⟩
      ·have d0':¬ (j-1-k'>0):=d0
       have d00:k'=j-1:=by lia
       refine wpS_bind (wpS_elem (xs:=a) (i:=i-1) A1 ?_)
       have M4:=oneA' A1 (by lia) (show j-1≤b.size by lia) M2 fun n n1=>after n (by lia)
       refine wpS_ite (fun e=>wpS_pure ⟨lk3.trans ⟨rfl,rfl,rfl,rfl⟩,.inl ⟨_,_,rfl,finA (na:=i-1) (by simpa using e) (show j-1≤b.size by lia) M4⟩⟩) fun e=>?_
       have e':¬ i-1=0:=by simpa using e
       refine wpS_ite (fun _=>wpS_pure ⟨lk3.trans ⟨rfl,rfl,rfl,rfl⟩,.inr ⟨i-1,(j-1),_,_,_,_,rfl,M4,by lia,by lia,by lia,by lia,by lia⟩⟩) fun _=>wpS_pure ⟨lk3.trans ⟨rfl,rfl,rfl,rfl⟩,i-1,(j-1),_,_,_,_,rfl,M4,by lia,by lia,by lia,by lia,by lia⟩)
end
end Tim
set_option Elab.async false
set_option linter.all false
set_option maxRecDepth 100000
namespace Tim
open PySem PyProof.Rows
theorem wback (o:Nat):∀ (l:List Keyed) (m:Nat) (xs:Array Keyed),o+m+l.length≤xs.size →
  ((l.zipIdx m).foldl (fun a (x:Keyed×Nat)=>a.setIfInBounds (o+x.2) x.1) xs).toList=xs.toList.take (o+m)++l++xs.toList.drop (o+m+l.length)
 | [],m,xs,h=>by simp
 | p::l,m,xs,h=>by
  simp only[List.length_cons] at h
  rw[List.zipIdx_cons,List.foldl_cons,wback o l (m+1) _ (by simp;omega)]
  dsimp only
  rw[Array.toList_setIfInBounds]
  have e1:(xs.toList.set (o+m) p).take (o+(m+1))=xs.toList.take (o+m)++[p]:=by
   rw[show o+(m+1)=o+m+1 by omega,List.take_succ,List.take_set_of_le (Nat.le_refl _)]
   congr 1
   rw[List.getElem?_set_self (by simp;omega)]
   rfl
  have e2:(xs.toList.set (o+m) p).drop (o+(m+1)+l.length)=xs.toList.drop (o+m+(p::l).length):=by
   rw[List.drop_set_of_lt (by omega),List.length_cons]
   congr 1;omega
  rw[e1,e2]
  simp
section
variable {rk:Keyed→Int}
theorem Seg.asc {xs:Array Keyed}{lo hi:Nat}(h:Seg rk xs lo hi) (hh:hi≤xs.size):Asc rk (xs.extract lo hi).toList:=by
 refine seg_asc fun i j _ ij hj=>?_
 have hj':j<hi-lo:=by simp at hj;omega
 have hz:(xs.extract lo hi).size=hi-lo:=by simp;omega
 rw[R_at (by omega),R_at (by omega),Array.getElem_extract,Array.getElem_extract]
 have:=h (lo+i) (lo+j) (by omega) (by omega) (by omega)
 rwa [R_at (by omega),R_at (by omega)] at this
theorem R_ext {xs:Array Keyed}{lo hi i:Nat}(hh:hi≤xs.size) (h:lo+i<hi):R rk (xs.extract lo hi) i=R rk xs (lo+i):=by
 have hz:(xs.extract lo hi).size=hi-lo:=by simp;omega
 rw[R_at (by omega),R_at (by omega),Array.getElem_extract]
theorem mem_ext {xs:Array Keyed}{lo hi:Nat}{x:Keyed}(hh:hi≤xs.size) (h:x∈(xs.extract lo hi).toList):∃ i,lo≤i∧i<hi∧∃ hi:i<xs.size,x=xs[i]:=by
 have hz:(xs.extract lo hi).size=hi-lo:=by simp;omega
 obtain⟨n,hn,e⟩:=List.mem_iff_getElem.mp h
 rw[Array.length_toList,hz] at hn
 refine⟨lo+n,by omega,by omega,by omega,?_⟩
 rw[← e];simp
theorem tk_dr {L:List Keyed}{i j:Nat}(h:i≤j):L.take i++(L.take j).drop i=L.take j:=by
 have:=List.take_append_drop i (L.take j)
 rwa [List.take_take,Nat.min_eq_left h] at this
theorem split4 {xs:Array Keyed}{i j k:Nat}(h1:i≤j) (h2:j≤k) (h3:k≤xs.size):xs.toList=xs.toList.take i++((xs.extract i j).toList++(xs.extract j k).toList)++xs.toList.drop k:=by
 simp only[Array.toList_extract,List.extract_eq_drop_take']
 rw[← List.append_assoc,tk_dr h1,tk_dr h2,List.take_append_drop]
end
section
variable {prog:Program}{w:World}{A:Around}{E:Value→Shared→Prop}{s:Shared}{rk:Keyed→Int}{κ:SortKind}{a₀:Array Keyed}
def Two (rk:Keyed→Int) (κ:SortKind) (a₀:Array Keyed) (st:SortSt):Prop:=
 (∃ pw,SB a₀ κ #[(0,a₀.size,pw)] st∧Seg rk (arrOf st) 0 a₀.size)∨∃ n1 n2 pw,SB a₀ κ #[(0,n1,pw),(n1,n2,0)] st∧1≤n1∧1≤n2∧n1+n2=a₀.size∧Seg rk (arrOf st) 0 n1∧Seg rk (arrOf st) n1 (n1+n2)
theorem wpS_set {σ:Type}{M:Model}{st st':σ}{Q:PUnit→σ→Prop}(h:Q ⟨⟩ st'):wpS M A E s (set st':StateT σ Sem PUnit) Q st:=by
 exact wpS_modify (f:=fun _=>st') h
theorem mergeAt'_eq (i:Nat):mergeAt' i=(do
 let s ← get
 let (some (sa,na,power),some (sb,nb,_)):=((pendingOf s)[i]?,(pendingOf s)[i+1]?)|unsupported "internal:list.sort.pending"
 set (setPending s (((pendingOf s).setIfInBounds i (sa,na+nb,power)).eraseIdxIfInBounds (i+1)))
 let some k ← gallop' false (← elem' (arrOf s) sb) (arrOf s) sa na 0|return false
 let (sa,na):=(sa+k,na-k)
 if na == 0 then return true
 let some nb ← gallop' true (← elem' (arrOf s) (sa+na-1)) (arrOf s) sb nb (nb-1)|return false
 if nb == 0 then return true
 let x:=(arrOf s).extract sa sb
 let y:=(arrOf s).extract sb (sb+nb)
 let merged ← if na≤nb then mergeLo' x y else mergeHi' x y
 modify fun s=>setArr s (merged.toList.zipIdx.foldl (fun a (p,j)=>a.setIfInBounds (sa+j) p) (arrOf s))
 return (failedOf (← get)).isNone):=rfl
theorem erase2 {α:Type}(a b x:α):(#[a,b].setIfInBounds 0 x).eraseIdxIfInBounds (0+1) = #[x]:=by
 simp[Array.eraseIdxIfInBounds]
set_option maxHeartbeats 4000000 in
theorem wpS_mergeAt0 {st:SortSt}{n1 n2 pw pw2:Nat}{Q:Bool→SortSt→Prop}(C:Cmp prog w A s rk κ a₀.toList) (D:(a₀.toList.map rk).Nodup) (hB:SB a₀ κ #[(0,n1,pw),(n1,n2,pw2)] st) (h1:1≤n1) (h2:1≤n2) (hn:n1+n2=a₀.size)
  (s1:Seg rk (arrOf st) 0 n1) (s2:Seg rk (arrOf st) n1 (n1+n2))
  (h:∀ st',SB a₀ κ #[(0,n1+n2,pw)] st'→Seg rk (arrOf st') 0 a₀.size→Q true st'):wpS (model prog w) A E s (mergeAt' 0) Q st:=by
 have hz:=hB.size
 rw[mergeAt'_eq]
 refine wpS_bind (wpS_get ?_)
 rw[hB.pend]
 show wpS (model prog w) A E s (set (setPending st ((#[(0,n1,pw),(n1,n2,pw2)].setIfInBounds 0 (0,n1+n2,pw)).eraseIdxIfInBounds (0+1))) >>= _) Q st
 rw[erase2]
 refine wpS_bind (wpS_set ?_)
 have B1:SB a₀ κ #[(0,n1+n2,pw)] (setPending st #[(0,n1+n2,pw)]):=⟨hB.perm,hB.kind,hB.failed,rfl⟩
 have mem:∀ i (h:i<(arrOf st).size),(arrOf st)[i]∈a₀.toList:=fun i h=>hB.mem h
 have neq:∀ i j,i<j→j<(arrOf st).size→R rk (arrOf st) i≠R rk (arrOf st) j:=fun i j a b e=>by
  have:=perm_inj D hB.perm (show i<_ by omega) b e
  omega
 have k1':n1<(arrOf st).size:=by omega
 have rk1:R rk (arrOf st) n1=rk (arrOf st)[n1]:=R_at k1'
 refine wpS_bind (wpS_elem (xs:=arrOf st) (i:=n1) k1' ?_)
 refine wpS_bind (wpS_gallopR (arr:=arrOf st) (base:=0) (n:=n1) (hint:=0) (key:=(arrOf st)[n1]) C hB.kind (mem _ k1') (fun n hn _=>mem _ hn) (by omega) (fun p q a b c=>s1 p q (by omega) b (by omega)) (by omega) fun k l1 l2 l3=>?_)
 have below:∀ i,i<k→R rk (arrOf st) i<R rk (arrOf st) n1:=fun i hi=>by
  have:=l2 i hi
  rw[Nat.zero_add] at this
  have:=neq i n1 (by omega) k1'
  omega
 refine wpS_ite (fun c1=>?_) fun c1=>?_
 ·have e:n1-k=0:=by simpa using c1
  refine wpS_pure (h _ B1 fun i j a b c=>?_)
  show R rk (arrOf st) i<R rk (arrOf st) j
  by_cases hj:j<n1
  ·exact s1 i j a b hj
  ·by_cases hi:i<n1
   ·have:=below i (by omega)
    by_cases ej:j=n1
    ·rw[ej];exact this
    ·have:=s2 n1 j (Nat.le_refl _) (by omega) (by omega)
     omega
   ·exact s2 i j (by omega) b (by omega)
 have c1':¬ n1-k=0:=by simpa using c1
 have k2':0+k+(n1-k)-1<(arrOf st).size:=by omega
 have ek:0+k+(n1-k)-1=n1-1:=by omega
 have rk2:R rk (arrOf st) (n1-1)=rk (arrOf st)[0+k+(n1-k)-1]:=by rw[← ek];exact R_at k2'
 refine wpS_bind (wpS_elem (xs:=arrOf st) (i:=0+k+(n1-k)-1) k2' ?_)
 refine wpS_bind (wpS_gallopL (key:=(arrOf st)[0+k+(n1-k)-1]) (arr:=arrOf st) (base:=n1) (n:=n2) (hint:=n2-1) C hB.kind (mem _ k2') (fun n hn _=>mem _ hn) (by omega) s2 (by omega) fun nb m1 m2 m3=>?_)
 have low:R rk (arrOf st) n1<R rk (arrOf st) (n1-1):=by
  have:=l3 (n1-1) (by omega) (by omega)
  rw[Nat.zero_add] at this
  omega
 have nb1:1≤nb:=by
  refine Nat.lt_of_not_le fun z=>?_
  have:=m3 0 z (by omega)
  rw[Nat.add_zero] at this
  omega
 have top:∀ j,n1+nb≤j→j<n1+n2→R rk (arrOf st) (n1-1)<R rk (arrOf st) j:=fun j a b=>by
  have:=m3 (j-n1) (by omega) (by omega)
  rw[show n1+(j-n1)=j by omega] at this
  have:=neq (n1-1) j (by omega) (by omega)
  omega
 refine wpS_ite (fun c2=>absurd (show nb=0 by simpa using c2) (by omega)) fun c2=>?_
 have e0:0+k=k:=Nat.zero_add k
 have hX:((arrOf st).extract (0+k) n1).size=n1-k:=by simp;omega
 have hY:((arrOf st).extract n1 (n1+nb)).size=nb:=by simp;omega
 have rX:∀ i,i<n1-k→R rk ((arrOf st).extract (0+k) n1) i=R rk (arrOf st) (k+i):=fun i hi=>by rw[R_ext (by omega) (by omega),e0]
 have rY:∀ j,j<nb→R rk ((arrOf st).extract n1 (n1+nb)) j=R rk (arrOf st) (n1+j):=fun j hj=>R_ext (by omega) (by omega)
 have memX:∀ x∈((arrOf st).extract (0+k) n1).toList,x∈a₀.toList:=fun x hx=>by
  obtain⟨i,_,_,hi,rfl⟩:=mem_ext (by omega) hx;exact mem i hi
 have memY:∀ x∈((arrOf st).extract n1 (n1+nb)).toList,x∈a₀.toList:=fun x hx=>by
  obtain⟨i,_,_,hi,rfl⟩:=mem_ext (by omega) hx;exact mem i hi
 have DD:∀ i j,i<((arrOf st).extract (0+k) n1).size→j<((arrOf st).extract n1 (n1+nb)).size→R rk ((arrOf st).extract (0+k) n1) i≠R rk ((arrOf st).extract n1 (n1+nb)) j:=fun i j hi hj=>by
  rw[hX] at hi;rw[hY] at hj
  rw[rX i hi,rY j hj]
  exact neq _ _ (by omega) (by omega)
 have aX:Asc rk ((arrOf st).extract (0+k) n1).toList:=Seg.asc (fun i j a b c=>s1 i j (by omega) b c) (by omega)
 have aY:Asc rk ((arrOf st).extract n1 (n1+nb)).toList:=Seg.asc (fun i j a b c=>s2 i j a b (by omega)) (by omega)
 have Z0:∀ i,i<((arrOf st).extract (0+k) n1).size→R rk ((arrOf st).extract n1 (n1+nb)) 0<R rk ((arrOf st).extract (0+k) n1) i:=fun i hi=>by
  rw[hX] at hi
  rw[rX i hi,rY 0 (by omega)]
  have:=l3 (k+i) (by omega) (by omega)
  rw[Nat.zero_add] at this
  rw[Nat.add_zero];omega
 have ZL:∀ j,j<((arrOf st).extract n1 (n1+nb)).size→R rk ((arrOf st).extract n1 (n1+nb)) j<R rk ((arrOf st).extract (0+k) n1) (((arrOf st).extract (0+k) n1).size-1):=fun j hj=>by
  rw[hY] at hj
  rw[rY j hj,hX,rX _ (by omega),show k+(n1-k-1)=n1-1 by omega]
  have:=m2 j hj
  omega
 have fin:∀ (out:Array Keyed) st',Like (setPending st #[(0,n1+n2,pw)]) st'→out.toList.Perm (((arrOf st).extract (0+k) n1).toList++((arrOf st).extract n1 (n1+nb)).toList)→Asc rk out.toList →
   wpS (model prog w) A E s (do
    modify fun s=>setArr s (out.toList.zipIdx.foldl (fun a (p,j)=>a.setIfInBounds (0+k+j) p) (arrOf s))
    return (failedOf (← get)).isNone) Q st':=fun out st' lk pm as=>by
  refine wpS_bind (wpS_modify (wpS_bind (wpS_get (wpS_pure ?_))))
  obtain⟨q1,q2,q3,q4⟩:=lk
  have ln:out.toList.length=n1-k+nb:=by rw[pm.length_eq,List.length_append,Array.length_toList,Array.length_toList,hX,hY]
  have ar:(out.toList.zipIdx.foldl (fun a (x:Keyed×Nat)=>a.setIfInBounds (0+k+x.2) x.1) (arrOf st)).toList=(arrOf st).toList.take k++out.toList++(arrOf st).toList.drop (n1+nb):=by
   have:=wback (0+k) out.toList 0 (arrOf st) (by rw[ln];omega)
   rw[this,Nat.add_zero,e0,ln,show k+(n1-k+nb)=n1+nb by omega]
  have sp:=split4 (xs:=arrOf st) (i:=0+k) (j:=n1) (k:=n1+nb) (by omega) (by omega) (by omega)
  rw[e0] at sp
  have ff:failedOf st'=none:=q3.trans hB.failed
  show Q (failedOf st').isNone _
  rw[ff]
  have a0:arrOf st'=arrOf st:=q1
  refine h _ ⟨?_,q2.trans hB.kind,ff,q4⟩ ?_
  ·show (out.toList.zipIdx.foldl (fun a (x:Keyed×Nat)=>a.setIfInBounds (0+k+x.2) x.1) (arrOf st')).Perm a₀
   rw[a0]
   refine Array.Perm.trans ?_ hB.perm
   rw[Array.perm_iff_toList_perm,ar]
   conv=>rhs;rw[sp]
   rw[e0] at pm
   exact(List.Perm.append_left _ pm).append_right _
  ·show Seg rk (out.toList.zipIdx.foldl (fun a (x:Keyed×Nat)=>a.setIfInBounds (0+k+x.2) x.1) (arrOf st')) 0 a₀.size
   rw[a0]
   have zz:(out.toList.zipIdx.foldl (fun a (x:Keyed×Nat)=>a.setIfInBounds (0+k+x.2) x.1) (arrOf st)).size=a₀.size:=by
    have:=congrArg List.length ar
    rw[Array.length_toList] at this
    rw[this]
    simp[ln]
    omega
   rw[← zz]
   refine asc_seg ?_
   rw[ar]
   have memT:∀ x∈(arrOf st).toList.take k,∃ i,i<k∧rk x=R rk (arrOf st) i:=fun x hx=>by
    obtain⟨i,hi,e⟩:=List.mem_iff_getElem.mp hx
    simp at hi
    refine⟨i,by omega,?_⟩
    rw[R_at (by omega),← e];simp
   have memD:∀ x∈(arrOf st).toList.drop (n1+nb),∃ i,n1+nb≤i∧i<n1+n2∧rk x=R rk (arrOf st) i:=fun x hx=>by
    obtain⟨i,i1,i2,rfl⟩:=mem_drop_R hx
    exact⟨i,i1,by omega,(R_at i2).symm⟩
   have memO:∀ x∈out.toList,(∃ i,k≤i∧i<n1∧rk x=R rk (arrOf st) i)∨∃ i,n1≤i∧i<n1+nb∧rk x=R rk (arrOf st) i:=fun x hx=>by
    rcases List.mem_append.mp (pm.mem_iff.mp hx) with hx|hx
    ·obtain⟨i,i1,i2,hi,rfl⟩:=mem_ext (by omega) hx
     exact .inl ⟨i,by omega,i2,(R_at hi).symm⟩
    ·obtain⟨i,i1,i2,hi,rfl⟩:=mem_ext (by omega) hx
     exact .inr ⟨i,i1,i2,(R_at hi).symm⟩
   have lowm:∀ i,i≤n1-1→R rk (arrOf st) i≤R rk (arrOf st) (n1-1):=fun i hi=>by
    by_cases e:i=n1-1
    ·rw[e];exact Int.le_refl _
    ·exact Int.le_of_lt (s1 i (n1-1) (Nat.zero_le _) (by omega) (by omega))
   have him:∀ i,n1≤i→i<n1+n2→R rk (arrOf st) n1≤R rk (arrOf st) i:=fun i a b=>by
    by_cases e:i=n1
    ·rw[e];exact Int.le_refl _
    ·exact Int.le_of_lt (s2 n1 i (Nat.le_refl _) (by omega) b)
   refine List.pairwise_append.mpr ⟨List.pairwise_append.mpr ⟨?_,as,fun x hx y hy=>?_⟩,?_,fun x hx y hy=>?_⟩
   ·have:Asc rk ((arrOf st).extract 0 k).toList:=Seg.asc (fun i j a b c=>s1 i j a b (by omega)) (by omega)
    simpa using this
   ·obtain⟨i,i1,ei⟩:=memT x hx
    rcases memO y hy with ⟨j,j1,j2,ej⟩|⟨j,j1,j2,ej⟩
    ·rw[ei,ej];exact s1 i j (Nat.zero_le _) (by omega) j2
    ·rw[ei,ej]
     have:=below i i1
     have:=him j j1 (by omega)
     omega
   ·have:Asc rk ((arrOf st).extract (n1+nb) (n1+n2)).toList:=Seg.asc (fun i j a b c=>s2 i j (by omega) b c) (by omega)
    rw[Array.toList_extract,List.extract_eq_drop_take',List.take_of_length_le (by simp;omega)] at this
    exact this
   ·obtain⟨j,j1,j2,ej⟩:=memD y hy
    have t:=top j j1 j2
    rcases List.mem_append.mp hx with hx|hx
    ·obtain⟨i,i1,ei⟩:=memT x hx
     have:=lowm i (by omega)
     rw[ei,ej];omega
    ·rcases memO x hx with ⟨i,i1,i2,ei⟩|⟨i,i1,i2,ei⟩
     ·have:=lowm i (by omega)
      rw[ei,ej];omega
     ·rw[ei,ej];exact s2 i j i1 (by omega) j2
 refine wpS_ite (fun c3=>?_) fun c3=>?_
 ·exact wpS_bind (wpS_mergeLo C B1.kind memX memY DD aX aY (by omega) (by omega) Z0 ZL fun out st' lk pm as=>fin out st' lk pm as)
 ·exact wpS_bind (wpS_mergeHi C B1.kind memX memY DD aX aY (by omega) (by omega) Z0 ZL fun out st' lk pm as=>fin out st' lk pm as)
set_option maxHeartbeats 4000000 in
theorem wpS_sortRunsT {st:SortSt}{Q:Unit→SortSt→Prop}(C:Cmp prog w A s rk κ a₀.toList) (D:(a₀.toList.map rk).Nodup) (hB:SB a₀ κ #[] st) (h2:2≤a₀.size) (h128:a₀.size<128)
  (h:∀ st',(arrOf st').Perm a₀→failedOf st'=none→Seg rk (arrOf st') 0 a₀.size→Q () st'):wpS (model prog w) A E s sortRuns' Q st:=by
 rw[sortRuns'_eq]
 refine wpS_bind (wpS_get ?_)
 dsimp only
 obtain⟨mr,hmr,m1,m2,m3⟩:∃ mr,minRun' a₀.size a₀.size 0=mr∧1≤mr∧mr≤a₀.size∧a₀.size≤2*mr:=by
  obtain⟨f,hf⟩:∃ f,a₀.size=f+2:=⟨a₀.size-2,by omega⟩
  rw[hf,minRun'_succ]
  by_cases q:f+2<64
  ·rw[if_pos q];exact⟨_,rfl,by omega,by omega,by omega⟩
  ·rw[if_neg q,minRun'_succ,if_pos (by omega)];exact⟨_,rfl,by omega,by omega,by omega⟩
 simp only[hB.size,hmr]
 refine wpS_bind (wpS_mono (wpS_forRange
  (I:=fun x c st'=>(x=0∧c=(none,0)∧SB a₀ κ #[] st')∨(∃ n1,x=1∧c=(none,n1)∧mr≤n1∧n1<a₀.size∧SB a₀ κ #[(0,n1,0)] st'∧Seg rk (arrOf st') 0 n1)∨(1≤x∧c=(none,a₀.size)∧Two rk κ a₀ st'))
  (Q:=fun c st'=>c=(none,a₀.size)∧Two rk κ a₀ st') ?step ?fin (.inl ⟨rfl,rfl,hB⟩)) ?post)
 case fin=>
  rintro c st' (⟨hx,_,_⟩|⟨n1,hx,_⟩|⟨_,hc,hD⟩)
  ·omega
  ·omega
  ·exact⟨hc,hD⟩
 case step=>
  rintro x c st' _ hx (⟨rfl,rfl,hB'⟩|⟨n1,rfl,rfl,k1,k2,hB',sg⟩|⟨hx1,rfl,hD⟩)
  ·dsimp only
   rw[if_neg (by omega)]
   simp only[Nat.sub_zero,Nat.zero_add]
   refine wpS_bind (wpS_countRun C D (by omega) (by omega) hB' fun m st2 hB2 hm1 hm2 hs2 ho2=>?_)
   dsimp only
   rw[Nat.zero_add] at hs2
   have pe:∀ (n:Nat) (st3:SortSt),SB a₀ κ #[] st3→SB a₀ κ #[(0,n,0)] (setPending st3 ((pendingOf st3).push (0,n,0))):=fun n st3 b3=>⟨b3.perm,b3.kind,b3.failed,by show (pendingOf st3).push _=_;rw[b3.pend];rfl⟩
   by_cases hlt:m<mr
   ·rw[if_pos hlt]
    refine wpS_bind (wpS_lift (wpAny_rule ⟨rfl,?_⟩))
    refine wpS_bind (wpS_binarySort C D (by omega) (by omega) hB2 (by rw[Nat.zero_add];exact hs2) fun st3 hB3 hs3 ho3=>?_)
    rw[Nat.zero_add] at hs3
    simp only[Bool.not_true,Bool.false_eq_true,if_false]
    refine wpS_bind (wpS_get ?_)
    have hb:(pendingOf st3).back? = none:=by rw[hB3.pend];rfl
    rw[hb]
    dsimp only
    refine wpS_bind (wpS_modify (wpS_pure ?_))
    have em:min a₀.size mr=mr:=Nat.min_eq_right m2
    have P1:=pe (min a₀.size mr) st3 hB3
    by_cases e:min a₀.size mr=a₀.size
    ·refine .inr (.inr ⟨Nat.le_refl _,congrArg (Prod.mk none) e,.inl ⟨0,?_,?_⟩⟩)
     ·exact⟨P1.perm,P1.kind,P1.failed,P1.pend.trans (by rw[e])⟩
     ·exact fun i j a b c=>hs3 i j a b (by omega)
    ·exact .inr (.inl ⟨min a₀.size mr,by trivial,rfl,by omega,by omega,P1,hs3⟩)
   ·rw[if_neg hlt]
    refine wpS_bind (wpS_get ?_)
    have hb:(pendingOf st2).back? = none:=by rw[hB2.pend];rfl
    rw[hb]
    dsimp only
    refine wpS_bind (wpS_modify (wpS_pure ?_))
    by_cases e:m=a₀.size
    ·subst e
     exact .inr (.inr ⟨Nat.le_refl _,rfl,.inl ⟨0,pe _ st2 hB2,hs2⟩⟩)
    ·exact .inr (.inl ⟨m,by trivial,rfl,by omega,by omega,pe m st2 hB2,hs2⟩)
  ·dsimp only
   rw[if_neg (by omega)]
   refine wpS_bind (wpS_countRun C D (by omega) (by omega) hB' fun m st2 hB2 hm1 hm2 hs2 ho2=>?_)
   dsimp only
   have keep:∀ st3:SortSt,(∀ k,k<n1→(arrOf st3)[k]? = (arrOf st')[k]?)→Seg rk (arrOf st3) 0 n1:=fun st3 e i j a b c=>by
    rw[R_congr (e i (by omega)),R_congr (e j c)];exact sg i j a b c
   have last:∀ (n2:Nat) (st3:SortSt) (pw:Nat),n1+n2=a₀.size→SB a₀ κ #[(0,n1,0)] st3→Seg rk (arrOf st3) 0 n1→Seg rk (arrOf st3) n1 (n1+n2) →
     wpS (model prog w) A E s (do
      modify fun s=>setPending s ((pendingOf s).modify ((pendingOf s).size-1) fun x=>(x.fst,x.2.fst,pw))
      modify fun s=>setPending s ((pendingOf s).push (n1,n2,0))
      pure (ForInStep.yield ((none:Option Unit),n1+n2))) (fun r st4=>match r with
       | .done c=>c=(none,a₀.size)∧Two rk κ a₀ st4
       | .yield c=>(1+1=0∧c=(none,0)∧SB a₀ κ #[] st4)∨(∃ n1,1+1=1∧c=(none,n1)∧mr≤n1∧n1<a₀.size∧SB a₀ κ #[(0,n1,0)] st4∧Seg rk (arrOf st4) 0 n1)∨(1≤1+1∧c=(none,a₀.size)∧Two rk κ a₀ st4)) st3:=fun n2 st3 pw en b3 g1 g2=>by
    refine wpS_bind (wpS_modify (wpS_bind (wpS_modify (wpS_pure ?_))))
    refine .inr (.inr ⟨by omega,by rw[en],.inr ⟨n1,n2,pw,⟨b3.perm,b3.kind,b3.failed,?_⟩,by omega,by omega,en,g1,g2⟩⟩)
    show ((pendingOf st3).modify ((pendingOf st3).size-1) fun x=>(x.fst,x.2.fst,pw)).push (n1,n2,0)=_
    rw[b3.pend]
    rfl
   by_cases hlt:m<mr
   ·rw[if_pos hlt]
    refine wpS_bind (wpS_lift (wpAny_rule ⟨rfl,?_⟩))
    refine wpS_bind (wpS_binarySort (n:=min (a₀.size-n1) mr) C D (by omega) (by omega) hB2 hs2 fun st3 hB3 hs3 ho3=>?_)
    simp only[Bool.not_true,Bool.false_eq_true,if_false]
    refine wpS_bind (wpS_get ?_)
    have hb:(pendingOf st3).back? = some (0,n1,0):=by rw[hB3.pend];rfl
    rw[hb]
    dsimp only
    refine wpS_bind (wpS_mono (wpS_forRange (I:=fun _ c st''=>st''=st3∧c=(none,())) (Q:=fun c st''=>st''=st3∧c=(none,())) ?_ (fun _ _ hh=>hh) ⟨rfl,rfl⟩) ?_)
    ·rintro x c st'' _ _ ⟨rfl,rfl⟩
     refine wpS_bind (wpS_get ?_)
     rw[hB3.pend]
     exact wpS_pure ⟨rfl,rfl⟩
    ·rintro c st'' ⟨rfl,rfl⟩
     exact last _ _ _ (by omega) hB3 (keep _ fun k hk=>(ho3 k (.inl hk)).trans (ho2 k (.inl hk))) hs3
   ·rw[if_neg hlt]
    refine wpS_bind (wpS_get ?_)
    have hb:(pendingOf st2).back? = some (0,n1,0):=by rw[hB2.pend];rfl
    rw[hb]
    dsimp only
    refine wpS_bind (wpS_mono (wpS_forRange (I:=fun _ c st''=>st''=st2∧c=(none,())) (Q:=fun c st''=>st''=st2∧c=(none,())) ?_ (fun _ _ hh=>hh) ⟨rfl,rfl⟩) ?_)
    ·rintro x c st'' _ _ ⟨rfl,rfl⟩
     refine wpS_bind (wpS_get ?_)
     rw[hB2.pend]
     exact wpS_pure ⟨rfl,rfl⟩
    ·rintro c st'' ⟨rfl,rfl⟩
     exact last _ _ _ (by omega) hB2 (keep _ fun k hk=>ho2 k (.inl hk)) hs2
  ·dsimp only
   rw[if_pos (Nat.le_refl _)]
   exact wpS_pure ⟨rfl,hD⟩
 case post=>
  rintro c st' ⟨rfl,hD⟩
  dsimp only
  refine wpS_bind (wpS_mono (wpS_forRange (I:=fun x c st''=>c=(none,())∧((∃ pw,SB a₀ κ #[(0,a₀.size,pw)] st''∧Seg rk (arrOf st'') 0 a₀.size)∨(x=0∧Two rk κ a₀ st'')))
   (Q:=fun c st''=>c=(none,())∧∃ pw,SB a₀ κ #[(0,a₀.size,pw)] st''∧Seg rk (arrOf st'') 0 a₀.size) ?_ ?_ ⟨rfl,.inr ⟨rfl,hD⟩⟩) ?_)
  ·rintro x c st'' _ _ ⟨rfl,h⟩
   refine wpS_bind (wpS_get ?_)
   rcases h with ⟨pw,b,g⟩|⟨rfl,⟨pw,b,g⟩|⟨n1,n2,pw,b,k1,k2,k3,g1,g2⟩⟩
   ·rw[if_pos (by rw[b.pend];exact Nat.le_refl 1)]
    exact wpS_pure ⟨rfl,pw,b,g⟩
   ·rw[if_pos (by rw[b.pend];exact Nat.le_refl 1)]
    exact wpS_pure ⟨rfl,pw,b,g⟩
   ·rw[b.pend]
    refine wpS_ite (fun z=>absurd (show 2≤1 from z) (by decide)) fun _=>?_
    refine wpS_bind (wpS_mergeAt0 C D b k1 k2 k3 g1 g2 fun st3 b3 g3=>?_)
    rw[k3] at b3
    exact wpS_pure ⟨rfl,.inl ⟨pw,b3,g3⟩⟩
  ·rintro c st'' ⟨rfl,h⟩
   rcases h with ⟨pw,b,g⟩|⟨e,_⟩
   ·exact⟨rfl,pw,b,g⟩
   ·omega
  ·rintro c st'' ⟨rfl,pw,b,g⟩
   exact wpS_pure (h _ b.perm b.failed g)
end
end Tim
set_option Elab.async false
set_option linter.all false
set_option maxRecDepth 100000
namespace Tim
open PySem PyProof.Rows PySem.W
def Tri (h:Heap) (v:Value) (x y z:Int):Prop:=∃ b o n t1 t2 t3,v=.ref b∧h.get? b=some o∧o.cls=.type "tuple" ∧ o.data=.seq #[.int x t1,.int y t2,.int z t3] n∧0≤y∧y<1000∧0≤z∧z<1000
def code3 (x y z:Int):Int:=x*1000000+y*1000+z
def triRk (h:Heap) (v:Value):Int:=match v with
 | .ref b=>match h.get? b with
  | some o=>match o.data with
   | .seq xs _=>match xs.toList with
    | [.int x _,.int y _,.int z _]=>code3 x y z
    | _=>0
   | _=>0
  | none=>0
 | _=>0
theorem Tri.rk {h:Heap}{v:Value}{x y z:Int}(t:Tri h v x y z):triRk h v=code3 x y z:=by
 obtain⟨b,o,n,t1,t2,t3,rfl,e,_,d,_⟩:=t
 unfold triRk
 simp only[e,d]
theorem Tri.keeps {h h':Heap}{v:Value}{x y z:Int}(k:∀ b o,o.cls=.type "tuple" → h.get? b=some o→h'.get? b=some o) (t:Tri h v x y z):Tri h' v x y z:=by
 obtain⟨b,o,n,t1,t2,t3,rfl,e,c,r⟩:=t
 exact⟨b,o,n,t1,t2,t3,rfl,k b o c e,c,r⟩
section
variable {prog:Program}{w:World}{A:Around}{E:Value→Shared→Prop}{s:Shared}
theorem lt3 {v u:Value}{x y z x' y' z':Int}{Q:Bool→Shared→Prop}(t:Tri s.heap v x y z) (t':Tri s.heap u x' y' z') (h:Q (decide (code3 x y z<code3 x' y' z')) s):wpAny (model prog w) A (keyLt' (tuples' true) v u) Q E s:=by
 obtain⟨b,o,n,t1,t2,t3,rfl,e,c,d,q1,q2,q3,q4⟩:=t
 obtain⟨b',o',n',t1',t2',t3',rfl,e',c',d',r1,r2,r3,r4⟩:=t'
 unfold code3 at h
 refine kat_lt e d e' d' ?_
 show KatLex prog w A true false Q [(.int x t1,.int x' t1'),(.int y t2,.int y' t2'),(.int z t3,.int z' t3')] 0 s
 refine kat_cons (wpAny_eqBool_int ?_)
 by_cases h1:x=x'
 ·subst h1
  rw[show (x == x)=true by simp]
  refine kat_yes (kat_cons (wpAny_eqBool_int ?_))
  by_cases h2:y=y'
  ·subst h2
   rw[show (y == y)=true by simp]
   refine kat_yes (kat_cons (wpAny_eqBool_int ?_))
   by_cases h3:z=z'
   ·subst h3
    rw[show (z == z)=true by simp]
    refine kat_yes (kat_nil ?_)
    rwa [show decide (x*1000000+y*1000+z<x*1000000+y*1000+z)=false by simp] at h
   ·rw[show (z == z')=false by simpa using h3]
    refine kat_no (kat_one _ _ (lt_int ?_))
    show Q _ s
    rwa [show decide (x*1000000+y*1000+z<x*1000000+y*1000+z')=decide (z<z') by rw[decide_eq_decide];omega] at h
  ·rw[show (y == y')=false by simpa using h2]
   refine kat_no (kat_one _ _ (lt_int ?_))
   show Q _ s
   rwa [show decide (x*1000000+y*1000+z<x*1000000+y'*1000+z')=decide (y<y') by rw[decide_eq_decide];omega] at h
 ·rw[show (x == x')=false by simpa using h1]
  refine kat_no (oneLt_int ?_)
  rwa [show decide (x*1000000+y*1000+z<x'*1000000+y'*1000+z')=decide (x<x') by rw[decide_eq_decide];omega] at h
theorem firsts3 {h:Heap}:∀ {vs:List Value},(∀ v∈vs,∃ x y z,Tri h v x y z)→∃ fs,KatTups h vs fs∧fs.length=vs.length∧∀ f∈fs,∃ x t,f=Value.int x t
 | [],_=>⟨[],.nil,rfl,fun _ h=>by cases h⟩
 | v::vs,t=>by
  obtain⟨fs,k,l,a⟩:=firsts3 fun v hv=>t v (List.mem_cons_of_mem _ hv)
  obtain⟨x,y,z,b,o,n,t1,t2,t3,rfl,e,c,d,_⟩:=t v List.mem_cons_self
  refine⟨.int x t1::fs,.cons e c d rfl k,by rw[List.length_cons,List.length_cons,l],fun f hf=>?_⟩
  rcases List.mem_cons.mp hf with rfl|hf
  ·exact⟨_,_,rfl⟩
  ·exact a f hf
theorem kind3 {vs:List Value}{Q:SortKind→Shared→Prop}(h2:0<vs.length) (t:∀ v∈vs,∃ x y z,Tri s.heap v x y z) (h:Q (tuples' true) s):wpAny (model prog w) A (keyKind' vs.toArray) Q E s:=by
 obtain⟨fs,k,l,a⟩:=firsts3 t
 refine kat_kind (T:=.type "int") k (by omega) (fun v hv=>?_) rfl h
 obtain⟨x,t,rfl⟩:=a v hv
 exact Looks.of_pure rfl
theorem pairs_toList (vs:List Value):(pairsOf vs).toList=vs.zip vs:=by
 unfold pairsOf;simp
theorem zip_self_fst (f:Value→Int) (vs:List Value):(vs.zip vs).map (fun p:Keyed=>f p.1)=vs.map f:=by
 induction vs with
 | nil=>rfl
 | cons v vs ih=>simp only[List.zip_cons_cons,List.map_cons,ih]
theorem zip_self_mem {vs:List Value}{p:Keyed}(h:p∈vs.zip vs):p.1=p.2∧p.1∈vs:=by
 induction vs with
 | nil=>cases h
 | cons v vs ih=>
  rw[List.zip_cons_cons] at h
  rcases List.mem_cons.mp h with rfl|h
  ·exact⟨rfl,List.mem_cons_self⟩
  ·exact⟨(ih h).1,List.mem_cons_of_mem _ (ih h).2⟩
theorem list_sort_tree3 {a:Addr}{vs:List Value}{n:Nat}{P:PySem.Fin→Shared→Prop}(ho:s.heap.get? a=some (seqObj "list" vs.toArray n)) (t:∀ v∈vs,∃ x y z,Tri s.heap v x y z) (hd:(vs.map (triRk s.heap)).Nodup) (h128:vs.length<128)
  (h:∀ out:Array Value,out.toList.Perm vs→out.toList.Pairwise (fun u v=>triRk s.heap u<triRk s.heap v)→P (.done (.ret .none)) { s with heap:=sortedHeap s.heap a vs out }) :
  wpAny (model prog w) A (Builtin.«list.sort» ⟨[.ref a],[]⟩) P E s:=by
 rw[list_sort_plain]
 have ha:a<s.heap.objs.size:=Heap.lt_size ho
 refine wpAny_bind (listItems_at ho rfl ?_)
 refine wpAny_bind (listUpdate_at ho rfl ?_ (by rw[List.size_toArray,sizeLine_eq];omega) (Nat.zero_le _))
 obtain⟨e1,ho1⟩:∃ e1,(s.heap.update a (Obj.mapSeq fun _=>#[])).get? a=some (seqObj "list" #[] e1):=⟨_,get?_update_seq ho (fun _=>#[])⟩
 refine wpAny_bind (seqEpoch_at ho1 rfl ?_)
 refine wpAny_bind (wpAny_newTuple ?_ (by show vs.length≤_;rw[sizeLine_eq];omega))
 refine wpAny_bind (wpAny_newList ?_ (Nat.zero_le _))
 refine wpAny_holding ?_
 have ho6:(((s.heap.update a (Obj.mapSeq fun _=>#[])).push (seqObj "tuple" vs.toArray 0)).push (seqObj "list" #[] 0)).get? a=some (seqObj "list" #[] e1):=by
  rw[Heap.get?_push_ne _ _ _ (by rw[size_push',Heap.size_update];exact Nat.ne_of_lt (Nat.lt_succ_of_lt ha)),Heap.get?_push_ne _ _ _ (by rw[Heap.size_update];exact Nat.ne_of_lt ha)]
  exact ho1
 have kp:∀ b o,o.cls=.type "tuple" → s.heap.get? b=some o→(((s.heap.update a (Obj.mapSeq fun _=>#[])).push (seqObj "tuple" vs.toArray 0)).push (seqObj "list" #[] 0)).get? b=some o:=fun b o c e=>by
  have hb:b≠a:=fun z=>by rw[z,ho] at e;cases e;exact absurd (show Value.type "list" = Value.type "tuple" from c) (by decide)
  exact Heap.get?_push_of_some _ (Heap.get?_push_of_some _ ((Heap.get?_update_ne _ _ _ _ hb).trans e))
 show wpAny (model prog w) A _ P E { s with heap:=((s.heap.update a (Obj.mapSeq fun _=>#[])).push (seqObj "tuple" vs.toArray 0)).push (seqObj "list" #[] 0) }
 dsimp only
 have hsz:vs.toArray.size=vs.length:=by simp
 by_cases h2:vs.toArray.size<2
 ·rw[if_pos h2,if_pos h2]
  refine wpAny_bind (wpAny_pure ?_)
  rw[StateT.run_pure]
  refine wpAny_bind (wpAny_pure ?_)
  dsimp only
  refine wpAny_bind (seqEpoch_at ho6 rfl ?_)
  refine wpAny_bind (listUpdate_at ho6 rfl ?_ (Nat.zero_le _) (hsz2:=by rw[Array.size_map];show (pairsOf vs).size≤_;rw[pairsOf_size,sizeLine_eq];omega))
  simp only[bne_self_eq_false,Bool.false_eq_true,if_false]
  have e:((arrOf (SortSt.mk' general' (vs.toArray.zip vs.toArray) #[] 7 none)).map (·.2))=vs.toArray:=by
   show (vs.toArray.zip vs.toArray).map (·.2)=_
   apply Array.toList_inj.mp
   rw[Array.toList_map]
   simp
   exact List.map_snd_zip (Nat.le_refl _)
  refine wpAny_pure ?_
  show P _ { s with heap:=sortedHeap s.heap a vs ((arrOf (SortSt.mk' general' (vs.toArray.zip vs.toArray) #[] 7 none)).map (·.2)) }
  rw[e]
  refine h vs.toArray (.refl _) ?_
  match vs,hsz,h2 with
  | [],_,_=>exact .nil
  | [_],_,_=>exact List.pairwise_singleton _ _
  | _::_::_,_,h2=>exact absurd h2 (by simp)
 ·rw[if_neg h2,if_neg h2]
  have t6:∀ v∈vs,∃ x y z,Tri (((s.heap.update a (Obj.mapSeq fun _=>#[])).push (seqObj "tuple" vs.toArray 0)).push (seqObj "list" #[] 0)) v x y z:=fun v hv=>let ⟨x,y,z,q⟩:=t v hv;⟨x,y,z,q.keeps kp⟩
  have mem0:∀ p∈(pairsOf vs).toList,p.1=p.2∧p.1∈vs:=fun p hp=>by rw[pairs_toList] at hp;exact zip_self_mem hp
  refine wpAny_bind (kind3 (by omega) t6 ?_)
  refine wpAny_bind (wpAny_mono (wpS_sortRunsT (rk:=fun p=>triRk s.heap p.1) (κ:=tuples' true) (a₀:=pairsOf vs) (st:=SortSt.mk' (tuples' true) (vs.toArray.zip vs.toArray) #[] 7 none)
   (Q:=fun _ st'=>(arrOf st').Perm (pairsOf vs)∧failedOf st'=none∧Seg (fun p=>triRk s.heap p.1) (arrOf st') 0 (pairsOf vs).size)
   (fun x hx y hy E' Q' q=>?_) ?_ ⟨Array.Perm.refl _,rfl,rfl,rfl⟩ (by rw[pairsOf_size];omega) (by rw[pairsOf_size];exact h128) fun st' a1 a2 a3=>⟨a1,a2,a3⟩) ?_ fun _ _ e=>e)
  ·obtain⟨x1,x2,x3,tx⟩:=t x.1 (mem0 x hx).2
   obtain⟨y1,y2,y3,ty⟩:=t y.1 (mem0 y hy).2
   refine lt3 (tx.keeps kp) (ty.keeps kp) ?_
   have q':Q' (decide (triRk s.heap x.1<triRk s.heap y.1)) _:=q
   rw[tx.rk,ty.rk] at q'
   exact q'
  ·rw[pairs_toList,zip_self_fst (triRk s.heap)];exact hd
  ·rintro⟨⟨⟩,st'⟩ s' ⟨rfl,hp,hf,hs⟩
   dsimp only
   have hpl:=Array.perm_iff_toList_perm.mp hp
   refine wpAny_bind (seqEpoch_at ho6 rfl ?_)
   refine wpAny_bind (listUpdate_at ho6 rfl ?_ (Nat.zero_le _) (hsz2:=by refine Nat.le_trans (Nat.le_of_eq ((Array.size_map ..).trans (hp.size_eq.trans (pairsOf_size _)))) ?_;rw[sizeLine_eq];omega))
   rw[hf]
   simp only[bne_self_eq_false,Bool.false_eq_true,if_false]
   refine wpAny_pure ?_
   show P _ { s with heap:=sortedHeap s.heap a vs ((arrOf st').map (·.2)) }
   refine h _ ?_ ?_
   ·rw[Array.toList_map]
    refine(hpl.map _).trans ?_
    rw[pairs_toList,List.map_snd_zip (Nat.le_refl _)]
   ·rw[Array.toList_map,List.pairwise_map]
    have z:(arrOf st').size=(pairsOf vs).size:=hp.size_eq
    rw[← z] at hs
    refine(seg_asc hs).imp_of_mem fun {p q} hp' hq' lt=>?_
    rw[← (mem0 p (hpl.mem_iff.mp hp')).1,← (mem0 q (hpl.mem_iff.mp hq')).1]
    exact lt
theorem sortNew3 {Q:PySem.Fin→Shared→Prop}{vs:List Value}(t:∀ v∈vs,∃ x y z,Tri s.heap v x y z) (hd:(vs.map (triRk s.heap)).Nodup) (h128:vs.length<128)
  (h:∀ (out:Array Value) h' c,(∀ b o,s.heap.get? b=some o→h'.get? b=some o)→h'.get? s.heap.objs.size=some { cls:=.type "list",dict:=none,data:=.seq out c,slots:=#[] }→out.toList.Perm vs→out.toList.Pairwise (fun u v=>triRk s.heap u<triRk s.heap v) →
   Q (.done (.ret (.ref s.heap.objs.size))) { s with heap:=h' }) :
  wpAny (model prog w) A (do let l ← newList vs;let _ ← holding [l] (call (.builtin "list.sort") [l] []);ret l) Q E s:=by
 refine wpAny_bind (wpAny_newList ?_ (by rw[sizeLine_eq];omega))
 have hoL:(s.heap.push (seqObj "list" vs.toArray 0)).get? s.heap.objs.size=some (seqObj "list" vs.toArray 0):=Heap.get?_push_size _ rfl
 have kp:∀ b o,o.cls=.type "tuple" → s.heap.get? b=some o→(s.heap.push (seqObj "list" vs.toArray 0)).get? b=some o:=fun b o _ e=>Heap.get?_push_of_some _ e
 have ers:∀ v∈vs,triRk (s.heap.push (seqObj "list" vs.toArray 0)) v=triRk s.heap v:=fun v hv=>by
  obtain⟨x,y,z,q⟩:=t v hv
  rw[(q.keeps kp).rk,q.rk]
 refine wpAny_bind (wpAny_holding (wpAny_call_entry slot_list_sort ⟨_,hoL,rfl⟩ entry_list_sort (list_sort_tree3 hoL (fun v hv=>let ⟨x,y,z,q⟩:=t v hv;⟨x,y,z,q.keeps kp⟩) ?_ h128 fun out a1 a2=>⟨_,rfl,?_⟩) (args_list_sort _)))
 ·show (vs.map (triRk (s.heap.push (seqObj "list" vs.toArray 0)))).Nodup
  rw[List.map_congr_left ers];exact hd
 ·obtain⟨e,he⟩:=sortedHeap_at (out:=out) hoL
  refine wpAny_pure (h out _ e (fun b o q=>?_) he a1 ?_)
  ·have lt:=Heap.lt_size q
   show (sortedHeap (s.heap.push (seqObj "list" vs.toArray 0)) s.heap.objs.size vs out).get? b=some o
   rw[sortedHeap_old (Nat.ne_of_lt lt) (by rw[Heap.size_push];exact Nat.lt_succ_of_lt lt)]
   exact Heap.get?_push_of_some _ q
  ·refine a2.imp_of_mem fun {p q} hp hq lt=>?_
   rw[← ers p (a1.mem_iff.mp hp),← ers q (a1.mem_iff.mp hq)];exact lt
theorem sorted_by3 {Q:Value→Shared→Prop}{x:Value}
  (hc:wpAny (model prog w) A.in1 (collect x) (fun vs s1=>(∀ v∈vs,∃ x y z,Tri s1.heap v x y z)∧(vs.map (triRk s1.heap)).Nodup∧vs.length<128 ∧
   ∀ (out:Array Value) h' c,(∀ b o,s1.heap.get? b=some o→h'.get? b=some o)→h'.get? s1.heap.objs.size=some { cls:=.type "list",dict:=none,data:=.seq out c,slots:=#[] }→out.toList.Perm vs→out.toList.Pairwise (fun u v=>triRk s1.heap u<triRk s1.heap v) →
    Q (.ref s1.heap.objs.size) { s1 with heap:=h' }) E s) :
  wpAny (model prog w) A (call (.builtin "sorted") [x]) Q E s:=by
 refine Calls.call_function_entry kind_sorted plain_sorted entry_sorted (args_sorted1 _) ?_
 unfold Builtin.«sorted»
 refine wpAny_bind (m:=checkCount "sorted" 1 1 _) (wpAny_pure ?_)
 refine wpAny_bind (wpAny_mono hc (fun vs s1 h1=>?_) fun _ _ e=>e)
 obtain⟨t,hd,h128,fin⟩:=h1
 exact sortNew3 t hd h128 fun out h' c a b d e=>⟨_,rfl,fin out h' c a b d e⟩
end
end Tim
namespace L2
open PySem PySem.Spec PyProof.Rows
def rk3 (H:Hp) (v:V):Int:=match v with
 | .ref b=>match H b with
  | some (.tup [.int x,.int y,.int z])=>Tim.code3 x y z
  | _=>0
 | _=>0
def Nm (H:Hp) (v:V):Prop:=∃ b x y z,v=.ref b∧H b=some (.tup [.int x,.int y,.int z])∧0≤y∧y<1000∧0≤z∧z<1000
section
variable {X:Cx}
theorem tri_of {P:Program}{w:World}{H:Hp}{h:Heap}{b:Addr}{x y z:Int}(ok:HOk P w H h) (e:H b=some (.tup [.int x,.int y,.int z])) (q:0≤y∧y<1000∧0≤z∧z<1000):Tim.Tri h (.ref b) x y z:=by
 obtain⟨_,its,r,o,ho,hc,n,hd⟩:=ok b _ e
 cases r with
 | cons r1 r=>
 cases r with
 | cons r2 r=>
 cases r with
 | cons r3 r=>
 cases r
 obtain⟨t1,rfl⟩:=r1
 obtain⟨t2,rfl⟩:=r2
 obtain⟨t3,rfl⟩:=r3
 exact⟨b,o,n,t1,t2,t3,rfl,ho,hc,hd,q.1,q.2.1,q.2.2.1,q.2.2.2⟩
theorem nm_vals {H:Hp}:∀ {ls:List V}{its:List Value},(∀ v∈ls,Nm H v)→Vals ls its→∃ bs:List Addr,ls=bs.map V.ref∧its=bs.map Value.ref
 | _,_,_,.nil=>⟨[],rfl,rfl⟩
 | v::ls,u::its,n,.cons r t=>by
  obtain⟨bs,e1,e2⟩:=nm_vals (fun v hv=>n v (List.mem_cons_of_mem _ hv)) t
  obtain⟨b,_,_,_,rfl,_⟩:=n v List.mem_cons_self
  cases r
  exact⟨b::bs,by rw[e1];rfl,by rw[e2];rfl⟩
theorem refs_perm {out:List Value}{bs:List Addr}(h:out.Perm (bs.map Value.ref)):∃ cs:List Addr,out=cs.map Value.ref∧cs.Perm bs:=by
 refine⟨out.map fun v=>match v with | .ref a=>a|_=>0,?_,?_⟩
 ·rw[List.map_map]
  symm
  refine(List.map_congr_left fun v hv=>?_).trans (List.map_id _)
  obtain⟨b,_,rfl⟩:=List.mem_map.mp (h.mem_iff.mp hv)
  rfl
 ·refine(h.map _).trans ?_
  rw[List.map_map]
  exact .of_eq ((List.map_congr_left fun _ _=>rfl).trans (List.map_id _))
theorem vals_refs:∀ (bs:List Addr),Vals (bs.map V.ref) (bs.map Value.ref)
 | []=>.nil
 | _::bs=>.cons rfl (vals_refs bs)
def rSort3 (K:PySem.W.Frag):List V→Hp→VK→Prop:=fun xs H Q=>∃ p ls,xs=[.ref p]∧SqL K H p ls∧ls.length<128∧(∀ v∈ls,Nm H v)∧(ls.map (rk3 H)).Nodup ∧
 ∀ l ls',H l=none→ls'.Perm ls→ls'.Pairwise (fun u v=>rk3 H u<rk3 H v)→Q (.ref l) (upd H l (.lst ls'))
theorem call_sort3 {K:PySem.W.Frag}(hK:X.K=K:=by rfl):CallR X (.builtin "sorted") (rSort3 K):=by
 subst hK
 intro pins s σ H xs us Q I r h
 obtain⟨p,ls,rfl,hq,few,nm,nd,q⟩:=h
 obtain⟨u,rfl,rx⟩:=vals1 r
 cases rx
 obtain⟨its,r',pl,hz⟩:=I.list hq
 obtain⟨bs,rfl,rfl⟩:=nm_vals nm r'
 have oth:∀ b o,s.heap.get? b=some o→((s.heap.push (seqObj "list" #[] 0)).update s.heap.objs.size (Obj.mapSeq (· ++ (bs.map Value.ref).toArray))).get? b=some o:=fun b o e=>
  (Heap.get?_update_other _ _ (Nat.ne_of_gt (Heap.lt_size e))).trans (Heap.get?_push_of_some _ e)
 have I1:Inv X pins σ H { s with heap:=(s.heap.push (seqObj "list" #[] 0)).update s.heap.objs.size (Obj.mapSeq (· ++ (bs.map Value.ref).toArray)) }:=I.kept (t':=s.toks) oth
 have ers:∀ b∈bs,Tim.triRk ((s.heap.push (seqObj "list" #[] 0)).update s.heap.objs.size (Obj.mapSeq (· ++ (bs.map Value.ref).toArray))) (.ref b)=rk3 H (.ref b)∧∃ x y z,Tim.Tri ((s.heap.push (seqObj "list" #[] 0)).update s.heap.objs.size (Obj.mapSeq (· ++ (bs.map Value.ref).toArray))) (.ref b) x y z:=fun b hb=>by
  obtain⟨b',x,y,z,e,e2,qq⟩:=nm _ (List.mem_map_of_mem hb)
  cases e
  have T:=tri_of I1.hok e2 qq
  exact⟨by rw[T.rk];unfold rk3;simp only[e2],x,y,z,T⟩
 refine Tim.sorted_by3 (collect_list pl.isList ⟨fun v hv=>?_,?_,by simpa using few,fun out h' c kp' e pm so=>?_⟩ (by rw[sizeLine_eq];simp at few ⊢;omega))
 ·obtain⟨b,hb,rfl⟩:=List.mem_map.mp hv
  exact(ers b hb).2
 ·rw[List.map_map] at nd ⊢
  exact(List.map_congr_left (f:=Tim.triRk ((s.heap.push (seqObj "list" #[] 0)).update s.heap.objs.size (Obj.mapSeq (· ++ (bs.map Value.ref).toArray))) ∘ Value.ref) (g:=rk3 H ∘ V.ref) fun b hb=>(ers b hb).1) ▸ nd
 ·obtain⟨cs,e2,pm2⟩:=refs_perm pm
  have hz':(cs.map V.ref).length≤sizeLine:=by
   rw[List.length_map,pm2.length_eq];simpa using hz
  refine⟨.ref _,_,I1.laid (t':=s.toks) kp' (Nat.le_refl _) (show ObjOk X.prog X.w _ h' _ (.lst (cs.map V.ref)) from ⟨hz',out.toList,c,by rw[e2];exact vals_refs cs,by rw[e]⟩),rfl,q _ (cs.map V.ref) I1.fresh (pm2.map _) ?_⟩
  rw[e2,List.pairwise_map] at so
  rw[List.pairwise_map]
  refine so.imp_of_mem fun {b c} hb hc lt=>?_
  rw[← (ers b (pm2.mem_iff.mp hb)).1,← (ers c (pm2.mem_iff.mp hc)).1];exact lt
end
end L2
set_option Elab.async false
set_option linter.all false
set_option maxRecDepth 100000
namespace Tim
open PySem PyProof.Rows PySem.W
theorem Walks.keysRaw {prog:Program}{w:World}{A:Around}(hh:A.handled=none) (it d:Addr) (hne:d≠it) {od:Obj}{es:Array DictEntry}{ep:Nat}(hd:od.data=.dict es ep) :
  Walks prog w A it [it,d] [it] es.size (fun i v=>∃ e,es[i]? = some e∧v=e.key) (fun i h=>h.IsKeyIter it d i es.size ep∧h.get? d=some od) where
 sub:=fun b hb=>by simp at hb;simp[hb]
 frame:=fun _ _ _ st hk=>⟨st.1.at fun o e=>hk it (by simp) o e,hk d (by simp) _ st.2⟩
 item:=fun i s Q E hi st hQ=>by
  refine next_raw st.1 st.2 hd hi fun h' hit' hs'=>?_
  exact hQ _ h' s.toks ⟨_,Array.getElem?_eq_getElem hi,rfl⟩ ⟨hit',(hs'.2 d hne).trans st.2⟩ fun b o hb e=>(hs'.2 b (fun z=>hb (by simp[z]))).trans e
 done:=fun s Q E st hQ=>end_raw hh st.1 st.2 hd (Nat.le_refl _) fun h' he'=>hQ h' s.toks fun b o hb e=>he' b o (fun z=>hb (by simp[z])) e
 self:=fun _ _ _ _ st hQ=>wpAny_pyIter_keyiter st.1 hQ
section
variable {prog:Program}{w:World}{A:Around}{E:Value→Shared→Prop}{s:Shared}
theorem richLt3 {v u:Value}{x y z x' y' z':Int}{Q:Value→Shared→Prop}(hu:A.units<cLine) (t:Tri s.heap v x y z) (t':Tri s.heap u x' y' z') (h:Q (.bool (decide (code3 x y z<code3 x' y' z'))) s):wpAny (model prog w) A (richCompare .Lt v u) Q E s:=by
 obtain⟨b,o,n,t1,t2,t3,rfl,e,c,d,q1,q2,q3,q4⟩:=t
 obtain⟨b',o',n',t1',t2',t3',rfl,e',c',d',r1,r2,r3,r4⟩:=t'
 unfold code3 at h
 refine wpAny_richCompare_same_room (op:=.Lt) ⟨o,e,c⟩ ⟨o',e',c'⟩ F.slot_tuple_lt (wpAny_call_entry F.slot_tuple_lt ⟨o,e,c⟩ F.entry_tuple_lt ?_ (F.args_tuple_lt_2 _ _)) hu
 show wpAny _ _ (isInstance (.ref b') (.type "tuple") >>= _) _ _ s
 refine wpAny_bind (wpAny_isInstance (T:="tuple") ⟨o',e',c'⟩ isSubtype_tuple_tuple ?_)
 simp only[Bool.not_true,Bool.false_eq_true,if_false]
 refine wpAny_bind (wpAny_tupleItemsOf e d ?_)
 refine wpAny_bind (wpAny_tupleItemsOf e' d' ?_)
 refine wpAny_bind ?_
 simp only[List.zip_cons_cons,List.zip_nil_right,List.forIn_cons,List.forIn_nil]
 refine wpAny_bind (wpAny_bind (wpAny_eqBool_int ?_))
 by_cases h1:x=x'
 ·subst h1
  rw[show (x == x)=true by simp]
  simp only[Bool.not_true,Bool.false_eq_true,if_false]
  refine wpAny_pure ?_
  dsimp only
  refine wpAny_bind (wpAny_bind (wpAny_eqBool_int ?_))
  by_cases h2:y=y'
  ·subst h2
   rw[show (y == y)=true by simp]
   simp only[Bool.not_true,Bool.false_eq_true,if_false]
   refine wpAny_pure ?_
   dsimp only
   refine wpAny_bind (wpAny_bind (wpAny_eqBool_int ?_))
   by_cases h3:z=z'
   ·subst h3
    rw[show (z == z)=true by simp]
    simp only[Bool.not_true,Bool.false_eq_true,if_false]
    refine wpAny_pure ?_
    dsimp only
    refine wpAny_pure ?_
    dsimp only
    refine wpAny_pure ⟨_,rfl,(fun z=>nomatch z),?_⟩
    rwa [show decide (x*1000000+y*1000+z<x*1000000+y*1000+z)=false by simp] at h
   ·rw[show (z == z')=false by simpa using h3]
    simp only[Bool.not_false,if_true]
    refine wpAny_bind (wpAny_rule (wpAny_bind (lt_int (wpAny_bind (wpAny_pure (wpAny_pure ?_))))))
    dsimp only
    repeat' (refine wpAny_pure ?_;try dsimp only)
    refine⟨_,rfl,(fun z=>nomatch z),?_⟩
    rwa [show decide (x*1000000+y*1000+z<x*1000000+y*1000+z')=decide (z<z') by rw[decide_eq_decide];omega] at h
  ·rw[show (y == y')=false by simpa using h2]
   simp only[Bool.not_false,if_true]
   refine wpAny_bind (wpAny_rule (wpAny_bind (lt_int (wpAny_bind (wpAny_pure (wpAny_pure ?_))))))
   dsimp only
   repeat' (refine wpAny_pure ?_;try dsimp only)
   refine⟨_,rfl,(fun z=>nomatch z),?_⟩
   rwa [show decide (x*1000000+y*1000+z<x*1000000+y'*1000+z')=decide (y<y') by rw[decide_eq_decide];omega] at h
 ·rw[show (x == x')=false by simpa using h1]
  simp only[Bool.not_false,if_true]
  refine wpAny_bind (wpAny_rule (wpAny_bind (lt_int (wpAny_bind (wpAny_pure (wpAny_pure ?_))))))
  dsimp only
  repeat' (refine wpAny_pure ?_;try dsimp only)
  refine⟨_,rfl,(fun z=>nomatch z),?_⟩
  rwa [show decide (x*1000000+y*1000+z<x'*1000000+y'*1000+z')=decide (x<x') by rw[decide_eq_decide];omega] at h
end
def Low (val:Nat→Int) (j m:Nat):Prop:=m<j∧∀ i,i<j→val m≤val i
section
variable {prog:Program}{w:World}{A:Around}{R:Result→Shared→Prop}{it S:Addr}{fp wr:List Addr}{n:Nat}{Pi:Nat→Value→Prop}{St:Nat→Heap→Prop}{x y z:Nat→Int}{bs:Nat→Addr}
theorem min3_loop (W:Walks prog w A.in1 it fp wr n Pi St) (hv:∀ i v,Pi i v→v=.ref (bs i)) (out:S∉fp) (hu:A.in1.units<cLine) (hb:∀ i,i<n→bs i∉wr∧bs i≠S) :
  ∀ (left j:Nat) (s:Shared) (m:Nat) (c:Nat),left=n-j→0<j→j≤n→St j s.heap→Low (fun i=>code3 (x i) (y i) (z i)) j m→(∀ i,i<n→Tri s.heap (.ref (bs i)) (x i) (y i) (z i)) →
   s.heap.get? S=some { cls:=.type "list",dict:=none,data:=.seq #[.ref (bs m),.ref (bs m)] c,slots:=#[] } →
   (∀ m' h' tk,Low (fun i=>code3 (x i) (y i) (z i)) n m'→(∀ b o,b∉wr→b≠S→s.heap.get? b=some o→h'.get? b=some o)→R (.ok (.ret (.ref (bs m')))) { s with heap:=h',toks:=tk }) →
   codeAny (model prog w) A (.builtin "min.loop" ⟨[.ref it,.none,.ref S],[]⟩) R s:=by
 have outw:S∉wr:=fun z=>out (W.sub _ z)
 have nm:(toString "min" ++ toString ".loop" : String) = "min.loop":=by decide
 intro left
 induction left with
 | zero=>
  intro j s m c hl h0 hj hst tp ht hS fin
  obtain rfl:j=n:=by omega
  refine codeAny_builtin F.entry_min_loop ?_
  rw[Around.under_plainId F.plain_min_loop _]
  refine wpAny_bind (wpAny_seqItems hS rfl ?_)
  refine wpAny_bind (wpAny_tryCatch (W.done s _ _ hst fun h' tk kp=>?_))
  refine wpAny_bind (wpAny_updateSeq (kp S _ outw hS) rfl (wpAny_bind (wpAny_letGo (wpAny_pure ?_))))
  exact fin m _ tk tp fun b o nb nS e=>(Heap.get?_update_other _ _ (Ne.symm nS)).trans (kp b o nb e)
 | succ left ih=>
  intro j s m c hl h0 hj hst tp ht hS fin
  have lt:j<n:=by omega
  refine codeAny_builtin F.entry_min_loop ?_
  rw[Around.under_plainId F.plain_min_loop _]
  refine wpAny_bind (wpAny_seqItems hS rfl ?_)
  refine wpAny_bind (wpAny_tryCatch (W.item j s _ _ lt hst fun v h' tk pv hst' kp=>?_))
  have hS':=kp S _ outw hS
  have ht':∀ i,i<n→Tri h' (.ref (bs i)) (x i) (y i) (z i):=fun i hi=>by
   obtain⟨b,o,q,t1,t2,t3,e0,e,r⟩:=ht i hi
   cases e0
   exact⟨_,o,q,t1,t2,t3,rfl,kp _ o (hb i hi).1 e,r⟩
  obtain rfl:=hv j v pv
  refine wpAny_bind (wpAny_pure ?_)
  refine wpAny_bind (wpAny_tryCatch (wpAny_holding (wpAny_bind ?_)))
  refine richLt3 hu (ht' j lt) (ht' m (by have:=tp.1;omega)) ?_
  refine wpAny_bind (wpAny_holding (wpAny_truthy_bool ?_))
  refine wpAny_bind (wpAny_letGo (wpAny_pure ?_))
  by_cases g:code3 (x j) (y j) (z j)<code3 (x m) (y m) (z m)
  ·have tp':Low (fun i=>code3 (x i) (y i) (z i)) (j+1) j:=⟨by omega,fun i hi=>by
    by_cases e:i=j
    ·subst e;exact Int.le_refl _
    ·have:=tp.2 i (by omega)
     dsimp only at this ⊢
     omega⟩
   rw[if_pos (decide_eq_true g)]
   refine wpAny_bind (wpAny_updateSeq hS' rfl (wpAny_bind (wpAny_letGo ?_)))
   rw[nm]
   refine wpAny_pure ⟨plainId_quiet F.plain_min_loop _,ih (j+1) _ j _ (by omega) (by omega) lt (W.frame _ _ _ hst' fun b hbf o e=>?_) tp' (fun i hi=>?_) (Heap.get?_update_self _ hS' rfl) fun m' h'' tk'' q kp'=>?_⟩
   ·exact(Heap.get?_update_other _ _ (fun z:S=b=>out (z ▸ hbf))).trans e
   ·obtain⟨b,o,q,t1,t2,t3,e0,e,r⟩:=ht' i hi
    cases e0
    exact⟨_,o,q,t1,t2,t3,rfl,(Heap.get?_update_other _ _ (Ne.symm (hb i hi).2)).trans e,r⟩
   ·exact fin m' h'' tk'' q fun b o nb nS e=>kp' b o nb nS ((Heap.get?_update_other _ _ (Ne.symm nS)).trans (kp b o nb e))
  ·have tp':Low (fun i=>code3 (x i) (y i) (z i)) (j+1) m:=⟨by have:=tp.1;omega,fun i hi=>by
    by_cases e:i=j
    ·subst e
     dsimp only
     omega
    ·exact tp.2 i (by omega)⟩
   rw[if_neg (fun z=>g (of_decide_eq_true z))]
   refine wpAny_bind (wpAny_letGo ?_)
   rw[nm]
   refine wpAny_pure ⟨plainId_quiet F.plain_min_loop _,ih (j+1) _ m c (by omega) (by omega) lt hst' tp' ht' hS' fun m' h'' tk'' q kp'=>?_⟩
   exact fin m' h'' tk'' q fun b o nb nS e=>kp' b o nb nS (kp b o nb e)
theorem min3_first (W:Walks prog w A.in1 it fp wr n Pi St) (hv:∀ i v,Pi i v→v=.ref (bs i)) (out:S∉fp) (hu:A.in1.units<cLine) (hb:∀ i,i<n→bs i∉wr∧bs i≠S) (hn:0<n) {s:Shared}{c:Nat}(hst:St 0 s.heap) (ht:∀ i,i<n→Tri s.heap (.ref (bs i)) (x i) (y i) (z i))
  (hS:s.heap.get? S=some { cls:=.type "list",dict:=none,data:=.seq #[] c,slots:=#[] })
  (fin:∀ m' h' tk,Low (fun i=>code3 (x i) (y i) (z i)) n m'→(∀ b o,b∉wr→b≠S→s.heap.get? b=some o→h'.get? b=some o)→R (.ok (.ret (.ref (bs m')))) { s with heap:=h',toks:=tk }) :
  codeAny (model prog w) A (.builtin "min.loop" ⟨[.ref it,.none,.ref S],[]⟩) R s:=by
 have outw:S∉wr:=fun z=>out (W.sub _ z)
 have nm:(toString "min" ++ toString ".loop" : String) = "min.loop":=by decide
 refine codeAny_builtin F.entry_min_loop ?_
 rw[Around.under_plainId F.plain_min_loop _]
 refine wpAny_bind (wpAny_seqItems hS rfl ?_)
 refine wpAny_bind (wpAny_tryCatch (W.item 0 s _ _ hn hst fun v h' tk pv hst' kp=>?_))
 have hS':=kp S _ outw hS
 obtain rfl:=hv 0 v pv
 show wpAny _ A.in1 (updateSeq S (fun _=>#[.ref (bs 0),.ref (bs 0)]) >>= _) _ _ _
 refine wpAny_bind (wpAny_updateSeq hS' rfl ?_)
 rw[nm]
 refine wpAny_pure ⟨plainId_quiet F.plain_min_loop _,min3_loop (x:=x) (y:=y) (z:=z) W hv out hu hb _ 1 _ 0 _ rfl (by omega) hn (W.frame _ _ _ hst' fun b hbf o e=>?_) ⟨by omega,fun i hi=>?_⟩ (fun i hi=>?_) (Heap.get?_update_self _ hS' rfl) fun m' h'' tk'' q kp'=>?_⟩
 ·exact(Heap.get?_update_other _ _ (fun z:S=b=>out (z ▸ hbf))).trans e
 ·obtain rfl:i=0:=by omega
  exact Int.le_refl _
 ·obtain⟨b,o,q,t1,t2,t3,e0,e,r⟩:=ht i hi
  cases e0
  exact⟨_,o,q,t1,t2,t3,rfl,(Heap.get?_update_other _ _ (Ne.symm (hb i hi).2)).trans (kp _ o (hb i hi).1 e),r⟩
 ·exact fin m' h'' tk'' q fun b o nb nS e=>kp' b o nb nS ((Heap.get?_update_other _ _ (Ne.symm nS)).trans (kp b o nb e))
end
end Tim
namespace L2
open PySem PySem.Spec PyProof.Rows
section
variable {X:Cx}
theorem op_isB:OpR X (compareOp .Is) (fun x y H Q=>∃ a b,x=.bl a∧y=.bl b∧Q (.bl (a == b)) H):=by
 intro pins s σ H x y v u Q I rx ry h
 obtain⟨a,b,rfl,rfl,q⟩:=h
 cases rx;cases ry
 exact is_bool (fin_bl I q rfl)
def rIntB:List V→Hp→VK→Prop:=fun xs H Q=>∃ b,xs=[.bl b]∧Q (.int (if b then 1 else 0)) H
theorem call_intB:CallR X (.type "int") rIntB:=by
 intro pins s σ H xs us Q I r h
 obtain⟨b,rfl,q⟩:=h
 obtain⟨u,rfl,rx⟩:=vals1 r
 cases rx
 exact call_int_bool ⟨.int (if b then 1 else 0),H,I.tok _,⟨_,rfl⟩,q⟩
def tNotT (K:PySem.W.Frag) (ta:TE):TE:=fun σ H Q=>ta σ H fun x H1=>∃ k,TruV K x H1 k∧Q (.bl (!k)) H1
theorem pe_notT {K:PySem.W.Frag}{a:Expr}{ta:TE}{pos:Pos}(ha:PE X a ta) (hK:X.K=K:=by rfl):PE X (.UnaryOp .Not a pos) (tNotT K ta):=by
 subst hK
 intro pins s σ H Q I h
 refine UnaryOp_ (thn (ha pins s σ H _ I h) fun v s1 ⟨x,H1,I1,r1,k,tv,q⟩=>?_)
 exact not_of (thn (tru_ok pins s1 σ H1 x v (fun b H'=>Q (.bl (!b)) H') I1 r1 ⟨k,tv,q⟩) fun b s2 ⟨H2,I2,q2⟩=>⟨.bl (!b),H2,I2,rfl,q2⟩)
theorem vals_two {a b:Int}{us:List Value}(r:Vals [.int a,.int b] us):∃ t1 t2,us=[.int a t1,.int b t2]:=by
 cases r with
 | cons r1 r=>
 cases r with
 | cons r2 r=>
 cases r
 obtain⟨t1,rfl⟩:=r1
 obtain⟨t2,rfl⟩:=r2
 exact⟨t1,t2,rfl⟩
def rMaxP (K:PySem.W.Frag):List V→Hp→VK→Prop:=fun xs H Q=>∃ p a b,xs=[.ref p]∧SqT K H p [.int a,.int b]∧Q (.int (max a b)) H
def rMinP (K:PySem.W.Frag):List V→Hp→VK→Prop:=fun xs H Q=>∃ p a b,xs=[.ref p]∧SqT K H p [.int a,.int b]∧Q (.int (min a b)) H
theorem call_maxP {K:PySem.W.Frag}(hc:X.calm=true) (hK:X.K=K:=by rfl):CallR X (.builtin "max") (rMaxP K):=by
 subst hK
 intro pins s σ H xs us Q I r h
 obtain⟨p,a,b,rfl,hq,q⟩:=h
 obtain⟨u,rfl,rx⟩:=vals1 r
 cases rx
 obtain⟨its,rv,pl,_⟩:=I.tuple hq
 obtain⟨t1,t2,rfl⟩:=vals_two rv
 have lt:p<s.heap.objs.size:=pl.lt
 refine call_max_walk (wpAny_pyIter_tuple pl ⟨s.heap.objs.size,_,_,_,_,_,_,rfl,Walks.tuple (by simpa using I.ok.hd hc) s.heap.objs.size p (Nat.ne_of_lt lt) _,⟨⟨_,Heap.get?_push_size _ rfl,rfl,rfl⟩,pl.push _⟩,fun d hd=>?_,by simp,CmpOf.ints_gt (fun i=>[a,b].getD i 0) (fun i v hi=>?_),fun v h' tk hP hk=>?_⟩)
 ·simp only[List.mem_cons,List.not_mem_nil,or_false] at hd
  show d<(s.heap.push _).objs.size
  rw[Heap.size_push]
  rcases hd with h|h
  ·rw[h];exact Nat.lt_succ_self _
  ·rw[h];exact Nat.lt_succ_of_lt lt
 ·match i,hi with
  | 0,hi=>exact⟨t1,by simpa using hi.symm⟩
  | 1,hi=>exact⟨t2,by simpa using hi.symm⟩
  | n+2,hi=>simp at hi
 ·have J:Inv X pins σ H { s with heap:=h',toks:=tk }:=I.kept fun c o e=>hk c o (by simp only[List.mem_singleton];exact Nat.ne_of_lt (Heap.lt_size e)) (Heap.get?_push_of_some _ e)
  have e:∃ t,v=.int (max a b) t:=by
   have hP':(#[Value.int a t1,Value.int b t2]:Array Value)[if decide (b>a) then 1 else 0]? = some v:=hP
   by_cases g:b>a
   ·rw[if_pos (decide_eq_true g)] at hP'
    refine⟨t2,?_⟩
    rw[show max a b=b by omega]
    simpa using hP'.symm
   ·rw[if_neg (fun z=>g (of_decide_eq_true z))] at hP'
    refine⟨t1,?_⟩
    rw[show max a b=a by omega]
    simpa using hP'.symm
  obtain⟨t,rfl⟩:=e
  exact⟨.int (max a b),H,J,⟨t,rfl⟩,q⟩
theorem call_minP {K:PySem.W.Frag}(hc:X.calm=true) (hK:X.K=K:=by rfl):CallR X (.builtin "min") (rMinP K):=by
 subst hK
 intro pins s σ H xs us Q I r h
 obtain⟨p,a,b,rfl,hq,q⟩:=h
 obtain⟨u,rfl,rx⟩:=vals1 r
 cases rx
 obtain⟨its,rv,pl,_⟩:=I.tuple hq
 obtain⟨t1,t2,rfl⟩:=vals_two rv
 have lt:p<s.heap.objs.size:=pl.lt
 refine call_min_walk (wpAny_pyIter_tuple pl ⟨s.heap.objs.size,_,_,_,_,_,_,rfl,Walks.tuple (by simpa using I.ok.hd hc) s.heap.objs.size p (Nat.ne_of_lt lt) _,⟨⟨_,Heap.get?_push_size _ rfl,rfl,rfl⟩,pl.push _⟩,fun d hd=>?_,by simp,CmpOf.ints_lt (fun i=>[a,b].getD i 0) (fun i v hi=>?_),fun v h' tk hP hk=>?_⟩)
 ·simp only[List.mem_cons,List.not_mem_nil,or_false] at hd
  show d<(s.heap.push _).objs.size
  rw[Heap.size_push]
  rcases hd with h|h
  ·rw[h];exact Nat.lt_succ_self _
  ·rw[h];exact Nat.lt_succ_of_lt lt
 ·match i,hi with
  | 0,hi=>exact⟨t1,by simpa using hi.symm⟩
  | 1,hi=>exact⟨t2,by simpa using hi.symm⟩
  | n+2,hi=>simp at hi
 ·have J:Inv X pins σ H { s with heap:=h',toks:=tk }:=I.kept fun c o e=>hk c o (by simp only[List.mem_singleton];exact Nat.ne_of_lt (Heap.lt_size e)) (Heap.get?_push_of_some _ e)
  have e:∃ t,v=.int (min a b) t:=by
   have hP':(#[Value.int a t1,Value.int b t2]:Array Value)[if decide (b<a) then 1 else 0]? = some v:=hP
   by_cases g:b<a
   ·rw[if_pos (decide_eq_true g)] at hP'
    refine⟨t2,?_⟩
    rw[show min a b=b by omega]
    simpa using hP'.symm
   ·rw[if_neg (fun z=>g (of_decide_eq_true z))] at hP'
    refine⟨t1,?_⟩
    rw[show min a b=a by omega]
    simpa using hP'.symm
  obtain⟨t,rfl⟩:=e
  exact⟨.int (min a b),H,J,⟨t,rfl⟩,q⟩
def Keys3 (kvs:List (List Key×V)) (ns:List (Int×Int×Int)):Prop:=kvs.map (·.1)=ns.map (fun n=>[Sum.inl n.1,Sum.inl n.2.1,Sum.inl n.2.2])
def rMinT:List V→Hp→VK→Prop:=fun xs H Q=>∃ a kvs ns,xs=[.ref a]∧Rd H a (.dT kvs)∧Keys3 kvs ns∧ns≠[]∧(∀ n∈ns,0≤n.2.1∧n.2.1<1000∧0≤n.2.2∧n.2.2<1000) ∧
 ∀ b n,n∈ns→(∀ m∈ns,Tim.code3 n.1 n.2.1 n.2.2≤Tim.code3 m.1 m.2.1 m.2.2)→H b=some (.tup [.int n.1,.int n.2.1,.int n.2.2])→Q (.ref b) H
theorem call_minT (hc:X.calm=true) (hu:X.A.units+1<cLine):CallR X (.builtin "min") rMinT:=by
 intro pins s σ H xs us Q I r h
 obtain⟨a,kvs,ns,rfl,e,hk,ne,sm,q⟩:=h
 obtain⟨u,rfl,rx⟩:=vals1 r
 cases rx
 obtain⟨z,hd,xs,rel,o,es,ep,ho,hx,hdat,he,his,hn⟩:=dt_rd I.hok e
 have lx:xs.length=kvs.length:=(Paired.length rel).symm
 have le:es.size=kvs.length:=by rw[← lx];exact size_of_entries he
 have ln:ns.length=kvs.length:=by have:=congrArg List.length hk;simpa using this.symm
 have key:∀ i,i<kvs.length→∃ n b v,ns[i]? = some n∧xs[i]? = some ([Sum.inl n.1,Sum.inl n.2.1,Sum.inl n.2.2],b,v)∧H b=some (.tup [.int n.1,.int n.2.1,.int n.2.2]):=fun i hi=>by
  obtain⟨y,hy,f1,f2,f3⟩:=Paired.fetch rel (List.getElem?_eq_getElem hi)
  have hn:ns[i]? = some (ns[i]'(by omega)):=List.getElem?_eq_getElem _
  have k1:(kvs.map (·.1))[i]? = some (kvs[i].1):=by rw[List.getElem?_map,List.getElem?_eq_getElem hi];rfl
  have hk':kvs.map (·.1)=ns.map (fun n=>[Sum.inl n.1,Sum.inl n.2.1,Sum.inl n.2.2]):=hk
  rw[hk',List.getElem?_map,hn] at k1
  have k2:kvs[i].1=[Sum.inl (ns[i]'(by omega)).1,Sum.inl (ns[i]'(by omega)).2.1,Sum.inl (ns[i]'(by omega)).2.2]:=(Option.some.inj k1).symm
  obtain⟨yk,yb,yv⟩:=y
  refine⟨_,yb,yv,hn,?_,?_⟩
  ·rw[hy]
   have:kvs[i].1=yk:=f1
   rw[← this,k2]
  ·have f2':H yb=some (.tup (kvs[i].1.map kV)):=f2
   rw[k2] at f2'
   exact f2'
 have fg:∀ (i:Nat) (n:Int×Int×Int) (b:Addr) (v:Value),ns[i]? = some n→xs[i]? = some ([Sum.inl n.1,Sum.inl n.2.1,Sum.inl n.2.2],b,v)→(xs[i]?.map (·.2.1)).getD 0=b∧(ns[i]?.map (·.1)).getD 0=n.1∧(ns[i]?.map (·.2.1)).getD 0=n.2.1∧(ns[i]?.map (·.2.2)).getD 0=n.2.2:=fun i n b v h1 h2=>by
  rw[h1,h2];exact⟨rfl,rfl,rfl,rfl⟩
 have la:a<s.heap.objs.size:=Heap.lt_size ho
 have nm:(toString "min" ++ toString ".loop" : String) = "min.loop":=by decide
 refine call_function_tree F.kind_min F.plain_min F.entry_min (F.args_min1 _) ?_
 refine wpAny_bind (m:=Builtin.Builtins.bindParams "min" ["key","default"] 0 ⟨[],[]⟩) (wpAny_of_eq (show Builtin.Builtins.bindParams "min" ["key","default"] 0 ⟨[],[]⟩=pure [none,none] from rfl) ?_)
 refine wpAny_bind (wpAny_pure ?_)
 refine wpAny_bind (iter_raw hd ho hx hdat ?_)
 refine wpAny_bind (wpAny_newObj_type ?_)
 rw[nm]
 let h1:Heap:=s.heap.push { cls:=.type "dict_keyiterator",data:=.fields #[.ref a,.int 0 0,.int es.size 0,.int ep 0] }
 have sz:h1.objs.size=s.heap.objs.size+1:=Heap.size_push ..
 have old:∀ b o,s.heap.get? b=some o→(h1.push { cls:=.type "list",data:=.seq #[] 0 }).get? b=some o:=fun b o e=>Heap.get?_push_of_some _ (Heap.get?_push_of_some _ e)
 have blt:∀ i,i<kvs.length→(xs[i]?.map (·.2.1)).getD 0<s.heap.objs.size:=fun i hi=>by
  obtain⟨n,b,v,e1,e2,e3⟩:=key i hi
  rw[(fg i n b v e1 e2).1]
  exact I.hok.lt e3
 refine wpAny_pure ⟨plainId_quiet F.plain_min_loop _,Tim.min3_first (S:=h1.objs.size) (bs:=fun i=>(xs[i]?.map (·.2.1)).getD 0) (x:=fun i=>(ns[i]?.map (·.1)).getD 0) (y:=fun i=>(ns[i]?.map (·.2.1)).getD 0) (z:=fun i=>(ns[i]?.map (·.2.2)).getD 0)
  (Tim.Walks.keysRaw (by simpa using I.ok.hd hc) s.heap.objs.size a (Nat.ne_of_lt la) hdat) (fun i v hv=>?_) ?_ (by simpa using hu) (fun i hi=>?_) ?_ ⟨⟨_,Heap.get?_push_of_some _ (Heap.get?_push_size _ rfl),rfl,rfl⟩,old _ _ ho⟩ (fun i hi=>?_) (Heap.get?_push_size _ rfl) fun m h' tk lo kp=>?_⟩
 ·obtain⟨en,e1,rfl⟩:=hv
  have hi:i<es.size:=by
   rw[Array.getElem?_eq_some_iff] at e1;exact e1.1
  obtain⟨n,b,v,e2,e3,_⟩:=key i (by omega)
  rw[(fg i n b v e2 e3).1]
  have e4:es.toList[i]? = some en:=by simpa using e1
  rw[he,List.getElem?_map,e3] at e4
  cases e4
  rfl
 ·intro z
  simp only[List.mem_cons,List.not_mem_nil,or_false] at z
  rw[sz] at z
  rcases z with z|z
  ·exact absurd z (Nat.succ_ne_self _)
  ·rw[← z] at la;exact absurd la (Nat.not_lt.mpr (Nat.le_succ _))
 ·have:=blt i (by omega)
  refine⟨fun z=>?_,?_⟩
  ·simp only[List.mem_cons,List.not_mem_nil,or_false] at z
   exact Nat.ne_of_lt this z
  ·rw[sz];exact Nat.ne_of_lt (Nat.lt_succ_of_lt this)
 ·rw[le,← ln];exact List.length_pos_iff.mpr ne
 ·obtain⟨n,b,v,e2,e3,e4⟩:=key i (by omega)
  obtain⟨f1,f2,f3,f4⟩:=fg i n b v e2 e3
  dsimp only
  rw[f1,f2,f3,f4]
  exact(tri_of I.hok e4 (sm n (List.mem_of_getElem? e2))).keeps fun b o _ e=>old b o e
 ·obtain⟨n,b,v,e2,e3,e4⟩:=key m (by have:=lo.1;omega)
  obtain⟨f1,f2,f3,f4⟩:=fg m n b v e2 e3
  dsimp only
  rw[f1]
  refine⟨.ref b,H,I.kept fun c oc e=>kp c oc ?_ ?_ (old c oc e),rfl,q b n (List.mem_of_getElem? e2) (fun k hk=>?_) e4⟩
  ·simp only[List.mem_singleton];exact Nat.ne_of_lt (Heap.lt_size e)
  ·rw[sz];exact Nat.ne_of_lt (Nat.lt_succ_of_lt (Heap.lt_size e))
  ·obtain⟨j,hj,rfl⟩:=List.getElem_of_mem hk
   obtain⟨n',b',v',g2,g3,_⟩:=key j (by omega)
   obtain⟨_,d2,d3,d4⟩:=fg j n' b' v' g2 g3
   have:=lo.2 j (by omega)
   dsimp only at this
   rw[f2,f3,f4,d2,d3,d4] at this
   rw[List.getElem?_eq_getElem hj] at g2
   cases g2
   exact this
end
end L2
set_option Elab.async false
set_option linter.all false
set_option maxRecDepth 100000
namespace Zn
open PySem
abbrev IsZ (h:Heap) (z TI TO:Addr) (f0:Value) (c:Bool):Prop:=
 h.get? z=some { cls:=.type "zip",dict:=none,data:=.fields #[f0,.bool c,.bool false,.ref TI,.ref TO],slots:=#[] }
def Mark (f0:Value):Prop:=f0=.none∨∃ T:Nat,f0=rawInt T
section
variable {prog:Program}{w:World}{A:Around}{E:Value→Shared→Prop}{s:Shared}
theorem wpAny_alive {M:Model}{a:Addr}{Q:Option Obj→Shared→Prop}(h:Q (s.heap.get? a) s):wpAny M A (loadIfAlive a) Q E s:=fun Γ p _=>by
 rw[show loadIfAlive a=Sem.loadIfAlive a .pure from rfl,Sem.wp_loadIfAlive]
 exact(Sem.wp_pure' ..).mpr h
theorem isFree {z TI TO:Addr}{f0:Value}{c:Bool}{Q:Bool→Shared→Prop}(hz:IsZ s.heap z TI TO f0 c) (hm:Mark f0) (h1:Q true s) (h2:∀ h' c',IsZ h' z TI TO f0 c'→Heap.SameBut z s.heap h'→Q false { s with heap:=h' }) :
  wpAny (model prog w) A (Builtin.SmallTypes.ownedTupleIsFree (.ref z)) Q E s:=by
 unfold Builtin.SmallTypes.ownedTupleIsFree
 rcases hm with rfl|⟨T,rfl⟩
 ·exact wpAny_bind (wpAny_field hz rfl (x:=.none) rfl (wpAny_pure h1))
 ·refine wpAny_bind (wpAny_field hz rfl (x:=rawInt T) rfl ?_)
  refine wpAny_bind (wpAny_alive ?_)
  cases e:s.heap.get? (T:Int).toNat with
  | none=>exact wpAny_pure h1
  | some o=>
   show wpAny _ _ (field (.ref z) 1 >>= _) _ _ _
   refine wpAny_bind (wpAny_field hz rfl (x:=.bool c) rfl ?_)
   cases c with
   | true=>
    rw[if_neg (by decide)]
    exact wpAny_pure (h2 s.heap true hz (Heap.SameBut.refl ..))
   | false=>
    rw[if_pos (by decide)]
    exact wpAny_bind (wpAny_setField_rec hz (by simp) fun h' hz' hs'=>wpAny_pure (h2 h' true hz' hs'))
theorem item {z TI TO i1 i2 l1 l2:Addr}{k1 k2:Nat}{xs ys:Array Value}{x y a b f0:Value}{c:Bool}{Q:Value→Shared→Prop}(D:ZipApart z TI TO i1 i2 l1 l2) (hm:Mark f0)
  (hz:IsZ s.heap z TI TO f0 c) (hTI:IsPair s.heap TI (.ref i1) (.ref i2)) (hTO:IsPair s.heap TO a b)
  (h1:s.heap.IsListIter i1 l1 k1) (h2:s.heap.IsListIter i2 l2 k2) (hl1:s.heap.IsList l1 xs) (hl2:s.heap.IsList l2 ys) (hx:xs[k1]? = some x) (hy:ys[k2]? = some y)
  (hQ:∀ h' f c',Mark f→IsZ h' z TI TO f c'→(∃ a b,IsPair h' TO a b)→h'.IsListIter i1 l1 (k1+1)→h'.IsListIter i2 l2 (k2+1)→IsPair h' s.heap.objs.size x y →
   (∀ c o,c≠z→c≠TO→c≠i1→c≠i2→s.heap.get? c=some o→h'.get? c=some o)→Q (.ref s.heap.objs.size) { s with heap:=h' }) :
  wpAny (model prog w) A (Builtin.«zip.__next__» ⟨[.ref z],[]⟩) (fun fin s'=>∃ v,fin=.done (.ret v)∧Q v s') E s:=by
 show wpAny _ _ (field (.ref z) 2 >>= _) _ _ _
 refine wpAny_bind (wpAny_field hz rfl (x:=.bool false) rfl ?_)
 show wpAny _ _ (field (.ref z) 3 >>= _) _ _ _
 refine wpAny_bind (wpAny_field hz rfl (x:=.ref TI) rfl ?_)
 refine wpAny_bind (wpAny_seqItems hTI rfl ?_)
 show wpAny _ _ (Builtin.SmallTypes.ownedTupleIsFree (.ref z) >>= _) _ _ _
 refine wpAny_bind (isFree hz hm ?_ fun h0 c0 hz0 hs0=>?_)
 ·simp only[if_true]
  refine wpAny_bind (wpAny_rule ?_)
  refine wpAny_bind (wpAny_field hz rfl (x:=.ref TO) rfl ?_)
  refine wpAny_bind (wpAny_setField_rec hz (by simp) fun g1 z1 s1=>?_)
  replace z1:IsZ g1 z TI TO .ellipsis c:=z1
  refine wpAny_bind ?_
  simp only[List.zipIdx_cons,List.zipIdx_nil,List.forIn_cons,List.forIn_nil]
  refine wpAny_bind (wpAny_bind (wpAny_onRaise ?_))
  show wpAny _ _ (Builtin.SmallTypes.nextOf (.ref i1) >>= _) _ _ _
  refine wpAny_bind (wpAny_nextOf_list_item (h1.extBut s1.extBut D.i1z) (hl1.extBut s1.extBut D.l1z) hx fun g2 a2 s2=>wpAny_pure ?_)
  have t2:IsPair g2 TO a b:=s2.extBut _ _ D.TOi1 (s1.extBut _ _ D.TOz hTO)
  refine wpAny_bind (wpAny_seqItems t2 rfl ?_)
  refine wpAny_bind (wpAny_updateSeq_pair t2 fun g3 t3 s3=>?_)
  replace t3:IsPair g3 TO x b:=t3
  refine wpAny_bind (wpAny_letGo (wpAny_pure ?_))
  refine wpAny_bind (wpAny_bind (wpAny_onRaise ?_))
  show wpAny _ _ (Builtin.SmallTypes.nextOf (.ref i2) >>= _) _ _ _
  refine wpAny_bind (wpAny_nextOf_list_item (((h2.extBut s1.extBut D.i2z).extBut s2.extBut D.i12.symm).extBut s3.extBut D.TOi2.symm)
   (((hl2.extBut s1.extBut D.l2z).extBut s2.extBut D.l2i1).extBut s3.extBut D.l2TO) hy fun g4 b4 s4=>wpAny_pure ?_)
  have t4:IsPair g4 TO x b:=s4.extBut _ _ D.TOi2 t3
  refine wpAny_bind (wpAny_seqItems t4 rfl ?_)
  refine wpAny_bind (wpAny_updateSeq_pair t4 fun g5 t5 s5=>?_)
  replace t5:IsPair g5 TO x y:=t5
  refine wpAny_bind (wpAny_letGo (wpAny_pure (wpAny_pure ?_)))
  refine wpAny_bind (wpAny_seqItems t5 rfl ?_)
  refine wpAny_bind (wpAny_newTuple ?_)
  have hsz:g5.objs.size=s.heap.objs.size:=by rw[s5.1,s4.1,s3.1,s2.1,s1.1]
  have z5:IsZ g5 z TI TO .ellipsis c:=s5.extBut _ _ D.TOz.symm (s4.extBut _ _ D.i2z.symm (s3.extBut _ _ D.TOz.symm (s2.extBut _ _ D.i1z.symm z1)))
  have k5:∀ c o,c≠z→c≠TO→c≠i1→c≠i2→s.heap.get? c=some o→g5.get? c=some o:=fun c o c1 c2 c3 c4 e=>
   s5.extBut _ _ c2 (s4.extBut _ _ c4 (s3.extBut _ _ c2 (s2.extBut _ _ c3 (s1.extBut _ _ c1 e))))
  have a5:g5.IsListIter i1 l1 (k1+1):=((a2.extBut s3.extBut D.TOi1.symm).extBut s4.extBut D.i12).extBut s5.extBut D.TOi1.symm
  have b5:g5.IsListIter i2 l2 (k2+1):=b4.extBut s5.extBut D.TOi2.symm
  have zlt:z<g5.objs.size:=Heap.lt_size z5
  show wpAny _ _ (Builtin.SmallTypes.ownedTupleHandOut (.ref z) (.ref g5.objs.size) >>= _) _ _ _
  refine wpAny_bind ?_
  unfold Builtin.SmallTypes.ownedTupleHandOut
  have z6:IsZ (g5.push { cls:=.type "tuple",data:=.seq #[x,y] }) z TI TO .ellipsis c:=Heap.get?_push_of_some _ z5
  refine wpAny_bind (wpAny_setField_rec z6 (by simp) fun g7 z7 s7=>?_)
  replace z7:IsZ g7 z TI TO (rawInt g5.objs.size) c:=z7
  refine wpAny_setField_rec z7 (by simp) fun g8 z8 s8=>?_
  replace z8:IsZ g8 z TI TO (rawInt g5.objs.size) false:=z8
  have up:∀ c o,c≠z→g5.get? c=some o→g8.get? c=some o:=fun c o c1 e=>s8.extBut _ _ c1 (s7.extBut _ _ c1 (Heap.get?_push_of_some _ e))
  have t8:IsPair g8 g5.objs.size x y:=s8.extBut _ _ (Nat.ne_of_gt zlt) (s7.extBut _ _ (Nat.ne_of_gt zlt) (Heap.get?_push_size _ rfl))
  rw[hsz] at t8
  refine wpAny_pure ⟨_,rfl,?_⟩
  show Q (.ref g5.objs.size) _
  rw[hsz]
  exact hQ g8 _ _ (.inr ⟨_,rfl⟩) z8 ⟨_,_,up _ _ D.TOz t5⟩ (a5.at fun o e=>up _ o D.i1z e) (b5.at fun o e=>up _ o D.i2z e) t8 fun c o c1 c2 c3 c4 e=>up c o c1 (k5 c o c1 c2 c3 c4 e)
 ·simp only[Bool.false_eq_true,if_false]
  refine wpAny_bind ?_
  rw[← Array.forIn_toList]
  simp only[List.forIn_cons,List.forIn_nil]
  refine wpAny_bind (wpAny_bind (wpAny_holding ?_))
  show wpAny _ _ (Builtin.SmallTypes.nextOf (.ref i1) >>= _) _ _ _
  refine wpAny_bind (wpAny_nextOf_list_item (h1.extBut hs0.extBut D.i1z) (hl1.extBut hs0.extBut D.l1z) hx fun g2 a2 s2=>wpAny_pure (wpAny_pure ?_))
  dsimp only
  refine wpAny_bind (wpAny_bind (wpAny_holding ?_))
  show wpAny _ _ (Builtin.SmallTypes.nextOf (.ref i2) >>= _) _ _ _
  refine wpAny_bind (wpAny_nextOf_list_item ((h2.extBut hs0.extBut D.i2z).extBut s2.extBut D.i12.symm) ((hl2.extBut hs0.extBut D.l2z).extBut s2.extBut D.l2i1) hy fun g4 b4 s4=>wpAny_pure (wpAny_pure (wpAny_pure ?_)))
  dsimp only
  refine wpAny_bind (wpAny_newTuple (wpAny_pure ⟨_,rfl,?_⟩) (by show 2≤sizeLine;decide))
  have hsz:g4.objs.size=s.heap.objs.size:=by rw[s4.1,s2.1,hs0.1]
  have k4:∀ c o,c≠z→c≠TO→c≠i1→c≠i2→s.heap.get? c=some o→(g4.push { cls:=.type "tuple",data:=.seq #[x,y] }).get? c=some o:=fun c o c1 c2 c3 c4 e=>
   Heap.get?_push_of_some _ (s4.extBut _ _ c4 (s2.extBut _ _ c3 (hs0.extBut _ _ c1 e)))
  show Q (.ref g4.objs.size) { s with heap:=g4.push { cls:=.type "tuple",data:=.seq #[x,y] } }
  rw[hsz]
  refine hQ _ f0 c0 hm ?_ ⟨a,b,?_⟩ ?_ ?_ ?_ k4
  ·exact Heap.get?_push_of_some _ (s4.extBut _ _ D.i2z.symm (s2.extBut _ _ D.i1z.symm hz0))
  ·exact Heap.get?_push_of_some _ (s4.extBut _ _ D.TOi2 (s2.extBut _ _ D.TOi1 (hs0.extBut _ _ D.TOz hTO)))
  ·exact(a2.extBut s4.extBut D.i12).at fun o e=>Heap.get?_push_of_some _ e
  ·exact b4.at fun o e=>Heap.get?_push_of_some _ e
  ·rw[← hsz];exact Heap.get?_push_size _ rfl
theorem stop {z TI TO i1 i2 l1 l2:Addr}{k1 k2:Nat}{xs ys:Array Value}{a b f0:Value}{c:Bool}{Q:PySem.Fin→Shared→Prop}(hh:A.handled=none) (D:ZipApart z TI TO i1 i2 l1 l2) (hm:Mark f0)
  (hz:IsZ s.heap z TI TO f0 c) (hTI:IsPair s.heap TI (.ref i1) (.ref i2)) (hTO:IsPair s.heap TO a b)
  (h1:s.heap.IsListIter i1 l1 k1) (h2:s.heap.IsListIter i2 l2 k2) (hl1:s.heap.IsList l1 xs) (hl2:s.heap.IsList l2 ys) (hx:xs[k1]? = none)
  (hE:∀ h' e,(∀ c o,c≠z→c≠TO→c≠i1→c≠i2→s.heap.get? c=some o→h'.get? c=some o)→(∃ o,h'.get? e=some o∧o.cls=.type "StopIteration")→E (.ref e) { s with heap:=h' }) :
  wpAny (model prog w) A (Builtin.«zip.__next__» ⟨[.ref z],[]⟩) Q E s:=by
 show wpAny _ _ (field (.ref z) 2 >>= _) _ _ _
 refine wpAny_bind (wpAny_field hz rfl (x:=.bool false) rfl ?_)
 show wpAny _ _ (field (.ref z) 3 >>= _) _ _ _
 refine wpAny_bind (wpAny_field hz rfl (x:=.ref TI) rfl ?_)
 refine wpAny_bind (wpAny_seqItems hTI rfl ?_)
 show wpAny _ _ (Builtin.SmallTypes.ownedTupleIsFree (.ref z) >>= _) _ _ _
 refine wpAny_bind (isFree hz hm ?_ fun h0 c0 hz0 hs0=>?_)
 ·simp only[if_true]
  refine wpAny_bind (wpAny_rule ?_)
  refine wpAny_bind (wpAny_field hz rfl (x:=.ref TO) rfl ?_)
  refine wpAny_bind (wpAny_setField_rec hz (by simp) fun g1 z1 s1=>?_)
  replace z1:IsZ g1 z TI TO .ellipsis c:=z1
  refine wpAny_bind ?_
  simp only[List.zipIdx_cons,List.zipIdx_nil,List.forIn_cons,List.forIn_nil]
  refine wpAny_bind (wpAny_bind (wpAny_onRaise ?_))
  show wpAny _ _ (Builtin.SmallTypes.nextOf (.ref i1) >>= _) _ _ _
  refine wpAny_bind (wpAny_nextOf_list_end hh (h1.extBut s1.extBut D.i1z) (hl1.extBut s1.extBut D.l1z) hx fun g2 e s2 he=>?_)
  obtain⟨oe,hoe,hce⟩:=he
  have z2:IsZ g2 z TI TO .ellipsis c:=s2 _ _ D.i1z.symm z1
  have hez:e≠z:=fun q=>by subst q;rw[z2] at hoe;cases hoe;simp at hce
  exact wpAny_setField_rec z2 (by simp) fun g3 _ s3=>hE g3 e (fun c o c1 _ c3 _ q=>s3.extBut _ _ c1 (s2 _ _ c3 (s1.extBut _ _ c1 q))) ⟨oe,s3.extBut _ _ hez hoe,hce⟩
 ·simp only[Bool.false_eq_true,if_false]
  refine wpAny_bind ?_
  rw[← Array.forIn_toList]
  simp only[List.forIn_cons,List.forIn_nil]
  refine wpAny_bind (wpAny_bind (wpAny_holding ?_))
  show wpAny _ _ (Builtin.SmallTypes.nextOf (.ref i1) >>= _) _ _ _
  refine wpAny_bind (wpAny_nextOf_list_end hh (h1.extBut hs0.extBut D.i1z) (hl1.extBut hs0.extBut D.l1z) hx fun g2 e s2 he=>?_)
  exact hE g2 e (fun c o c1 _ c3 _ q=>s2 _ _ c3 (hs0.extBut _ _ c1 q)) he
theorem nextItem {z TI TO i1 i2 l1 l2:Addr}{k1 k2:Nat}{xs ys:Array Value}{x y a b f0:Value}{c:Bool}{Q:Option Value→Shared→Prop}(D:ZipApart z TI TO i1 i2 l1 l2) (hm:Mark f0)
  (hz:IsZ s.heap z TI TO f0 c) (hTI:IsPair s.heap TI (.ref i1) (.ref i2)) (hTO:IsPair s.heap TO a b)
  (h1:s.heap.IsListIter i1 l1 k1) (h2:s.heap.IsListIter i2 l2 k2) (hl1:s.heap.IsList l1 xs) (hl2:s.heap.IsList l2 ys) (hx:xs[k1]? = some x) (hy:ys[k2]? = some y)
  (hQ:∀ h' f c',Mark f→IsZ h' z TI TO f c'→(∃ a b,IsPair h' TO a b)→h'.IsListIter i1 l1 (k1+1)→h'.IsListIter i2 l2 (k2+1)→IsPair h' s.heap.objs.size x y →
   (∀ c o,c≠z→c≠TO→c≠i1→c≠i2→s.heap.get? c=some o→h'.get? c=some o)→Q (some (.ref s.heap.objs.size)) { s with heap:=h' }) :
  wpAny (model prog w) A (pyNext (.ref z)) Q E s:=by
 have hT:s.TypeIs (.ref z) "zip":=⟨_,hz,rfl⟩
 unfold pyNext
 exact wpAny_bind (wpAny_attempt (wpAny_callSpecial?_slot (name:=Str.ofString "__next__") hT F.slot_zip_next
  (wpAny_call_entry F.slot_zip_next hT F.entry_zip_next (item D hm hz hTI hTO h1 h2 hl1 hl2 hx hy fun h' f c' a1 a2 a3 a4 a5 a6 a7=>wpAny_pure (hQ h' f c' a1 a2 a3 a4 a5 a6 a7)) (F.args_zip_next_1 _))))
theorem nextStop {z TI TO i1 i2 l1 l2:Addr}{k1 k2:Nat}{xs ys:Array Value}{a b f0:Value}{c:Bool}{Q:Option Value→Shared→Prop}(hh:A.handled=none) (D:ZipApart z TI TO i1 i2 l1 l2) (hm:Mark f0)
  (hz:IsZ s.heap z TI TO f0 c) (hTI:IsPair s.heap TI (.ref i1) (.ref i2)) (hTO:IsPair s.heap TO a b)
  (h1:s.heap.IsListIter i1 l1 k1) (h2:s.heap.IsListIter i2 l2 k2) (hl1:s.heap.IsList l1 xs) (hl2:s.heap.IsList l2 ys) (hx:xs[k1]? = none)
  (hQ:∀ h',(∀ c o,c≠z→c≠TO→c≠i1→c≠i2→s.heap.get? c=some o→h'.get? c=some o)→Q none { s with heap:=h' }):wpAny (model prog w) A (pyNext (.ref z)) Q E s:=by
 have hT:s.TypeIs (.ref z) "zip":=⟨_,hz,rfl⟩
 unfold pyNext
 refine wpAny_bind (wpAny_attempt (wpAny_callSpecial?_slot (name:=Str.ofString "__next__") hT F.slot_zip_next
  (wpAny_call_entry F.slot_zip_next hT F.entry_zip_next (stop hh D hm hz hTI hTO h1 h2 hl1 hl2 hx fun h' e hk he=>?_) (F.args_zip_next_1 _))))
 obtain⟨o,ho,hc⟩:=he
 refine wpAny_bind (wpAny_isInstance (T:="StopIteration") (b:=true) ⟨o,ho,hc⟩ isSubtype_stop ?_)
 exact wpAny_pure (hQ _ hk)
theorem selfIter {z TI TO:Addr}{f0:Value}{c:Bool}{Q:Value→Shared→Prop}(hz:IsZ s.heap z TI TO f0 c) (h:Q (.ref z) s):wpAny (model prog w) A (pyIter (.ref z)) Q E s:=by
 have hT:s.TypeIs (.ref z) "zip":=⟨_,hz,rfl⟩
 refine wpAny_pyIter_slot hT F.slot_zip_iter (wpAny_call_entry F.slot_zip_iter hT F.entry_zip_iter ?_ (F.args_zip_iter_1 _))
 show wpAny _ _ (ret (.ref z)) _ _ s
 exact wpAny_pure ⟨_,rfl,"zip",_,hT,F.slot_zip_next.lookup,h⟩
end
end Zn
namespace L2
open PySem PySem.Spec PyProof.Rows
def Itn (K:PySem.W.Frag) (l1 l2:Addr):It:=
  ⟨fun i H=>∃ xs ys x y,SqL K H l1 xs∧SqL K H l2 ys∧xs[i]? = some x∧ys[i]? = some y,
   fun i H v H'=>∃ p x y,H p=none∧v=.ref p∧H'=upd H p (.tup [x,y])∧(∀ xs,SqL K H l1 xs→xs[i]? = some x)∧∀ ys,SqL K H l2 ys→ys[i]? = some y,
   fun i H=>∃ xs ys,SqL K H l1 xs∧SqL K H l2 ys∧xs.length≤i⟩
theorem turn_zipN {P:Program}{w:World}{K:PySem.W.Frag}{x:Str}{pos:Pos}(z TI TO i1 i2 l1 l2:Addr) (D:ZipApart z TI TO i1 i2 l1 l2) :
  Turn P w K (.Name x pos) (Itn K l1 l2) [z,TI,TO,i1,i2] z
   (fun i h=>(∃ f c,Zn.Mark f∧Zn.IsZ h z TI TO f c)∧IsPair h TI (.ref i1) (.ref i2)∧(∃ a b,IsPair h TO a b)∧h.IsListIter i1 l1 i∧h.IsListIter i2 l2 i) where
 mem:=by simp
 obj:=fun i h st b hb=>by
  obtain⟨⟨f,c,_,hz⟩,hTI,⟨a,c',hTO⟩,⟨o1,e1,_,d1⟩,⟨o2,e2,_,d2⟩⟩:=st
  simp only[List.mem_cons,List.not_mem_nil,or_false] at hb
  rcases hb with rfl|rfl|rfl|rfl|rfl
  ·exact⟨_,hz,fun v q=>by cases q⟩
  ·exact⟨_,hTI,fun v q=>by cases q⟩
  ·exact⟨_,hTO,fun v q=>by cases q⟩
  ·exact⟨_,e1,fun v q=>by rw[d1] at q;cases q⟩
  ·exact⟨_,e2,fun v q=>by rw[d2] at q;cases q⟩
 keep:=fun i h h' st k=>by
  obtain⟨⟨f,c,m,hz⟩,hTI,⟨a,b,hTO⟩,h1,h2⟩:=st
  exact⟨⟨f,c,m,k z (by simp) _ hz⟩,k TI (by simp) _ hTI,⟨a,b,k TO (by simp) _ hTO⟩,h1.at fun o e=>k i1 (by simp) o e,h2.at fun o e=>k i2 (by simp) o e⟩
 item:=by
  intro X hP hw hK hc i pins s σ H E I hf st hg
  subst hP hw hK
  obtain⟨xs,ys,x,y,q1,q2,hx,hy⟩:=hg
  obtain⟨its1,rv1,p1,hz1⟩:=I.list q1
  obtain⟨its2,rv2,p2,hz2⟩:=I.list q2
  obtain⟨u1,hu1,ru1⟩:=rv1.get hx
  obtain⟨u2,hu2,ru2⟩:=rv2.get hy
  obtain⟨⟨f,cc,m,hz⟩,hTI,⟨a,b,hTO⟩,h1,h2⟩:=st
  have lt:∀ {c o},s.heap.get? c=some o→s.heap.objs.size≠c:=fun e=>Nat.ne_of_gt (Heap.lt_size e)
  refine Zn.nextItem D m hz hTI hTO h1 h2 p1.isList p2.isList (x:=u1) (y:=u2) (by simpa using hu1) (by simpa using hu2) fun h' f' c' m' a1 a2 a3 a4 a5 hk=>?_
  refine⟨_,rfl,wpAny_pure ?_⟩
  have k2:∀ c o,c∉[z,TI,TO,i1,i2]→s.heap.get? c=some o→h'.get? c=some o:=fun c o hc e=>by
   simp only[List.mem_cons,List.not_mem_nil,or_false,not_or] at hc
   exact hk c o hc.1 hc.2.2.1 hc.2.2.2.1 hc.2.2.2.2 e
  have new:ObjOk X.prog X.w (upd H s.heap.objs.size (.tup [x,y])) h' s.heap.objs.size (.tup [x,y]):=⟨by show 2≤sizeLine;decide,[u1,u2],.cons ru1 (.cons ru2 .nil),_,a5,rfl,_,rfl⟩
  refine⟨.ref s.heap.objs.size,_,I.turnedNew (t':=s.toks) k2 hf (Nat.le_refl _) new,rfl,⟨_,x,y,I.fresh,rfl,rfl,fun zs hs=>by rw[I.list_inj hs q1];exact hx,fun zs hs=>by rw[I.list_inj hs q2];exact hy⟩,?_,fun c hc=>?_⟩
  ·exact⟨⟨f',c',m',a1⟩,hk _ _ D.TIz D.TITO D.TIi1 D.TIi2 hTI,a2,a3,a4⟩
  ·rw[upd_ne]
   ·exact(hf c hc).1
   ·simp only[List.mem_cons,List.not_mem_nil,or_false] at hc
    rcases hc with rfl|rfl|rfl|rfl|rfl
    ·exact Ne.symm (lt hz)
    ·exact Ne.symm (lt hTI)
    ·exact Ne.symm (lt hTO)
    ·obtain⟨_,e,_⟩:=h1;exact Ne.symm (lt e)
    ·obtain⟨_,e,_⟩:=h2;exact Ne.symm (lt e)
 done:=by
  intro X hP hw hK hc i pins s σ H E I hf st hg
  subst hP hw hK
  obtain⟨xs,ys,q1,q2,hend⟩:=hg
  obtain⟨its1,rv1,p1,hz1⟩:=I.list q1
  obtain⟨its2,rv2,p2,hz2⟩:=I.list q2
  obtain⟨⟨f,cc,m,hz⟩,hTI,⟨a,b,hTO⟩,h1,h2⟩:=st
  have len1:=rv1.length
  refine Zn.nextStop (I.ok.hd hc) D m hz hTI hTO h1 h2 p1.isList p2.isList (by simp;omega) fun h' hk=>⟨rfl,I.turnedL (t':=s.toks) (its:=[z,TI,TO,i1,i2]) (fun c o hc e=>?_) hf⟩
  simp only[List.mem_cons,List.not_mem_nil,or_false,not_or] at hc
  exact hk c o hc.1 hc.2.2.1 hc.2.2.2.1 hc.2.2.2.2 e
 self:=fun _ _ _ _ _ st h=>let ⟨⟨f,c,_,hz⟩,_⟩:=st;Zn.selfIter hz h
section
variable {X:Cx}{K:PySem.W.Frag}
def iZipN (K:PySem.W.Frag) (ta:TA):TI:=fun σ H R=>ta σ H fun vs H1=>∃ p q xs ys,vs=[.ref p,.ref q]∧SqL K H1 p xs∧SqL K H1 q ys∧R (Itn K p q) H1
theorem pi_zipN {a b:Expr}{ta:TA}{x:Str}{p pos pos':Pos}(hg:Gl X "zip") (hm:X.mg "zip" = none) (ha:PA X [a,b] ta) (hs:starEach [a,b] X.env=[(false,eval a X.env),(false,eval b X.env)]:=by rfl) (hs2:starEach [b] X.env=[(false,eval b X.env)]:=by rfl) (hK:X.K=K:=by rfl) :
  PI X (.Name x pos') (.Call (.Name "zip" p) [a,b] [] pos) (iZipN K ta):=by
 subst hK
 intro pins s σ H R I h
 refine Call_ (ld_blt I hg hm boot_zip (PyProof.Rows.callWith_type1 (thn (ha pos pins s σ H _ I h) fun us s1 ⟨vs,H1,I1,r1,q1⟩=>?_) (by rw[hs,hs2]) (by rw[hs2];rfl)))
 obtain⟨l1,l2,xs,ys,rfl,q1,q2,q⟩:=q1
 obtain⟨u,v,rfl,rx,ry⟩:=vals2 r1
 cases rx;cases ry
 obtain⟨its1,rv1,p1,hz1⟩:=I1.list q1
 obtain⟨its2,rv2,p2,hz2⟩:=I1.list q2
 have lt1:l1<s1.heap.objs.size:=by obtain⟨o,e,_⟩:=p1.isList;exact Heap.lt_size e
 have lt2:l2<s1.heap.objs.size:=by obtain⟨o,e,_⟩:=p2.isList;exact Heap.lt_size e
 refine call_zip_2 p1.isList p2.isList fun h' z1 z2 z3 z4 z5 z6 kp=>?_
 refine wpAny_pyIter_zip z1 ?_
 refine⟨_,_,_,Itn X.K l1 l2,H1,rfl,I1.kept (t':=s1.toks) kp,turn_zipN _ _ _ _ _ l1 l2 (zipApart_new lt1 lt2),⟨⟨_,_,.inl rfl,z1⟩,z2,⟨_,_,z3⟩,z4,z5⟩,fun b hb=>?_,q⟩
 have ge:s1.heap.objs.size≤b:=by
  simp only[List.mem_cons,List.not_mem_nil,or_false] at hb
  rcases hb with rfl|rfl|rfl|rfl|rfl<;>first|exact Nat.le_refl _|exact Nat.le_add_right _ _
 exact I1.fpOk ge (I1.hok.fresh ge)
end
theorem comp_zipN {K:PySem.W.Frag}{l1 l2:Addr}{xs ys:List V}{k:Nat}{g:TG}{tc:TT}{te:TE}{σ:St}{H1:Hp}{Q:VK}(few:xs.length≤1000) (len:xs.length=ys.length)
  (h:∀ acc,H1 acc=none→∃ Pv:Nat→St→List V→Hp→Prop,Pv 0 (σ++List.replicate k none) [] (upd H1 acc (.lst []))∧(∀ i σ2 zs H2,i≤xs.length→Pv i σ2 zs H2→SqL K H2 l1 xs∧SqL K H2 l2 ys∧zs.length≤i) ∧
   (∀ i x y p σ2 zs H2,i<xs.length→xs[i]? = some x→ys[i]? = some y→H2 p=none→Pv i σ2 zs H2→g (.ref p) σ2 (upd H2 p (.tup [x,y])) fun σ4 H4=>tc σ4 H4 fun b H5=>if b=true then te σ4 H5 fun v H6=>H6 acc=some (.lst zs)∧Nx xs.length i (Pv (i+1) σ4 (zs++[v]) (upd H6 acc (.lst (zs++[v])))) else Nx xs.length i (Pv (i+1) σ4 zs H5)) ∧
   ∀ σ2 zs H2,Pv xs.length σ2 zs H2→Q (.ref acc) H2):CompR (Itn K l1 l2) k g tc te σ H1 Q:=by
 intro acc ha
 obtain⟨Pv,p0,pl,ps,pd⟩:=h acc ha
 refine⟨fun i m σ2 zs H2=>m=xs.length-i∧i≤xs.length∧Pv i σ2 zs H2,⟨xs.length,by simp,Nat.zero_le _,p0⟩,?_⟩
 rintro i m σ2 zs H2 ⟨rfl,hi,p⟩
 obtain⟨q1,q2,ln⟩:=pl i σ2 zs H2 hi p
 by_cases hlt:i<xs.length
 ·refine .inr ⟨⟨xs,ys,xs[i],ys[i],q1,q2,by simp[hlt],by simp[len ▸ hlt]⟩,Nat.lt_of_le_of_lt ln (small1000 (by omega)),fun v H3 z=>?_⟩
  obtain⟨b,x,y,nb,rfl,rfl,z1,z2⟩:=z
  exact ps i x y b σ2 zs H2 hlt (z1 xs q1) (z2 ys q2) nb p
 ·have e:i=xs.length:=by omega
  subst e
  exact .inl ⟨⟨xs,ys,q1,q2,Nat.le_refl _⟩,pd σ2 zs H2 p⟩
theorem comp_zip {K:PySem.W.Frag}{l1 l2:Addr}{xs ys:List V}{k:Nat}{g:TG}{tc:TT}{te:TE}{σ:St}{H1:Hp}{Q:VK}(few:xs.length≤1000) (len:xs.length=ys.length)
  (h:∀ acc,H1 acc=none→∃ Pv:Nat→St→List V→Hp→Prop,Pv 0 (σ++List.replicate k none) [] (upd H1 acc (.lst []))∧(∀ i σ2 zs H2,i≤xs.length→Pv i σ2 zs H2→SqL K H2 l1 xs∧SqL K H2 l2 ys∧zs.length≤i) ∧
   (∀ i x y p σ2 zs H2,i<xs.length→xs[i]? = some x→ys[i]? = some y→H2 p=none→Pv i σ2 zs H2→g (.ref p) σ2 (upd H2 p (.tup [x,y])) fun σ4 H4=>tc σ4 H4 fun b H5=>if b=true then te σ4 H5 fun v H6=>H6 acc=some (.lst zs)∧Nx xs.length i (Pv (i+1) σ4 (zs++[v]) (upd H6 acc (.lst (zs++[v])))) else Nx xs.length i (Pv (i+1) σ4 zs H5)) ∧
   ∀ σ2 zs H2,Pv xs.length σ2 zs H2→Q (.ref acc) H2):CompR (Itz K l1 l2) k g tc te σ H1 Q:=by
 intro acc ha
 obtain⟨Pv,p0,pl,ps,pd⟩:=h acc ha
 refine⟨fun i m σ2 zs H2=>m=xs.length-i∧i≤xs.length∧Pv i σ2 zs H2,⟨xs.length,by simp,Nat.zero_le _,p0⟩,?_⟩
 rintro i m σ2 zs H2 ⟨rfl,hi,p⟩
 obtain⟨q1,q2,ln⟩:=pl i σ2 zs H2 hi p
 by_cases hlt:i<xs.length
 ·refine .inr ⟨⟨xs,ys,xs[i],ys[i],q1,q2,by simp[hlt],by simp[len ▸ hlt]⟩,Nat.lt_of_le_of_lt ln (small1000 (by omega)),fun v H3 z=>?_⟩
  obtain⟨b,x,y,nb,rfl,rfl,z1,z2⟩:=z
  exact ps i x y b σ2 zs H2 hlt (z1 xs q1) (z2 ys q2) nb p
 ·have e:i=xs.length:=by omega
  subst e
  exact .inl ⟨⟨xs,ys,q1,q2,.inl (Nat.le_refl _)⟩,pd σ2 zs H2 p⟩
end L2
set_option Elab.async false
set_option linter.all false
set_option maxRecDepth 100000
namespace B
open PySem L2
def top (i:Nat):Stmt:=PySem.Challenge.pw_backline_k21_lines.main.body.getD i (.Pass ⟨0,0,0,0⟩)
abbrev s_ci:Stmt:=top 16
abbrev s_bn:Stmt:=inClass (top 25) 0
abbrev s_co:Stmt:=top 26
abbrev s_ad:Stmt:=inClass (top 20) 0
abbrev s_ab:Stmt:=inClass (top 20) 1
abbrev s_ae:Stmt:=inClass (top 22) 0
abbrev s_ba:Stmt:=inClass (top 23) 0
abbrev s_ac:Stmt:=inClass (top 23) 1
abbrev s_aa:Stmt:=inClass (top 23) 2
abbrev s_bb:Stmt:=inClass (top 27) 0
abbrev s_bc:Stmt:=inClass (top 27) 1
abbrev s_al:Stmt:=inClass (top 27) 6
abbrev s_ah:Stmt:=inClass (top 27) 7
abbrev s_ai:Stmt:=inClass (top 27) 8
abbrev s_bx:Stmt:=inClass (top 27) 3
abbrev s_ar:Stmt:=inClass (top 27) 4
abbrev s_cp:Stmt:=top 29
abbrev s_aj:Stmt:=inClass (top 30) 14
abbrev s_ao:Stmt:=inClass (top 30) 17
abbrev s_as:Stmt:=inClass (top 30) 15
abbrev s_bz:Stmt:=inClass (top 30) 18
abbrev s_au:Stmt:=top 32
abbrev s_bo:Stmt:=top 33
abbrev s_cj:Stmt:=top 34
abbrev s_ap:Expr:=lamOf (inDef (top 38) 3)
abbrev s_av:Stmt:=inClass (top 30) 16
abbrev s_ck:Stmt:=inClass (top 30) 1
abbrev s_cl:Stmt:=inClass (top 30) 2
abbrev s_bp:Stmt:=inClass (top 30) 3
abbrev s_bd:Stmt:=inClass (top 30) 4
abbrev s_ca:Stmt:=inClass (top 30) 6
abbrev s_af:Stmt:=inClass (top 30) 7
abbrev s_ag:Stmt:=inClass (top 30) 8
abbrev s_cb:Stmt:=inClass (top 30) 0
abbrev s_am:Stmt:=top 2
abbrev s_an:Stmt:=top 3
abbrev s_cc:Stmt:=top 4
abbrev s_cm:Stmt:=top 5
abbrev s_cq:Stmt:=top 6
abbrev s_cr:Stmt:=top 7
abbrev s_cs:Stmt:=top 8
abbrev s_be:Stmt:=top 35
abbrev s_bq:Stmt:=top 36
abbrev s_br:Stmt:=top 37
abbrev s_cd:Stmt:=top 38
abbrev s_ce:Stmt:=top 39
abbrev s_bf:Stmt:=top 40
abbrev s_aq:Stmt:=top 41
abbrev s_bs:Stmt:=top 42
abbrev s_law:Stmt:=top 43
theorem sc_ci:FnScope ["value"] ["value"] (defScope s_ci):=⟨rfl,rfl,rfl,by decide +kernel,rfl,by decide +kernel,by decide +kernel⟩
theorem sc_bn:FnScope ["self","used","state","sent","said"] ["self","used","state","sent","said"] (defScope s_bn):=⟨rfl,rfl,rfl,by decide +kernel,rfl,by decide +kernel,by decide +kernel⟩
theorem sc_co:FnScope ["event"] ["event"] (defScope s_co):=⟨rfl,rfl,rfl,by decide +kernel,rfl,by decide +kernel,by decide +kernel⟩
theorem sc_ad:FnScope ["self","down","here"] ["self","down","here"] (defScope s_ad):=⟨rfl,rfl,rfl,by decide +kernel,rfl,by decide +kernel,by decide +kernel⟩
theorem sc_ab:FnScope ["self","down","here"] ["self","down","here"] (defScope s_ab):=⟨rfl,rfl,rfl,by decide +kernel,rfl,by decide +kernel,by decide +kernel⟩
theorem sc_ae:FnScope ["self","down","here"] ["self","down","here"] (defScope s_ae):=⟨rfl,rfl,rfl,by decide +kernel,rfl,by decide +kernel,by decide +kernel⟩
theorem sc_ba:FnScope ["self","size"] ["self","size"] (defScope s_ba):=⟨rfl,rfl,rfl,by decide +kernel,rfl,by decide +kernel,by decide +kernel⟩
theorem sc_ac:FnScope ["self","down","here"] ["self","down","here"] (defScope s_ac):=⟨rfl,rfl,rfl,by decide +kernel,rfl,by decide +kernel,by decide +kernel⟩
theorem sc_aa:FnScope ["self","down","here"] ["self","down","here"] (defScope s_aa):=⟨rfl,rfl,rfl,by decide +kernel,rfl,by decide +kernel,by decide +kernel⟩
theorem sc_bb:FnScope ["self","start","habit"] ["self","start","habit"] (defScope s_bb):=⟨rfl,rfl,rfl,by decide +kernel,rfl,by decide +kernel,by decide +kernel⟩
theorem sc_bc:FnScope ["self"] ["self"] (defScope s_bc):=⟨rfl,rfl,rfl,by decide +kernel,rfl,by decide +kernel,by decide +kernel⟩
theorem sc_al:FnScope ["self","place"] ["self","place"] (defScope s_al):=⟨rfl,rfl,rfl,by decide +kernel,rfl,by decide +kernel,by decide +kernel⟩
theorem sc_ah:FnScope ["self","place"] ["self","place"] (defScope s_ah):=⟨rfl,rfl,rfl,by decide +kernel,rfl,by decide +kernel,by decide +kernel⟩
theorem sc_ai:FnScope ["self","place"] ["self","place"] (defScope s_ai):=⟨rfl,rfl,rfl,by decide +kernel,rfl,by decide +kernel,by decide +kernel⟩
theorem sc_bx:FnScope ["self","event"] ["self","event"] (defScope s_bx):=⟨rfl,rfl,rfl,by decide +kernel,rfl,by decide +kernel,by decide +kernel⟩
theorem sc_ar:FnScope ["self"] ["self"] (defScope s_ar):=⟨rfl,rfl,rfl,by decide +kernel,rfl,by decide +kernel,by decide +kernel⟩
theorem sc_cp:FnScope ["value"] ["value"] (defScope s_cp):=⟨rfl,rfl,rfl,by decide +kernel,rfl,by decide +kernel,by decide +kernel⟩
theorem sc_aj:FnScope ["self","hand"] ["self","hand"] (defScope s_aj):=⟨rfl,rfl,rfl,by decide +kernel,rfl,by decide +kernel,by decide +kernel⟩
theorem sc_ao:FnScope ["self","hand","row"] ["self","hand","row"] (defScope s_ao):=⟨rfl,rfl,rfl,by decide +kernel,rfl,by decide +kernel,by decide +kernel⟩
theorem sc_as:FnScope ["self","hand","name","way"] ["self","hand","name"] (defScope s_as):=⟨rfl,rfl,rfl,by decide +kernel,rfl,by decide +kernel,by decide +kernel⟩
theorem sc_bz:FnScope ["self","sender","place","letters","k","letter","name","way"] ["self","sender","place","letters"] (defScope s_bz):=⟨rfl,rfl,rfl,by decide +kernel,rfl,by decide +kernel,by decide +kernel⟩
theorem sc_au:FnScope ["_law_script","_law_k"] ["_law_script","_law_k"] (defScope s_au):=⟨rfl,rfl,rfl,by decide +kernel,rfl,by decide +kernel,by decide +kernel⟩
theorem sc_bo:FnScope ["_law_cell","_law_k","_law_base","_law_rest","_law_j","_law_number"] ["_law_cell","_law_k","_law_base"] (defScope s_bo):=⟨rfl,rfl,rfl,by decide +kernel,rfl,by decide +kernel,by decide +kernel⟩
theorem sc_cj:FnScope ["_law_cell","_law_many","_law_hand","_law_state","_law_word","_law_at","_law_entry","_law_letters","_law_k"] ["_law_cell","_law_many","_law_hand","_law_state","_law_word"] (defScope s_cj):=⟨rfl,rfl,rfl,by decide +kernel,rfl,by decide +kernel,by decide +kernel⟩
theorem sc_ap:CloScope ["_law_hand","_law_state","_law_word","_law_cell","_law_many"] ["_law_hand","_law_state","_law_word"] ["_law_cell","_law_many"] (lamScope s_ap):=⟨rfl,rfl,rfl,by decide +kernel,rfl,rfl,by decide,by decide +kernel,by decide +kernel,by decide +kernel,by decide +kernel⟩
theorem fr_cd:∀ x∈(["_law_cell","_law_many"]:List Str),(defScope (top 38)).names.lookup x=some .cell:=by decide +kernel
theorem sc_av:FnScope ["self","hand","name","word","thread","led","event"] ["self","hand","name","word"] (defScope s_av):=⟨rfl,rfl,rfl,by decide +kernel,rfl,by decide +kernel,by decide +kernel⟩
theorem sc_ck:FnScope ["self","hand"] ["self","hand"] (defScope s_ck):=⟨rfl,rfl,rfl,by decide +kernel,rfl,by decide +kernel,by decide +kernel⟩
theorem sc_cl:FnScope ["self","hand","name"] ["self","hand","name"] (defScope s_cl):=⟨rfl,rfl,rfl,by decide +kernel,rfl,by decide +kernel,by decide +kernel⟩
theorem sc_bp:FnScope ["self","hand"] ["self","hand"] (defScope s_bp):=⟨rfl,rfl,rfl,by decide +kernel,rfl,by decide +kernel,by decide +kernel⟩
theorem sc_bd:FnScope ["self"] ["self"] (defScope s_bd):=⟨rfl,rfl,rfl,by decide +kernel,rfl,by decide +kernel,by decide +kernel⟩
theorem sc_ca:FnScope ["self"] ["self"] (defScope s_ca):=⟨rfl,rfl,rfl,by decide +kernel,rfl,by decide +kernel,by decide +kernel⟩
theorem sc_af:FnScope ["self"] ["self"] (defScope s_af):=⟨rfl,rfl,rfl,by decide +kernel,rfl,by decide +kernel,by decide +kernel⟩
theorem sc_ag:FnScope ["self"] ["self"] (defScope s_ag):=⟨rfl,rfl,rfl,by decide +kernel,rfl,by decide +kernel,by decide +kernel⟩
theorem sc_cb:FnScope ["self","does","starts","habits","ordered"] ["self","does","starts","habits","ordered"] (defScope s_cb):=⟨rfl,rfl,rfl,by decide +kernel,rfl,by decide +kernel,by decide +kernel⟩
theorem sc_am:FnScope ["line","name"] ["line","name"] (defScope s_am):=⟨rfl,rfl,rfl,by decide +kernel,rfl,by decide +kernel,by decide +kernel⟩
theorem sc_an:FnScope ["line","user","place"] ["line","user","place"] (defScope s_an):=⟨rfl,rfl,rfl,by decide +kernel,rfl,by decide +kernel,by decide +kernel⟩
theorem sc_cc:FnScope ["loom","line","sent","uses","names"] ["loom","line"] (defScope s_cc):=⟨rfl,rfl,rfl,by decide +kernel,rfl,by decide +kernel,by decide +kernel⟩
theorem sc_cm:FnScope ["loom","line"] ["loom","line"] (defScope s_cm):=⟨rfl,rfl,rfl,by decide +kernel,rfl,by decide +kernel,by decide +kernel⟩
theorem sc_cq:FnScope ["loom","line","sent","uses","names"] ["loom","line"] (defScope s_cq):=⟨rfl,rfl,rfl,by decide +kernel,rfl,by decide +kernel,by decide +kernel⟩
theorem sc_cr:FnScope ["one","other"] ["one","other"] (defScope s_cr):=⟨rfl,rfl,rfl,by decide +kernel,rfl,by decide +kernel,by decide +kernel⟩
theorem sc_cs:FnScope ["one","other"] ["one","other"] (defScope s_cs):=⟨rfl,rfl,rfl,by decide +kernel,rfl,by decide +kernel,by decide +kernel⟩
theorem sc_be:FnScope ["_law_cell","_law_many","_law_found","_law_k","_law_kind"] ["_law_cell","_law_many"] (defScope s_be):=⟨rfl,rfl,rfl,by decide +kernel,rfl,by decide +kernel,by decide +kernel⟩
theorem sc_bq:FnScope ["_law_loom_here","_law_found","_law_sent","_law_ways","_law_name","_law_way","_law_hand"] ["_law_loom_here"] (defScope s_bq):=⟨rfl,rfl,rfl,by decide +kernel,rfl,by decide +kernel,by decide +kernel⟩
theorem sc_br:FnScope ["_law_loom_here","_law_cell","_law_size","_law_k","_law_deeds_here","_law_deed"] ["_law_loom_here","_law_cell","_law_size"] (defScope s_br):=⟨rfl,rfl,rfl,by decide +kernel,rfl,by decide +kernel,by decide +kernel⟩
theorem sc_cd:FnScope ["_law_script","_law_first","_law_cell","_law_many","_law_does","_law_habits_here","_law_loom_here"] ["_law_script"] (defScope s_cd):=⟨rfl,rfl,rfl,by decide +kernel,rfl,by decide +kernel,by decide +kernel⟩
theorem sc_ce:FnScope ["_law_loom_here","_law_cell","_law_places"] ["_law_loom_here","_law_cell"] (defScope s_ce):=⟨rfl,rfl,rfl,by decide +kernel,rfl,by decide +kernel,by decide +kernel⟩
theorem sc_bf:FnScope ["_law_loom_here","_law_line_here","_law_sent","_law_found","_law_name","_law_place"] ["_law_loom_here","_law_line_here"] (defScope s_bf):=⟨rfl,rfl,rfl,by decide +kernel,rfl,by decide +kernel,by decide +kernel⟩
theorem sc_aq:FnScope ["_law_loom_here","_law_line_here","_law_used","_law_found","_law_name","_law_letter"] ["_law_loom_here","_law_line_here"] (defScope s_aq):=⟨rfl,rfl,rfl,by decide +kernel,rfl,by decide +kernel,by decide +kernel⟩
theorem sc_bs:FnScope ["_law_loom_here","_law_line_here","_law_handed","_law_found","_law_due","_law_sound","_law_road"] ["_law_loom_here","_law_line_here"] (defScope s_bs):=⟨rfl,rfl,rfl,by decide +kernel,rfl,by decide +kernel,by decide +kernel⟩
theorem sc_law:FnScope ["_law_script","_law_loom_here","_law_one","_law_other","_law_handed","_law_more","_law_less","_law_k","_law_line_here"] ["_law_script"] (defScope s_law):=⟨rfl,rfl,rfl,by decide +kernel,rfl,by decide +kernel,by decide +kernel⟩
theorem b_all:bootBuiltins "all" = some (.builtin "all"):=by decide +kernel
theorem b_bool:bootBuiltins "bool" = some (.type "bool"):=by decide +kernel
theorem b_dict:bootBuiltins "dict" = some (.type "dict"):=by decide +kernel
theorem b_int:bootBuiltins "int" = some (.type "int"):=by decide +kernel
theorem b_isinstance:bootBuiltins "isinstance" = some (.builtin "isinstance"):=by decide +kernel
theorem b_len:bootBuiltins "len" = some (.builtin "len"):=by decide +kernel
theorem b_list:bootBuiltins "list" = some (.type "list"):=by decide +kernel
theorem b_max:bootBuiltins "max" = some (.builtin "max"):=by decide +kernel
theorem b_min:bootBuiltins "min" = some (.builtin "min"):=by decide +kernel
theorem b_sorted:bootBuiltins "sorted" = some (.builtin "sorted"):=by decide +kernel
theorem b_tuple:bootBuiltins "tuple" = some (.type "tuple"):=by decide +kernel
set_option genInjectivity false in
set_option genSizeOf false in
structure Adr where
 c_Bundle:Addr
 c_Each:Addr
 c_Event:Addr
 c_Loom:Addr
 c_Never:Addr
 c_NoPoint:Addr
 c_NoSize:Addr
 c_Thread:Addr
 f_am:Addr
 f_an:Addr
 f_cc:Addr
 f_cm:Addr
 f_cq:Addr
 f_cr:Addr
 f_cs:Addr
 f_ci:Addr
 f_ad:Addr
 f_ab:Addr
 f_ae:Addr
 f_ba:Addr
 f_ac:Addr
 f_aa:Addr
 f_bn:Addr
 f_co:Addr
 f_bb:Addr
 f_bc:Addr
 f_bx:Addr
 f_ar:Addr
 f_al:Addr
 f_ah:Addr
 f_ai:Addr
 f_cp:Addr
 f_cb:Addr
 f_ck:Addr
 f_cl:Addr
 f_bp:Addr
 f_bd:Addr
 f_ca:Addr
 f_af:Addr
 f_ag:Addr
 f_aj:Addr
 f_as:Addr
 f_av:Addr
 f_ao:Addr
 f_bz:Addr
 f_au:Addr
 f_bo:Addr
 f_cj:Addr
 f_be:Addr
 f_bq:Addr
 f_br:Addr
 f_cd:Addr
 f_ce:Addr
 f_bf:Addr
 f_aq:Addr
 f_bs:Addr
 f_law:Addr
 cd_cd:Addr
 tb_cd:Addr
 ts:List Addr
 fd_ci:FuncData
 fd_bn:FuncData
 fd_co:FuncData
 fd_ad:FuncData
 fd_ab:FuncData
 fd_ae:FuncData
 fd_ba:FuncData
 fd_ac:FuncData
 fd_aa:FuncData
 fd_bb:FuncData
 fd_bc:FuncData
 fd_al:FuncData
 fd_ah:FuncData
 fd_ai:FuncData
 fd_bx:FuncData
 fd_ar:FuncData
 fd_cp:FuncData
 fd_aj:FuncData
 fd_ao:FuncData
 fd_as:FuncData
 fd_bz:FuncData
 fd_au:FuncData
 fd_bo:FuncData
 fd_cj:FuncData
 fd_av:FuncData
 fd_ck:FuncData
 fd_cl:FuncData
 fd_bp:FuncData
 fd_bd:FuncData
 fd_ca:FuncData
 fd_af:FuncData
 fd_ag:FuncData
 fd_cb:FuncData
 fd_am:FuncData
 fd_an:FuncData
 fd_cc:FuncData
 fd_cm:FuncData
 fd_cq:FuncData
 fd_cr:FuncData
 fd_cs:FuncData
 fd_be:FuncData
 fd_bq:FuncData
 fd_br:FuncData
 fd_cd:FuncData
 fd_ce:FuncData
 fd_bf:FuncData
 fd_aq:FuncData
 fd_bs:FuncData
 fd_law:FuncData
set_option genInjectivity false in
set_option genSizeOf false in
structure Txt (K:W.Frag) (mg:Str→Option Value) (t:Adr):Prop where
 no_isinstance:mg "isinstance" = none
 no_bool:mg "bool" = none
 no_int:mg "int" = none
 na_bt:NoAttr K t.c_Event "used"
 cl_Event:Cls K t.c_Event
 na_bh:NoAttr K t.c_Event "state"
 na_bu:NoAttr K t.c_Event "sent"
 no_tuple:mg "tuple" = none
 na_bv:NoAttr K t.c_Event "said"
 no_list:mg "list" = none
 mk_Event:Mk K t.c_Event t.f_bn
 mg_Event:mg "Event" = some (.ref t.c_Event)
 b_bn:Binds K t.fd_bn ["self","used","state","sent","said"] []
 mg_ci:mg "is_whole" = some (.ref t.f_ci)
 kp_ci:W.keepIn K (.ref t.f_ci)=true
 b_ci:Binds K t.fd_ci ["value"] []
 mv_SMALLEST_SIZE:∃ t,mg "SMALLEST_SIZE" = some (.int 1 t)
 mv_GREATEST_SIZE:∃ t,mg "GREATEST_SIZE" = some (.int 20 t)
 mg_NoSize:mg "NoSize" = some (.ref t.c_NoSize)
 ex_NoSize:ExcC K t.c_NoSize
 na_bg:NoAttr K t.c_Bundle "size"
 cl_Bundle:Cls K t.c_Bundle
 na_aw:NoAttr K t.c_Thread "first"
 cl_Thread:Cls K t.c_Thread
 na_ax:NoAttr K t.c_Thread "habit"
 na_bi:NoAttr K t.c_Thread "done"
 na_ak:NoAttr K t.c_Thread "writings"
 na_bj:NoAttr K t.c_Thread "down"
 no_len:mg "len" = none
 me_bc:Meth K t.c_Thread "here" t.f_bc
 b_bc:Binds K t.fd_bc ["self"] []
 me_al:Meth K t.c_Thread "is_here" t.f_al
 b_al:Binds K t.fd_al ["self","place"] []
 me_ah:Meth K t.c_Thread "is_point" t.f_ah
 b_ah:Binds K t.fd_ah ["self","place"] []
 mg_NoPoint:mg "NoPoint" = some (.ref t.c_NoPoint)
 ex_NoPoint:ExcC K t.c_NoPoint
 mg_co:mg "copy_of" = some (.ref t.f_co)
 kp_co:W.keepIn K (.ref t.f_co)=true
 b_co:Binds K t.fd_co ["event"] []
 me_ac:Meth K t.c_Bundle "down_by_deed" t.f_ac
 b_ac:Binds K t.fd_ac ["self","down","here"] []
 cl_Each:Cls K t.c_Each
 me_ae:Meth K t.c_Each "down_by_deed" t.f_ae
 b_ae:Binds K t.fd_ae ["self","down","here"] []
 cl_Never:Cls K t.c_Never
 me_Never_down_by_deed:Meth K t.c_Never "down_by_deed" t.f_ad
 b_ad:Binds K t.fd_ad ["self","down","here"] []
 me_aa:Meth K t.c_Bundle "down_by_writing" t.f_aa
 b_aa:Binds K t.fd_aa ["self","down","here"] []
 me_Each_down_by_writing:Meth K t.c_Each "down_by_writing" t.f_ab
 b_ab:Binds K t.fd_ab ["self","down","here"] []
 me_Never_down_by_writing:Meth K t.c_Never "down_by_writing" t.f_ab
 no_all:mg "all" = none
 na_cg:NoAttr K t.c_Loom "many"
 cl_Loom:Cls K t.c_Loom
 na_az:NoAttr K t.c_Loom "threads"
 na_cn:NoAttr K t.c_Loom "log"
 mg_cp:mg "is_name" = some (.ref t.f_cp)
 kp_cp:W.keepIn K (.ref t.f_cp)=true
 b_cp:Binds K t.fd_cp ["value"] []
 na_ch:NoAttr K t.c_Loom "ways"
 no_min:mg "min" = none
 na_ay:NoAttr K t.c_Loom "ordered"
 no_enumerate:mg "enumerate" = none
 na_bk:NoAttr K t.c_Loom "posted"
 na_bw:NoAttr K t.c_Loom "taken"
 no_range:mg "range" = none
 mg_bo:mg "_law_digit" = some (.ref t.f_bo)
 kp_bo:W.keepIn K (.ref t.f_bo)=true
 b_bo:Binds K t.fd_bo ["_law_cell","_law_k","_law_base"] []
 mg_cj:mg "_law_led" = some (.ref t.f_cj)
 kp_cj:W.keepIn K (.ref t.f_cj)=true
 b_cj:Binds K t.fd_cj ["_law_cell","_law_many","_law_hand","_law_state","_law_word"] []
 na_cf:NoAttr K t.c_Loom "does"
 me_ai:Meth K t.c_Thread "state_at" t.f_ai
 b_ai:Binds K t.fd_ai ["self","place"] []
 me_bx:Meth K t.c_Thread "do" t.f_bx
 b_bx:Binds K t.fd_bx ["self","event"] []
 me_bz:Meth K t.c_Loom "post" t.f_bz
 b_bz:Binds K t.fd_bz ["self","sender","place","letters"] []
 me_aj:Meth K t.c_Loom "check_hand" t.f_aj
 b_aj:Binds K t.fd_aj ["self","hand"] []
 me_av:Meth K t.c_Loom "do_deed" t.f_av
 b_av:Binds K t.fd_av ["self","hand","name","word"] []
 me_ao:Meth K t.c_Loom "note_row" t.f_ao
 b_ao:Binds K t.fd_ao ["self","hand","row"] []
 me_as:Meth K t.c_Loom "may_use" t.f_as
 b_as:Binds K t.fd_as ["self","hand","name"] []
 me_ar:Meth K t.c_Thread "write" t.f_ar
 b_ar:Binds K t.fd_ar ["self"] []
 no_sorted:mg "sorted" = none
 no_dict:mg "dict" = none
 no_zip:mg "zip" = none
 mk_Thread:Mk K t.c_Thread t.f_bb
 mg_Thread:mg "Thread" = some (.ref t.c_Thread)
 b_bb:Binds K t.fd_bb ["self","start","habit"] []
 me_af:Meth K t.c_Loom "letters_sent" t.f_af
 b_af:Binds K t.fd_af ["self"] []
 me_ag:Meth K t.c_Loom "letters_used" t.f_ag
 b_ag:Binds K t.fd_ag ["self"] []
 mg_an:mg "is_used_within" = some (.ref t.f_an)
 kp_an:W.keepIn K (.ref t.f_an)=true
 b_an:Binds K t.fd_an ["line","user","place"] []
 mg_am:mg "is_sent_within" = some (.ref t.f_am)
 kp_am:W.keepIn K (.ref t.f_am)=true
 b_am:Binds K t.fd_am ["line","name"] []
 mg_cc:mg "broken_by" = some (.ref t.f_cc)
 kp_cc:W.keepIn K (.ref t.f_cc)=true
 b_cc:Binds K t.fd_cc ["loom","line"] []
 no_max:mg "max" = none
 mk_Bundle:Mk K t.c_Bundle t.f_ba
 mg_Bundle:mg "Bundle" = some (.ref t.c_Bundle)
 b_ba:Binds K t.fd_ba ["self","size"] []
 mk_Each:MkO K t.c_Each
 mg_Each:mg "Each" = some (.ref t.c_Each)
 mk_Never:MkO K t.c_Never
 mg_Never:mg "Never" = some (.ref t.c_Never)
 me_ca:Meth K t.c_Loom "road" t.f_ca
 b_ca:Binds K t.fd_ca ["self"] []
 mg_bq:mg "_law_deeds" = some (.ref t.f_bq)
 kp_bq:W.keepIn K (.ref t.f_bq)=true
 b_bq:Binds K t.fd_bq ["_law_loom_here"] []
 me_cl:Meth K t.c_Loom "use" t.f_cl
 b_cl:Binds K t.fd_cl ["self","hand","name"] []
 me_ck:Meth K t.c_Loom "own" t.f_ck
 b_ck:Binds K t.fd_ck ["self","hand"] []
 me_bp:Meth K t.c_Loom "write" t.f_bp
 b_bp:Binds K t.fd_bp ["self","hand"] []
 mg_au:mg "_law_cell_at" = some (.ref t.f_au)
 kp_au:W.keepIn K (.ref t.f_au)=true
 b_au:Binds K t.fd_au ["_law_script","_law_k"] []
 mg_be:mg "_law_habits" = some (.ref t.f_be)
 kp_be:W.keepIn K (.ref t.f_be)=true
 b_be:Binds K t.fd_be ["_law_cell","_law_many"] []
 mk_Loom:Mk K t.c_Loom t.f_cb
 mg_Loom:mg "Loom" = some (.ref t.c_Loom)
 b_cb:Binds K t.fd_cb ["self","does","starts","habits","ordered"] []
 mg_br:mg "_law_woven" = some (.ref t.f_br)
 kp_br:W.keepIn K (.ref t.f_br)=true
 b_br:Binds K t.fd_br ["_law_loom_here","_law_cell","_law_size"] []
 me_bd:Meth K t.c_Loom "places" t.f_bd
 b_bd:Binds K t.fd_bd ["self"] []
 mg_bf:mg "_law_broken" = some (.ref t.f_bf)
 kp_bf:W.keepIn K (.ref t.f_bf)=true
 b_bf:Binds K t.fd_bf ["_law_loom_here","_law_line_here"] []
 mg_cm:mg "is_sound" = some (.ref t.f_cm)
 kp_cm:W.keepIn K (.ref t.f_cm)=true
 b_cm:Binds K t.fd_cm ["loom","line"] []
 mg_cq:mg "on_road" = some (.ref t.f_cq)
 kp_cq:W.keepIn K (.ref t.f_cq)=true
 b_cq:Binds K t.fd_cq ["loom","line"] []
 mg_aq:mg "_law_crossing" = some (.ref t.f_aq)
 kp_aq:W.keepIn K (.ref t.f_aq)=true
 b_aq:Binds K t.fd_aq ["_law_loom_here","_law_line_here"] []
 mg_cd:mg "_law_loom" = some (.ref t.f_cd)
 kp_cd:W.keepIn K (.ref t.f_cd)=true
 b_cd:Binds K t.fd_cd ["_law_script"] []
 mg_ce:mg "_law_line" = some (.ref t.f_ce)
 kp_ce:W.keepIn K (.ref t.f_ce)=true
 b_ce:Binds K t.fd_ce ["_law_loom_here","_law_cell"] []
 mg_cr:mg "joined" = some (.ref t.f_cr)
 kp_cr:W.keepIn K (.ref t.f_cr)=true
 b_cr:Binds K t.fd_cr ["one","other"] []
 mg_cs:mg "met_of" = some (.ref t.f_cs)
 kp_cs:W.keepIn K (.ref t.f_cs)=true
 b_cs:Binds K t.fd_cs ["one","other"] []
 mg_bs:mg "_law_right" = some (.ref t.f_bs)
 kp_bs:W.keepIn K (.ref t.f_bs)=true
 b_bs:Binds K t.fd_bs ["_law_loom_here","_law_line_here"] []
 F_ci:Fun K "is_whole" "is_whole" s_ci t.f_ci t.fd_ci
 F_bn:Fun K "__init__" "Event.__init__" s_bn t.f_bn t.fd_bn
 F_co:Fun K "copy_of" "copy_of" s_co t.f_co t.fd_co
 F_ad:Fun K "down_by_deed" "Habit.down_by_deed" s_ad t.f_ad t.fd_ad
 F_ab:Fun K "down_by_writing" "Habit.down_by_writing" s_ab t.f_ab t.fd_ab
 F_ae:Fun K "down_by_deed" "Each.down_by_deed" s_ae t.f_ae t.fd_ae
 F_ba:Fun K "__init__" "Bundle.__init__" s_ba t.f_ba t.fd_ba
 F_ac:Fun K "down_by_deed" "Bundle.down_by_deed" s_ac t.f_ac t.fd_ac
 F_aa:Fun K "down_by_writing" "Bundle.down_by_writing" s_aa t.f_aa t.fd_aa
 F_bb:Fun K "__init__" "Thread.__init__" s_bb t.f_bb t.fd_bb
 F_bc:Fun K "here" "Thread.here" s_bc t.f_bc t.fd_bc
 F_al:Fun K "is_here" "Thread.is_here" s_al t.f_al t.fd_al
 F_ah:Fun K "is_point" "Thread.is_point" s_ah t.f_ah t.fd_ah
 F_ai:Fun K "state_at" "Thread.state_at" s_ai t.f_ai t.fd_ai
 F_bx:Fun K "do" "Thread.do" s_bx t.f_bx t.fd_bx
 F_ar:Fun K "write" "Thread.write" s_ar t.f_ar t.fd_ar
 F_cp:Fun K "is_name" "is_name" s_cp t.f_cp t.fd_cp
 F_aj:Fun K "check_hand" "Loom.check_hand" s_aj t.f_aj t.fd_aj
 F_ao:Fun K "note_row" "Loom.note_row" s_ao t.f_ao t.fd_ao
 F_as:Fun K "may_use" "Loom.may_use" s_as t.f_as t.fd_as
 F_bz:Fun K "post" "Loom.post" s_bz t.f_bz t.fd_bz
 F_au:Fun K "_law_cell_at" "_law_cell_at" s_au t.f_au t.fd_au
 F_bo:Fun K "_law_digit" "_law_digit" s_bo t.f_bo t.fd_bo
 F_cj:Fun K "_law_led" "_law_led" s_cj t.f_cj t.fd_cj
 F_av:Fun K "do_deed" "Loom.do_deed" s_av t.f_av t.fd_av
 F_ck:Fun K "own" "Loom.own" s_ck t.f_ck t.fd_ck
 F_cl:Fun K "use" "Loom.use" s_cl t.f_cl t.fd_cl
 F_bp:Fun K "write" "Loom.write" s_bp t.f_bp t.fd_bp
 F_bd:Fun K "places" "Loom.places" s_bd t.f_bd t.fd_bd
 F_ca:Fun K "road" "Loom.road" s_ca t.f_ca t.fd_ca
 F_af:Fun K "letters_sent" "Loom.letters_sent" s_af t.f_af t.fd_af
 F_ag:Fun K "letters_used" "Loom.letters_used" s_ag t.f_ag t.fd_ag
 F_cb:Fun K "__init__" "Loom.__init__" s_cb t.f_cb t.fd_cb
 F_am:Fun K "is_sent_within" "is_sent_within" s_am t.f_am t.fd_am
 F_an:Fun K "is_used_within" "is_used_within" s_an t.f_an t.fd_an
 F_cc:Fun K "broken_by" "broken_by" s_cc t.f_cc t.fd_cc
 F_cm:Fun K "is_sound" "is_sound" s_cm t.f_cm t.fd_cm
 F_cq:Fun K "on_road" "on_road" s_cq t.f_cq t.fd_cq
 F_cr:Fun K "joined" "joined" s_cr t.f_cr t.fd_cr
 F_cs:Fun K "met_of" "met_of" s_cs t.f_cs t.fd_cs
 F_be:Fun K "_law_habits" "_law_habits" s_be t.f_be t.fd_be
 F_bq:Fun K "_law_deeds" "_law_deeds" s_bq t.f_bq t.fd_bq
 F_br:Fun K "_law_woven" "_law_woven" s_br t.f_br t.fd_br
 F_cd:Fun K "_law_loom" "_law_loom" s_cd t.f_cd t.fd_cd
 F_ce:Fun K "_law_line" "_law_line" s_ce t.f_ce t.fd_ce
 F_bf:Fun K "_law_broken" "_law_broken" s_bf t.f_bf t.fd_bf
 F_aq:Fun K "_law_crossing" "_law_crossing" s_aq t.f_aq t.fd_aq
 F_bs:Fun K "_law_right" "_law_right" s_bs t.f_bs t.fd_bs
 F_law:Fun K "law" "law" s_law t.f_law t.fd_law
 b_law:Binds K t.fd_law ["_law_script"] []
 tab_cd:W.codeHdIn K t.cd_cd t.tb_cd=true
 tn_cd:K.lookup t.tb_cd=none
 tin_cd:t.tb_cd∈t.ts
 cde_cd:t.fd_cd.code=.ref t.cd_cd
 tall:∀ P∈t.ts,P∈[t.tb_cd]
 ki_b:W.kitOne K (.type "int") (.type "bool")=some false
 xk_NoPoint:ExcK K t.c_NoPoint
 ik_Event:InsK K t.c_Event
structure Tabs (mg:Str→Option Value) (base:Heap) (t:Adr):Prop where
 tb_cd:Tab mg base t.cd_cd t.tb_cd
section
variable {P:Program}{w:World}{K:W.Frag}{mg:Str→Option Value}{base:Heap}{t:Adr}
variable {ts:List Addr}
def sp_ci:Sp:=fun vs H Q _=>∃ i,vs=[.int i]∧Q (.bl true) H
theorem ok_ci (T:Txt K mg t):FnOk P w K mg base (CXr P w) 1 t.f_ci t.fd_ci ["value"] sp_ci:=by
 refine T.F_ci.okN sc_ci (fun vs H Q E h=>?_) (fun cdv A outer s H vs Q E hr h=>?_)
 ·obtain⟨i,rfl,_⟩:=h;rfl
 ·obtain⟨i,rfl,k⟩:=h
  refine⟨_,(pss_one (ps_ret (pe_and (pe_callB (call_isinstK (K:=K)) rfl T.no_isinstance b_isinstance (pa_c (pv 0) (pa_c (pe_bltn (v:=.ty "int") rfl T.no_int b_int rfl) pa_nil))) (pe_one (pe_not (pe_callB (call_isinstK (K:=K)) rfl T.no_isinstance b_isinstance (pa_c (pv 0) (pa_c (pe_bltn (v:=.ty "bool") rfl T.no_bool b_bool rfl) pa_nil)))))))),?_⟩
  refine⟨_,rfl,_,_,.plain (.int i),kitOne_self _ _,_,rfl,iteT ?_⟩
  exact⟨_,rfl,_,_,.plain (.int i),T.ki_b,_,rfl,k⟩
theorem sqL_put {H:Hp}{p a C dx:Addr}{fs fs':List (Str×V)}{xs:List V}(hp:H p=some (.ins C dx fs)) (h:SqL K H a xs):SqL K (upd H p (.ins C dx fs')) a xs:=by
 rcases h with (h|⟨o,h⟩)|h
 ·exact .inl (.inl (by rw[upd_ne (ne_of h hp (by simp))];exact h))
 ·exact .inl (.inr ⟨o,by rw[upd_ne (ne_of h hp (by simp))];exact h⟩)
 ·exact .inr h
theorem sqT_put {H:Hp}{p a C dx:Addr}{fs fs':List (Str×V)}{xs:List V}(hp:H p=some (.ins C dx fs)) (h:SqT K H a xs):SqT K (upd H p (.ins C dx fs')) a xs:=by
 rcases h with (h|⟨o,h⟩)|h
 ·exact .inl (.inl (by rw[upd_ne (ne_of h hp (by simp))];exact h))
 ·exact .inl (.inr ⟨o,by rw[upd_ne (ne_of h hp (by simp))];exact h⟩)
 ·exact .inr h
theorem putF_len {f:Str}{v:V}{fs:List (Str×V)}{n:Nat}(h:fs.length≤n) (hn:n<999):(putF f v fs).length<1000:=by
 have:=length_putF f v fs
 omega
def evF (v:V) (st:Int) (l1 l2:Addr):List (Str×V):=putF "said" (.ref l2) (putF "sent" (.ref l1) (putF "state" (.int st) (putF "used" v [])))
def sp_bn (K:W.Frag) (t:Adr):Sp:=fun vs H Q _=>∃ p dx v st a b xs ys,vs=[.ref p,v,.int st,.ref a,.ref b]∧H p=some (.ins t.c_Event dx [])∧SqL K H a xs∧xs.length≤1000∧(∀ x∈xs,∃ q zs,x=.ref q∧SqT K H q zs)∧SqL K H b ys ∧
 ∀ l1 l2 H',H l1=none→H l2=none→l1≠l2→(∀ c,H' c=if c=p then some (.ins t.c_Event dx (evF v st l1 l2)) else if c=l1 then some (.lst xs) else if c=l2 then some (.lst ys) else H c)→Q .non H'
theorem ok_bn (T:Txt K mg t):FnOk P w K mg base (CXr P w) 1 t.f_bn t.fd_bn ["self","used","state","sent","said"] (sp_bn K t):=by
 refine T.F_bn.okN sc_bn (fun vs H Q E h=>?_) (fun cdv A outer s H vs Q E hr h=>?_)
 ·obtain⟨p,dx,v,st,a,b,xs,ys,rfl,_⟩:=h;rfl
 ·obtain⟨p,dx,v,st,a,b,xs,ys,rfl,hp,ha,few,hx,hb,k⟩:=h
  refine⟨_,(pss_cons (ps_fldK (K:=K) (pv 0) (pv 1) rfl)
   (pss_cons (ps_fldK (K:=K) (pv 0) (pv 2) rfl)
   (pss_cons (ps_fldK (K:=K) (pv 0) (pe_comp ["self","used","state","sent","said","letter"] 1 rfl (pi_listK (K:=K) (pv 3)) (fun _ _ _ _ _=>⟨(pg_name (i:=5) (show List.Nodup (["self","used","state","sent","said","letter"]:List Str) from by decide +kernel) rfl (Or.inl rfl)),pts_nil,(pe_callTy (call_tupleK (K:=K)) rfl T.no_tuple b_tuple (pa_c (pv 5) pa_nil))⟩)) rfl)
   (pss_one (ps_fldK (K:=K) (pv 0) (pe_callTy (call_listK (K:=K)) rfl T.no_list b_list (pa_c (pv 4) pa_nil)) rfl))))),?_⟩
  refine⟨_,rfl,_,rfl,p,_,dx,_,rfl,hp,T.cl_Event,T.na_bt,by decide,?_⟩
  refine⟨_,rfl,_,rfl,p,_,dx,_,rfl,upd_same,T.cl_Event,T.na_bh,putF_len (n:=0) (Nat.le_refl _) (by decide),?_⟩
  rw[upd_upd]
  have ha1:SqL K (upd H p (HO.ins t.c_Event dx (putF "state" (V.int st) (putF "used" v [])))) a xs:=sqL_put hp ha
  have hb1:SqL K (upd H p (HO.ins t.c_Event dx (putF "state" (V.int st) (putF "used" v [])))) b ys:=sqL_put hp hb
  have hx1:∀ x∈xs,∃ q zs,x=.ref q∧SqT K (upd H p (HO.ins t.c_Event dx (putF "state" (V.int st) (putF "used" v [])))) q zs:=fun x m=>let ⟨q,zs,e,h⟩:=hx x m;⟨q,zs,e,sqT_put hp h⟩
  have hp1:upd H p (HO.ins t.c_Event dx (putF "state" (V.int st) (putF "used" v []))) p=_:=upd_same
  generalize hH1:upd H p (HO.ins t.c_Event dx (putF "state" (V.int st) (putF "used" v [])))=H1 at ha1 hb1 hx1 hp1 ⊢
  refine⟨_,rfl,a,rfl,⟨_,ha1⟩,comp_list (xs:=xs) few fun acc hacc=>⟨fun i σ2 zs H2=>zs=xs.take i∧H2=upd H1 acc (.lst zs)∧∃ o,σ2=[some (.ref p),some v,some (.int st),some (.ref a),some (.ref b),o],⟨rfl,rfl,_,rfl⟩,?_,?_,?_⟩⟩
  ·rintro i σ2 zs H2 hi ⟨rfl,rfl,_,rfl⟩
   exact⟨(Same.new hacc).seq ha1,by rw[List.length_take];omega⟩
  ·rintro i x σ2 zs H2 hi hx' ⟨rfl,rfl,o,rfl⟩
   obtain⟨q,zs,rfl,hq⟩:=hx1 x (List.mem_of_getElem? hx')
   dsimp only[gName,tYes]
   refine iteT ⟨_,rfl,q,zs,rfl,.inr ⟨(Same.new hacc).tup hq,upd_same,Nx.mk hi ⟨?_,?_,_,rfl⟩⟩⟩
   ·rw[List.take_add_one,hx'];rfl
   ·rw[upd_upd]
  ·rintro σ2 zs H2 ⟨rfl,rfl,o,rfl⟩
   rw[List.take_length]
   have npa:p≠acc:=ne_of_none hp1 hacc
   refine⟨_,rfl,p,_,dx,_,rfl,(by rw[upd_ne npa];exact hp1),T.cl_Event,T.na_bu,putF_len (n:=1) (length_putF _ _ _) (by decide),?_⟩
   refine⟨_,rfl,b,ys,rfl,.inl (sqL_put (by rw[upd_ne npa];exact hp1) ((Same.new hacc).seq hb1)),fun l2 hl2=>?_⟩
   have n2p:p≠l2:=ne_of_none (upd_same) hl2
   have nl:acc≠l2:=ne_of_none (o:=.lst xs) (by rw[upd_ne (Ne.symm npa),upd_same]) hl2
   refine⟨_,rfl,p,_,dx,_,rfl,(by rw[upd_ne n2p,upd_same]),T.cl_Event,T.na_bv,putF_len (n:=2) (Nat.le_trans (length_putF _ _ _) (Nat.succ_le_succ (length_putF _ _ _))) (by decide),?_⟩
   refine k acc l2 _ ?_ ?_ nl fun c=>?_
   ·rw[← hH1,upd_ne (Ne.symm npa)] at hacc;exact hacc
   ·rw[upd_ne (Ne.symm n2p),upd_ne (Ne.symm nl),← hH1,upd_ne (Ne.symm n2p)] at hl2;exact hl2
   ·rw[← hH1]
    unfold evF
    by_cases c1:c=p
    ·rw[c1,upd_same,if_pos rfl]
    ·rw[upd_ne c1,if_neg c1]
     by_cases c2:c=l2
     ·rw[c2,upd_same,if_neg (Ne.symm nl),if_pos rfl]
     ·rw[upd_ne c2,upd_ne c1]
      by_cases c3:c=acc
      ·rw[c3,upd_same,if_pos rfl]
      ·rw[upd_ne c3,upd_ne c1,if_neg c3,if_neg c2]
structure EvA where
 u:PyData
 st:Int
 se:List (List PyData)
 sa:List PyData
def EvO (K:W.Frag) (t:Adr) (G:Hp) (e:Addr) (A:EvA):Prop:=∃ dx v l1 l2 xs ys,G e=some (.ins t.c_Event dx (evF v A.st l1 l2))∧Rp K G v A.u∧G l1=some (.lst xs)∧RpAll K G xs (A.se.map PyData.tuple)∧xs.length≤1000∧G l2=some (.lst ys)∧RpAll K G ys A.sa
theorem EvO.same {G G':Hp}{e:Addr}{A:EvA}(s:Same G G') (h:EvO K t G e A):EvO K t G' e A:=by
 obtain⟨dx,v,l1,l2,xs,ys,h1,h2,h3,h4,h5,h6,h7⟩:=h
 exact⟨dx,v,l1,l2,xs,ys,s _ _ h1,h2.same s,s _ _ h3,h4.same s,h5,s _ _ h6,h7.same s⟩
theorem evF_used {v:V}{st:Int}{l1 l2:Addr}:(evF v st l1 l2).lookup ("used" : Str)=some v:=by unfold evF;rw[lookup_putF,if_neg (by decide),lookup_putF,if_neg (by decide),lookup_putF,if_neg (by decide),lookup_putF,if_pos rfl]
theorem evF_state {v:V}{st:Int}{l1 l2:Addr}:(evF v st l1 l2).lookup ("state" : Str)=some (V.int st):=by unfold evF;rw[lookup_putF,if_neg (by decide),lookup_putF,if_neg (by decide),lookup_putF,if_pos rfl]
theorem evF_sent {v:V}{st:Int}{l1 l2:Addr}:(evF v st l1 l2).lookup ("sent" : Str)=some (V.ref l1):=by unfold evF;rw[lookup_putF,if_neg (by decide),lookup_putF,if_pos rfl]
theorem evF_said {v:V}{st:Int}{l1 l2:Addr}:(evF v st l1 l2).lookup ("said" : Str)=some (V.ref l2):=by unfold evF;rw[lookup_putF,if_pos rfl]
theorem tups_of {G:Hp}:∀ {xs:List V}{ds:List (List PyData)},RpAll K G xs (ds.map PyData.tuple)→∀ x∈xs,∃ q zs,x=.ref q∧SqT K G q zs
 | _,d::ds,.cons r rs,x,hx=>by
  rcases List.mem_cons.mp hx with rfl|hx
  ·cases r with
   | tup q _=>exact⟨_,_,rfl,q⟩
  ·exact tups_of rs x hx
 | _,[],.nil,x,hx=>by cases hx
def sp_co (K:W.Frag) (t:Adr):Sp:=fun vs H Q _=>∃ G e A,vs=[.ref e]∧Same G H∧EvO K t G e A∧∀ G' H' e',Grow H G G' H'→Same H H'→EvO K t G' e' A→Q (.ref e') H'
theorem ok_co (T:Txt K mg t):FnOk P w K mg base (CXr P w) 3 t.f_co t.fd_co ["event"] (sp_co K t):=by
 refine T.F_co.okN sc_co (fun vs H Q E h=>?_) (fun cdv A outer s H vs Q E hr h=>?_)
 ·obtain⟨G,e,A,rfl,_⟩:=h;rfl
 ·obtain⟨G,e,A,rfl,sG,ev,k⟩:=h
  refine⟨_,(pss_one (ps_ret (pe_make T.mk_Event (ok_bn T) (hr.mono (by decide)) rfl T.mg_Event T.b_bn .nil passr0 (pa_c (pe_fldK (K:=K) (pv 0) rfl) (pa_c (pe_fldK (K:=K) (pv 0) rfl) (pa_c (pe_fldK (K:=K) (pv 0) rfl) (pa_c (pe_fldK (K:=K) (pv 0) rfl) pa_nil))))))),?_⟩
  obtain⟨dx,v,l1,l2,xs,ys,h1,h2,h3,h4,h5,h6,h7⟩:=id ev
  have he:=sG _ _ h1
  refine⟨_,rfl,e,_,dx,_,_,rfl,he,T.cl_Event,T.na_bt,evF_used,?_⟩
  refine⟨_,rfl,e,_,dx,_,_,rfl,he,T.cl_Event,T.na_bh,evF_state,?_⟩
  refine⟨_,rfl,e,_,dx,_,_,rfl,he,T.cl_Event,T.na_bu,evF_sent,?_⟩
  refine⟨_,rfl,e,_,dx,_,_,rfl,he,T.cl_Event,T.na_bv,evF_said,fun x dx' nx ndx nex=>?_⟩
  have sI:Same H (upd (upd H dx' (.own x)) x (.ins t.c_Event dx' [])):=Same.ins nx ndx
  refine⟨x,dx',v,A.st,l1,l2,xs,ys,rfl,upd_same,SqL.of (sI _ _ (sG _ _ h3)),h5,fun y hy=>let ⟨q,zs,e1,e2⟩:=tups_of h4 y hy;⟨q,zs,e1,(sG.trans sI).tup e2⟩,SqL.of (sI _ _ (sG _ _ h6)),fun m1 m2 H' n1 n2 n12 hH=>⟨rfl,?_⟩⟩
  have m1x:m1≠x:=fun z=>by rw[z,upd_same] at n1;cases n1
  have m2x:m2≠x:=fun z=>by rw[z,upd_same] at n2;cases n2
  have m1H:H m1=none:=by
   cases q:H m1 with
   | none=>rfl
   | some u=>rw[sI _ _ q] at n1;cases n1
  have m2H:H m2=none:=by
   cases q:H m2 with
   | none=>rfl
   | some u=>rw[sI _ _ q] at n2;cases n2
  have gN:∀ {c:Addr},H c=none→G c=none:=fun {c} z=>by
   cases q:G c with
   | none=>rfl
   | some u=>rw[sG _ _ q] at z;cases z
  have sGH:Same H H':=fun c u q=>by
   rw[hH c,if_neg (fun z=>by rw[z,nx] at q;cases q),if_neg (fun z=>by rw[z,m1H] at q;cases q),if_neg (fun z=>by rw[z,m2H] at q;cases q)]
   exact sI _ _ q
  have g1:Same G (upd G m1 (.lst xs)):=Same.new (gN m1H)
  have g2:Same (upd G m1 (.lst xs)) (upd (upd G m1 (.lst xs)) m2 (.lst ys)):=Same.new (by rw[upd_ne (Ne.symm n12)];exact gN m2H)
  have g3:Same (upd (upd G m1 (.lst xs)) m2 (.lst ys)) (upd (upd (upd G m1 (.lst xs)) m2 (.lst ys)) x (.ins t.c_Event dx' (evF v A.st m1 m2))):=Same.new (by rw[upd_ne (Ne.symm m2x),upd_ne (Ne.symm m1x)];exact gN nx)
  have gs:=g1.trans (g2.trans g3)
  refine k (upd (upd (upd G m1 (.lst xs)) m2 (.lst ys)) x (.ins t.c_Event dx' (evF v A.st m1 m2))) H' x ⟨gs,fun c u q=>?_,fun c u q=>?_⟩ sGH ⟨dx',v,m1,m2,xs,ys,upd_same,h2.same gs,?_,h4.same gs,h5,?_,h7.same gs⟩
  ·rw[hH c]
   by_cases c1:c=x
   ·rw[c1,upd_same] at q;rw[if_pos c1];exact q
   ·rw[upd_ne c1] at q;rw[if_neg c1]
    by_cases c2:c=m1
    ·rw[c2,upd_ne n12,upd_same] at q;rw[if_pos c2];exact q
    ·rw[if_neg c2]
     by_cases c3:c=m2
     ·rw[c3,upd_same] at q;rw[if_pos c3];exact q
     ·rw[if_neg c3];rw[upd_ne c3,upd_ne c2] at q;exact sI _ _ (sG _ _ q)
  ·by_cases c1:c=x
   ·rw[c1];exact .inr nx
   ·rw[upd_ne c1] at q
    by_cases c3:c=m2
    ·rw[c3];exact .inr m2H
    ·rw[upd_ne c3] at q
     by_cases c2:c=m1
     ·rw[c2];exact .inr m1H
     ·rw[upd_ne c2] at q;exact .inl q
  ·rw[upd_ne m1x,upd_ne n12,upd_same]
  ·rw[upd_ne m2x,upd_same]
def sp_ad:Sp:=fun vs H Q _=>∃ x d h,vs=[x,.int d,.int h]∧Q (.int d) H
theorem ok_ad (T:Txt K mg t):FnOk P w K mg base (CXr P w) 1 t.f_ad t.fd_ad ["self","down","here"] sp_ad:=by
 refine T.F_ad.okN sc_ad (fun vs H Q E h=>?_) (fun cdv A outer s H vs Q E hr h=>?_)
 ·obtain⟨x,d,h,rfl,_⟩:=h;rfl
 ·obtain⟨x,d,h,rfl,k⟩:=h
  exact⟨_,(pss_one (ps_ret (pv 1))),_,rfl,k⟩
def sp_ab:Sp:=fun vs H Q _=>∃ x d h,vs=[x,.int d,.int h]∧Q (.int d) H
theorem ok_ab (T:Txt K mg t):FnOk P w K mg base (CXr P w) 1 t.f_ab t.fd_ab ["self","down","here"] sp_ab:=by
 refine T.F_ab.okN sc_ab (fun vs H Q E h=>?_) (fun cdv A outer s H vs Q E hr h=>?_)
 ·obtain⟨x,d,h,rfl,_⟩:=h;rfl
 ·obtain⟨x,d,h,rfl,k⟩:=h
  exact⟨_,(pss_one (ps_ret (pv 1))),_,rfl,k⟩
def sp_ae:Sp:=fun vs H Q _=>∃ x d h,vs=[x,.int d,.int h]∧Q (.int h) H
theorem ok_ae (T:Txt K mg t):FnOk P w K mg base (CXr P w) 1 t.f_ae t.fd_ae ["self","down","here"] sp_ae:=by
 refine T.F_ae.okN sc_ae (fun vs H Q E h=>?_) (fun cdv A outer s H vs Q E hr h=>?_)
 ·obtain⟨x,d,h,rfl,_⟩:=h;rfl
 ·obtain⟨x,d,h,rfl,k⟩:=h
  exact⟨_,(pss_one (ps_ret (pv 2))),_,rfl,k⟩
def sp_ba (t:Adr):Sp:=fun vs H Q E=>∃ p dx i,vs=[.ref p,.int i]∧H p=some (.ins t.c_Bundle dx []) ∧
 (1≤i→i≤20→Q .non (upd H p (.ins t.c_Bundle dx (putF "size" (.int i) []))))∧(¬ (1≤i∧i≤20)→E (.ref t.c_NoSize) none H)
theorem ok_ba (T:Txt K mg t):FnOk P w K mg base (CXr P w) 2 t.f_ba t.fd_ba ["self","size"] (sp_ba t):=by
 refine T.F_ba.okR sc_ba (fun vs H Q E h=>?_) (fun cdv A outer s H vs Q E hh hr h=>?_)
 ·obtain⟨p,dx,i,rfl,_⟩:=h;rfl
 ·obtain⟨p,dx,i,rfl,hp,kg,kb⟩:=h
  refine⟨_,(pss_cons (ps_if (PW.pt (pw_or (pt_not (pt_val (pe_call (ok_ci T) (hr.mono (by decide)) rfl T.mg_ci T.kp_ci T.b_ci .nil passr0 (pa_c (pv 1) pa_nil)))) (pw_or (pt_cmpR op_lt (pv 1) (pe_constI rfl T.mv_SMALLEST_SIZE) (nomark _)) (pw_or1 (pt_cmpR op_gt (pv 1) (pe_constI rfl T.mv_GREATEST_SIZE) (nomark _))))))
    (pss_one (ps_raise hh rfl T.mg_NoSize T.ex_NoSize (pa_c pe_str pa_nil)))
    pss_nil)
   (pss_one (ps_fldK (K:=K) (pv 0) (pv 1) rfl))),?_⟩
  refine⟨_,rfl,i,rfl,_,rfl,iteF ?_⟩
  refine⟨_,rfl,_,_,rfl,rfl,_,rfl,ite2 (fun z=>iteT ⟨by decide,kb ?_⟩) fun z1=>?_⟩
  ·have:=of_decide_eq_true z;omega
  refine⟨_,rfl,_,_,rfl,rfl,_,rfl,ite2 (fun z=>⟨by decide,kb ?_⟩) fun z2=>?_⟩
  ·have:=of_decide_eq_true z;omega
  have l1:1≤i:=by simpa using z1
  have l2:i≤20:=by simpa using z2
  exact⟨_,rfl,_,rfl,p,_,dx,_,rfl,hp,T.cl_Bundle,T.na_bg,by decide,kg l1 l2⟩
def sp_ac (t:Adr):Sp:=fun vs H Q _=>∃ p dx n d h,vs=[.ref p,.int d,.int h]∧H p=some (.ins t.c_Bundle dx (putF "size" (.int n) []))∧Q (.int (if h-d ≥ n then h else d)) H
theorem ok_ac (T:Txt K mg t):FnOk P w K mg base (CXr P w) 1 t.f_ac t.fd_ac ["self","down","here"] (sp_ac t):=by
 refine T.F_ac.okN sc_ac (fun vs H Q E h=>?_) (fun cdv A outer s H vs Q E hr h=>?_)
 ·obtain⟨p,dx,n,d,h,rfl,_⟩:=h;rfl
 ·obtain⟨p,dx,n,d,h,rfl,hp,k⟩:=h
  refine⟨_,(pss_cons (ps_if (pt_cmpR op_ge (pe_op op_sub (pv 2) (pv 1)) (pe_fldK (K:=K) (pv 0) rfl) (nomark _))
    (pss_one (ps_ret (pv 2)))
    pss_nil)
   (pss_one (ps_ret (pv 1)))),?_⟩
  refine⟨_,rfl,_,rfl,_,_,rfl,rfl,_,rfl,p,_,dx,_,.int n,rfl,hp,T.cl_Bundle,T.na_bg,(by rw[lookup_putF,if_pos rfl]),_,_,rfl,rfl,_,rfl,ite2 (fun z=>⟨_,rfl,?_⟩) fun z=>⟨_,rfl,?_⟩⟩
  ·rwa [if_pos (of_decide_eq_true z)] at k
  ·rwa [if_neg (fun y=>z (decide_eq_true y))] at k
def sp_aa:Sp:=fun vs H Q _=>∃ x d h,vs=[x,.int d,.int h]∧Q (.int h) H
theorem ok_aa (T:Txt K mg t):FnOk P w K mg base (CXr P w) 1 t.f_aa t.fd_aa ["self","down","here"] sp_aa:=by
 refine T.F_aa.okN sc_aa (fun vs H Q E h=>?_) (fun cdv A outer s H vs Q E hr h=>?_)
 ·obtain⟨x,d,h,rfl,_⟩:=h;rfl
 ·obtain⟨x,d,h,rfl,k⟩:=h
  exact⟨_,(pss_one (ps_ret (pv 2))),_,rfl,k⟩
def thF (first:Int) (ha dn wr:Addr) (down:Int):List (Str×V):=[("first",.int first),("habit",.ref ha),("done",.ref dn),("writings",.ref wr),("down",.int down)]
theorem thF_len {first:Int}{ha dn wr:Addr}{down:Int}:(thF first ha dn wr down).length<1000:=by show 5<1000;decide
def sp_bb (t:Adr):Sp:=fun vs H Q _=>∃ p dx i ha,vs=[.ref p,.int i,.ref ha]∧H p=some (.ins t.c_Thread dx []) ∧
 ∀ dn wr H',H dn=none→H wr=none→dn≠wr→(∀ c,H' c=if c=p then some (.ins t.c_Thread dx (thF i ha dn wr 0)) else if c=dn then some (.lst []) else if c=wr then some (.lst [.int 0]) else H c)→Q .non H'
theorem ok_bb (T:Txt K mg t):FnOk P w K mg base (CXr P w) 1 t.f_bb t.fd_bb ["self","start","habit"] (sp_bb t):=by
 refine T.F_bb.okN sc_bb (fun vs H Q E h=>?_) (fun cdv A outer s H vs Q E hr h=>?_)
 ·obtain⟨p,dx,i,ha,rfl,_⟩:=h;rfl
 ·obtain⟨p,dx,i,ha,rfl,hp,k⟩:=h
  refine⟨_,(pss_cons (ps_fldK (K:=K) (pv 0) (pv 1) rfl)
   (pss_cons (ps_fldK (K:=K) (pv 0) (pv 2) rfl)
   (pss_cons (ps_fldK (K:=K) (pv 0) (pe_lst pa_nil) rfl)
   (pss_cons (ps_fldK (K:=K) (pv 0) (pe_lst (pa_c pe_int pa_nil)) rfl)
   (pss_one (ps_fldK (K:=K) (pv 0) pe_int rfl)))))),?_⟩
  refine⟨_,rfl,_,rfl,p,_,dx,_,rfl,hp,T.cl_Thread,T.na_aw,by decide,?_⟩
  refine⟨_,rfl,_,rfl,p,_,dx,_,rfl,upd_same,T.cl_Thread,T.na_ax,putF_len (n:=0) (Nat.le_refl _) (by decide),?_⟩
  rw[upd_upd]
  refine⟨by decide,fun dn hdn=>⟨_,rfl,p,_,dx,_,rfl,(by rw[upd_ne (ne_of_none upd_same hdn),upd_same]),T.cl_Thread,T.na_bi,putF_len (n:=1) (length_putF _ _ _) (by decide),?_⟩⟩
  have ndp:p≠dn:=ne_of_none upd_same hdn
  refine⟨by decide,fun wr hwr=>⟨_,rfl,p,_,dx,_,rfl,(by rw[upd_ne (ne_of_none upd_same hwr),upd_same]),T.cl_Thread,T.na_ak,putF_len (n:=2) (Nat.le_trans (length_putF _ _ _) (Nat.succ_le_succ (length_putF _ _ _))) (by decide),?_⟩⟩
  have nwp:p≠wr:=ne_of_none upd_same hwr
  have nwd:dn≠wr:=ne_of_none (o:=.lst []) (by rw[upd_ne (Ne.symm ndp),upd_same]) hwr
  refine⟨_,rfl,p,_,dx,_,rfl,upd_same,T.cl_Thread,T.na_bj,putF_len (n:=3) (Nat.le_trans (length_putF _ _ _) (Nat.succ_le_succ (Nat.le_trans (length_putF _ _ _) (Nat.succ_le_succ (length_putF _ _ _))))) (by decide),?_⟩
  refine k dn wr _ ?_ ?_ nwd fun c=>?_
  ·rw[upd_ne (Ne.symm ndp)] at hdn;exact hdn
  ·rw[upd_ne (Ne.symm nwp),upd_ne (Ne.symm nwd),upd_ne (Ne.symm nwp)] at hwr;exact hwr
  ·by_cases c1:c=p
   ·rw[c1,upd_same,if_pos rfl];rfl
   ·rw[upd_ne c1,upd_ne c1,if_neg c1]
    by_cases c2:c=wr
    ·rw[c2,upd_same,if_neg (Ne.symm nwd),if_pos rfl]
    ·rw[upd_ne c2,upd_ne c1]
     by_cases c3:c=dn
     ·rw[c3,upd_same,if_pos rfl]
     ·rw[upd_ne c3,upd_ne c1,if_neg c3,if_neg c2]
def sp_bc (t:Adr) (K:W.Frag):Sp:=fun vs H Q _=>∃ p dx i ha dn wr d xs,vs=[.ref p]∧H p=some (.ins t.c_Thread dx (thF i ha dn wr d))∧SqL K H dn xs∧Q (.int xs.length) H
theorem ok_bc (T:Txt K mg t):FnOk P w K mg base (CXr P w) 1 t.f_bc t.fd_bc ["self"] (sp_bc t K):=by
 refine T.F_bc.okN sc_bc (fun vs H Q E h=>?_) (fun cdv A outer s H vs Q E hr h=>?_)
 ·obtain⟨p,dx,i,ha,dn,wr,d,xs,rfl,_⟩:=h;rfl
 ·obtain⟨p,dx,i,ha,dn,wr,d,xs,rfl,hp,hd,k⟩:=h
  refine⟨_,(pss_one (ps_ret (pe_callB (call_lenK (K:=K)) rfl T.no_len b_len (pa_c (pe_fldK (K:=K) (pv 0) rfl) pa_nil)))),?_⟩
  exact⟨_,rfl,p,_,dx,_,.ref dn,rfl,hp,T.cl_Thread,T.na_bi,rfl,dn,xs,rfl,.inl hd,k⟩
def EvsO (K:W.Frag) (t:Adr) (G:Hp) (es:List V) (As:List EvA):Prop:=es.length=As.length∧∀ (i:Nat) (e:V) (A:EvA),es[i]? = some e→As[i]? = some A→∃ q,e=V.ref q∧EvO K t G q A
theorem EvsO.same {G G':Hp}{es:List V}{As:List EvA}(s:Same G G') (h:EvsO K t G es As):EvsO K t G' es As:=⟨h.1,fun i e A a b=>let ⟨q,z,y⟩:=h.2 i e A a b;⟨q,z,y.same s⟩⟩
theorem atI_zero {α:Type}{x:α}{xs:List α}:atI (x::xs) 0=some x:=by
 unfold atI ixN
 rw[if_pos (by omega),if_pos (by rw[List.length_cons];omega)]
 rfl
def sp_al (K:W.Frag) (t:Adr):Sp:=fun vs H Q _=>∃ p dx i ha dn wr d xs y,vs=[.ref p,.int y]∧H p=some (.ins t.c_Thread dx (thF i ha dn wr d))∧SqL K H dn xs∧Q (.bl (decide (y=xs.length))) H
theorem ok_al (T:Txt K mg t):FnOk P w K mg base (CXr P w) 2 t.f_al t.fd_al ["self","place"] (sp_al K t):=by
 refine T.F_al.okN sc_al (fun vs H Q E h=>?_) (fun cdv A outer s H vs Q E hr h=>?_)
 ·obtain⟨p,dx,i,ha,dn,wr,d,xs,y,rfl,_⟩:=h;rfl
 ·obtain⟨p,dx,i,ha,dn,wr,d,xs,y,rfl,hp,hd,k⟩:=h
  refine⟨_,(pss_one (ps_ret (pe_and (pe_call (ok_ci T) (hr.mono (by decide)) rfl T.mg_ci T.kp_ci T.b_ci .nil passr0 (pa_c (pv 1) pa_nil)) (pe_one (pe_cmpR op_eq (pv 1) (pe_meth0 (pv 0) T.cl_Thread T.me_bc (ok_bc T) (hr.mono (by decide)) T.b_bc .nil passr0) (nomark _)))))),?_⟩
  refine⟨_,rfl,y,rfl,_,rfl,iteT ?_⟩
  refine⟨_,rfl,_,rfl,p,dx,_,rfl,hp,rfl,p,dx,i,ha,dn,wr,d,xs,rfl,hp,hd,?_⟩
  refine⟨rfl,?_⟩
  have e:decide (V.int y=V.int xs.length)=decide (y=(xs.length:Int)):=by rw[Bool.eq_iff_iff];simp
  rw[e];exact k
theorem inV_iV {y:Int}:∀ {ws:List Int},inV (V.int y) (iV ws)=decide (y∈ws)
 | []=>rfl
 | w::ws=>by
  have ih:inV (V.int y) (iV ws)=decide (y∈ws):=inV_iV
  show (eqV (V.int w) (V.int y) || inV (V.int y) (iV ws))=_
  rw[ih,Bool.eq_iff_iff,Bool.or_eq_true,decide_eq_true_iff,decide_eq_true_iff,List.mem_cons]
  show ((w == y)=true∨_)↔_
  rw[beq_iff_eq]
  exact⟨fun h=>h.elim (fun e=>.inl e.symm) .inr,fun h=>h.elim (fun e=>.inl e.symm) .inr⟩
def sp_ah (t:Adr):Sp:=fun vs H Q _=>∃ p dx i ha dn wr d w0 ws y,vs=[.ref p,.int y]∧H p=some (.ins t.c_Thread dx (thF i ha dn wr d))∧H wr=some (.lst (iV (w0::ws)))∧Q (.bl (decide (y∈w0::ws∨(w0≤y∧y≤d)))) H
theorem ok_ah (T:Txt K mg t):FnOk P w K mg base (CXr P w) 2 t.f_ah t.fd_ah ["self","place"] (sp_ah t):=by
 refine T.F_ah.okN sc_ah (fun vs H Q E h=>?_) (fun cdv A outer s H vs Q E hr h=>?_)
 ·obtain⟨p,dx,i,ha,dn,wr,d,w0,ws,y,rfl,_⟩:=h;rfl
 ·obtain⟨p,dx,i,ha,dn,wr,d,w0,ws,y,rfl,hp,hw,k⟩:=h
  refine⟨_,(pss_cons (ps_if (pt_not (pt_val (pe_call (ok_ci T) (hr.mono (by decide)) rfl T.mg_ci T.kp_ci T.b_ci .nil passr0 (pa_c (pv 1) pa_nil))))
    (pss_one (ps_ret pe_bl))
    pss_nil)
   (pss_cons (ps_if (pt_cmpR (op_inK (K:=K)) (pv 1) (pe_fldK (K:=K) (pv 0) rfl) (by with_unfolding_all rfl))
    (pss_one (ps_ret pe_bl))
    pss_nil)
   (pss_one (ps_ret (pe_and (pe_cmpR op_ge (pv 1) (pe_ix (ix_listK (K:=K)) (pe_fldK (K:=K) (pv 0) rfl) pe_int (fun _ _=>rfl)) (nomark _)) (pe_one (pe_cmpR op_le (pv 1) (pe_fldK (K:=K) (pv 0) rfl) (nomark _)))))))),?_⟩
  refine⟨_,rfl,y,rfl,_,rfl,iteF ?_⟩
  refine⟨_,rfl,_,rfl,p,_,dx,_,.ref wr,rfl,hp,T.cl_Thread,T.na_ak,rfl,?_⟩
  have fl:(iV (w0::ws)).all flatV=true:=by
   unfold iV;rw[List.all_map];exact List.all_eq_true.mpr fun _ _=>rfl
  have ein:inV (V.int y) (iV (w0::ws))=decide (y∈w0::ws):=inV_iV
  refine⟨wr,_,rfl,.inl (SqL.of hw),rfl,fl,_,rfl,?_⟩
  rw[if_neg (by simp),ein]
  by_cases z:y∈w0::ws
  ·rw[decide_eq_true z]
   rw[decide_eq_true (Or.inl z)] at k
   exact iteT k
  ·rw[decide_eq_false z]
   refine iteF ?_
   refine⟨_,rfl,_,rfl,p,_,dx,_,.ref wr,rfl,hp,T.cl_Thread,T.na_ak,rfl,wr,_,0,.int w0,rfl,rfl,SqL.of hw,atI_zero,_,_,rfl,rfl,_,rfl,?_⟩
   refine ite2 (fun z1=>⟨_,rfl,_,rfl,p,_,dx,_,.int d,rfl,hp,T.cl_Thread,T.na_bj,rfl,_,_,rfl,rfl,?_⟩) fun z1=>?_
   ·have e:decide (y∈w0::ws∨w0≤y∧y≤d)=decide (y≤d):=by
     rw[Bool.eq_iff_iff,decide_eq_true_iff,decide_eq_true_iff]
     exact⟨fun h=>h.elim (fun q=>absurd q z) fun q=>q.2,fun h=>.inr ⟨of_decide_eq_true z1,h⟩⟩
    rw[e] at k;exact k
   ·have e:decide (y∈w0::ws∨w0≤y∧y≤d)=false:=by
     rw[decide_eq_false_iff_not]
     exact fun h=>h.elim z fun q=>z1 (decide_eq_true q.1)
    rw[e] at k;exact k
def stAt (first:Int) (As:List EvA) (y:Int):Int:=if y=0 then first else ((As[(y-1).toNat]?).map EvA.st).getD 0
def canHave (n:Nat) (ws:List Int) (w0 d y:Int):Prop:=y=n∨y∈w0::ws∨(w0≤y∧y≤d)
def sp_ai (K:W.Frag) (t:Adr):Sp:=fun vs H Q E=>∃ G p dx i ha dn wr d w0 ws es As y,vs=[.ref p,.int y]∧Same G H∧H p=some (.ins t.c_Thread dx (thF i ha dn wr d))∧H wr=some (.lst (iV (w0::ws)))∧H dn=some (.lst es)∧EvsO K t G es As ∧
 (∀ z∈w0::ws,0≤z∧z≤es.length)∧d≤es.length∧(canHave es.length ws w0 d y→Q (.int (stAt i As y)) H)∧(¬ canHave es.length ws w0 d y→E (.ref t.c_NoPoint) none H)
theorem ok_ai (T:Txt K mg t):FnOk P w K mg base (CXr P w) 3 t.f_ai t.fd_ai ["self","place"] (sp_ai K t):=by
 refine T.F_ai.okR sc_ai (fun vs H Q E h=>?_) (fun cdv A outer s H vs Q E hh hr h=>?_)
 ·obtain⟨G,p,dx,i,ha,dn,wr,d,w0,ws,es,As,y,rfl,_⟩:=h;rfl
 ·obtain⟨G,p,dx,i,ha,dn,wr,d,w0,ws,es,As,y,rfl,sG,hp,hw,hd,ev,bw,bd,kg,kb⟩:=h
  refine⟨_,(pss_cons (ps_if (PW.pt (pw_and (pt_not (pt_val (pe_meth (pv 0) T.cl_Thread T.me_al (ok_al T) (hr.mono (by decide)) T.b_al .nil passr0 (pa_c (pv 1) pa_nil)))) (pw_and1 (pt_not (pt_val (pe_meth (pv 0) T.cl_Thread T.me_ah (ok_ah T) (hr.mono (by decide)) T.b_ah .nil passr0 (pa_c (pv 1) pa_nil)))))))
    (pss_one (ps_raise hh rfl T.mg_NoPoint T.ex_NoPoint (pa_c pe_str pa_nil)))
    pss_nil)
   (pss_cons (ps_if (pt_cmpR op_eq (pv 1) pe_int (nomark _))
    (pss_one (ps_ret (pe_fldK (K:=K) (pv 0) rfl)))
    pss_nil)
   (pss_one (ps_ret (pe_fldK (K:=K) (pe_ix (ix_listK (K:=K)) (pe_fldK (K:=K) (pv 0) rfl) (pe_op op_sub (pv 1) pe_int) (fun _ _=>rfl)) rfl))))),?_⟩
  have b0:=bw w0 List.mem_cons_self
  have rest:canHave es.length ws w0 d y→Q (.int (stAt i As y)) H:=kg
  have rng:canHave es.length ws w0 d y→0≤y∧y≤es.length:=fun c=>by
   rcases c with c|c|c
   ·omega
   ·exact bw y c
   ·omega
  have fin:canHave es.length ws w0 d y→(tSeq (tIfS (tTest (tOp rEq (tVar 1) (tC (V.int 0)))) (tRet (tFld K (tVar 0) "first")) tNext)
    (tRet (tFld K (tOp (rIxL K) (tFld K (tVar 0) "done") (tOp (rI0 fun i j=>V.int (i-j)) (tVar 1) (tC (V.int 1)))) "state"))) { nx:=fun x H'=>Q V.non H',rt:=Q } [some (.ref p),some (.int y)] H:=by
   intro c
   have r:=rng c
   have kg':=kg c
   refine⟨_,rfl,rfl,_,rfl,?_⟩
   by_cases y0:y=0
   ·refine iteTe (by rw[y0];simp) ⟨_,rfl,p,_,dx,_,.int i,rfl,hp,T.cl_Thread,T.na_aw,rfl,?_⟩
    unfold stAt at kg';rw[if_pos y0] at kg';exact kg'
   ·refine iteFe (by simp[y0]) ?_
    obtain⟨e,he⟩:∃ e,es[(y-1).toNat]? = some e:=⟨_,List.getElem?_eq_getElem (by omega)⟩
    obtain⟨Ai,hA⟩:∃ Ai,As[(y-1).toNat]? = some Ai:=⟨_,List.getElem?_eq_getElem (by rw[← ev.1];omega)⟩
    obtain⟨q,rfl,dx',v,l1,l2,xs,ys,h1,_⟩:=ev.2 _ _ _ he hA
    refine⟨_,rfl,p,_,dx,_,.ref dn,rfl,hp,T.cl_Thread,T.na_bi,rfl,_,rfl,_,_,rfl,rfl,dn,es,y-1,.ref q,rfl,rfl,SqL.of hd,?_,q,_,dx',_,.int Ai.st,rfl,sG _ _ h1,T.cl_Event,T.na_bh,evF_state,?_⟩
    ·unfold atI ixN;rw[if_pos (by omega),if_pos (by omega)];exact he
    ·unfold stAt at kg';rw[if_neg y0,hA] at kg';exact kg'
  refine⟨_,rfl,p,dx,_,rfl,hp,rfl,_,rfl,p,dx,i,ha,dn,wr,d,es,y,rfl,hp,SqL.of hd,_,rfl,?_⟩
  by_cases c1:y=es.length
  ·refine iteFe (by rw[decide_eq_true c1];rfl) (iteF (fin (.inl c1)))
  ·refine iteTe (by rw[decide_eq_false c1];rfl) ?_
   refine⟨_,rfl,p,dx,_,rfl,hp,rfl,_,rfl,p,dx,i,ha,dn,wr,d,w0,ws,y,rfl,hp,hw,_,rfl,?_⟩
   by_cases c2:y∈w0::ws∨(w0≤y∧y≤d)
   ·exact iteFe (by rw[decide_eq_true c2];rfl) (fin (.inr c2))
   ·exact iteTe (by rw[decide_eq_false c2];rfl) ⟨by decide,kb fun z=>z.elim c1 c2⟩
inductive HabA where
 | never|each|bundle (n:Int)
def HabA.deed:HabA→Int→Int→Int
 | .never,d,_=>d
 | .each,_,h=>h
 | .bundle n,d,h=>if h-d ≥ n then h else d
def HabA.writ:HabA→Int→Int→Int
 | .bundle _,_,h=>h
 | _,d,_=>d
def HabO (t:Adr) (G:Hp) (ha:Addr):HabA→Prop
 | .never=>∃ dx,G ha=some (.ins t.c_Never dx [])
 | .each=>∃ dx,G ha=some (.ins t.c_Each dx [])
 | .bundle n=>∃ dx,G ha=some (.ins t.c_Bundle dx (putF "size" (.int n) []))
structure ThA where
 first:Int
 hab:HabA
 evs:List EvA
 ws:List Int
 down:Int
structure ThL where
 (p dx ha dn wr:Addr)
structure Th (K:W.Frag) (t:Adr) (G H:Hp) (L:ThL) (A:ThA):Prop where
 self:H L.p=some (.ins t.c_Thread L.dx (thF A.first L.ha L.dn L.wr A.down))
 hab:HabO t G L.ha A.hab
 done:∃ es,H L.dn=some (.lst es)∧EvsO K t G es A.evs
 writ:H L.wr=some (.lst (iV A.ws))
 held:Same G H
 gp:G L.p=none
 gd:G L.dn=none
 gw:G L.wr=none
 ne:L.dn≠L.wr
def sp_bx (K:W.Frag) (t:Adr):Sp:=fun vs H Q _=>∃ G L A e Ev,vs=[.ref L.p,.ref e]∧Th K t G H L A∧EvO K t G e Ev∧A.evs.length≤900 ∧
 ∀ G' H',Grow H G G' H'→But [L.p,L.dn] H H'→Th K t G' H' L { A with evs:=A.evs++[Ev],down:=A.hab.deed A.down (A.evs.length+1) }→Q .non H'
theorem ok_bx (T:Txt K mg t):FnOk P w K mg base (CXr P w) 4 t.f_bx t.fd_bx ["self","event"] (sp_bx K t):=by
 refine T.F_bx.okN sc_bx (fun vs H Q E h=>?_) (fun cdv A outer s H vs Q E hr h=>?_)
 ·obtain⟨G,L,A,e,Ev,rfl,_⟩:=h;rfl
 ·obtain⟨G,L,A,e,Ev,rfl,th,ev,few,k⟩:=h
  refine⟨_,(pss_cons (ps_expr (pe_bmK (K:=K) PySem.F.plainAttrs_list PySem.F.slot_list_append PySem.F.type_list_append mt_append (pe_fldK (K:=K) (pv 0) rfl) (pa_c (pe_call (ok_co T) (hr.mono (by decide)) rfl T.mg_co T.kp_co T.b_co .nil passr0 (pa_c (pv 1) pa_nil)) pa_nil)))
   (pss_one (ps_fldK (K:=K) (pv 0) (pe_alt (pe_meth (pe_fldK (K:=K) (pv 0) rfl) T.cl_Never T.me_Never_down_by_deed (ok_ad T) (hr.mono (by decide)) T.b_ad .nil passr0 (pa_c (pe_fldK (K:=K) (pv 0) rfl) (pa_c (pe_meth0 (pv 0) T.cl_Thread T.me_bc (ok_bc T) (hr.mono (by decide)) T.b_bc .nil passr0) pa_nil))) (pe_alt (pe_meth (pe_fldK (K:=K) (pv 0) rfl) T.cl_Each T.me_ae (ok_ae T) (hr.mono (by decide)) T.b_ae .nil passr0 (pa_c (pe_fldK (K:=K) (pv 0) rfl) (pa_c (pe_meth0 (pv 0) T.cl_Thread T.me_bc (ok_bc T) (hr.mono (by decide)) T.b_bc .nil passr0) pa_nil))) (pe_meth (pe_fldK (K:=K) (pv 0) rfl) T.cl_Bundle T.me_ac (ok_ac T) (hr.mono (by decide)) T.b_ac .nil passr0 (pa_c (pe_fldK (K:=K) (pv 0) rfl) (pa_c (pe_meth0 (pv 0) T.cl_Thread T.me_bc (ok_bc T) (hr.mono (by decide)) T.b_bc .nil passr0) pa_nil))))) rfl))),?_⟩
  obtain⟨es,hd,evs⟩:=th.done
  refine⟨_,rfl,L.p,_,L.dx,_,.ref L.dn,rfl,th.self,T.cl_Thread,T.na_bi,rfl,?_⟩
  refine⟨.inl ⟨rfl,es,SqL.of hd⟩,_,rfl,G,e,Ev,rfl,th.held,ev,fun G' H' e' g s2 ev'=>?_⟩
  refine⟨L.dn,es,.ref e',rfl,rfl,s2 _ _ hd,small1000 (by rw[evs.1];omega),?_⟩
  have npd:L.p≠L.dn:=ne_of th.self hd (by simp)
  have npw:L.p≠L.wr:=ne_of th.self th.writ (by simp)
  have hp1:upd H' L.dn (.lst (es++[.ref e'])) L.p=some (.ins t.c_Thread L.dx (thF A.first L.ha L.dn L.wr A.down)):=by rw[upd_ne npd];exact s2 _ _ th.self
  have hd1:upd H' L.dn (.lst (es++[.ref e'])) L.dn=some (.lst (es++[.ref e'])):=upd_same
  have len:((es++[V.ref e']).length:Int)=A.evs.length+1:=by rw[List.length_append,evs.1];simp
  have gp':G' L.p=none:=g.free (by rw[th.self];simp) th.gp
  have gd':G' L.dn=none:=g.free (by rw[hd];simp) th.gd
  have gw':G' L.wr=none:=g.free (by rw[th.writ];simp) th.gw
  have habH:∀ b u,G b=some u→upd H' L.dn (.lst (es++[.ref e'])) b=some u:=fun b u z=>by
   rw[upd_ne (ne_of_none z th.gd)];exact s2 _ _ (th.held _ _ z)
  have fin:∀ d',d'=A.hab.deed A.down (A.evs.length+1)→Q .non (upd (upd H' L.dn (.lst (es++[.ref e']))) L.p (.ins t.c_Thread L.dx (thF A.first L.ha L.dn L.wr d'))):=fun d' hd'=>by
   have held':Same G' (upd (upd H' L.dn (.lst (es++[.ref e']))) L.p (.ins t.c_Thread L.dx (thF A.first L.ha L.dn L.wr d'))):=fun b u z=>by
    rw[upd_ne (ne_of_none z gp'),upd_ne (ne_of_none z gd')];exact g.held _ _ z
   refine k G' _ ⟨g.sub,held',g.new⟩ (fun b u n z=>?_) ⟨?_,?_,⟨es++[.ref e'],?_,?_⟩,?_,held',gp',gd',gw',th.ne⟩
   ·simp only[List.mem_cons,List.not_mem_nil,or_false,not_or] at n
    rw[upd_ne n.1,upd_ne n.2];exact s2 _ _ z
   ·rw[upd_same,hd']
   ·have hh:=th.hab
    revert hh
    cases A.hab<;>exact fun ⟨dx,z⟩=>⟨dx,g.sub _ _ z⟩
   ·rw[upd_ne (Ne.symm npd),upd_same]
   ·refine⟨by rw[List.length_append,List.length_append,evs.1];rfl,fun j x B hx hB=>?_⟩
    rw[List.getElem?_append] at hx hB
    by_cases hj:j<es.length
    ·rw[if_pos hj] at hx
     rw[if_pos (by rw[← evs.1];exact hj)] at hB
     obtain⟨q,e1,e2⟩:=evs.2 j x B hx hB
     exact⟨q,e1,e2.same g.sub⟩
    ·rw[if_neg hj] at hx
     rw[if_neg (by rw[← evs.1];exact hj)] at hB
     have lt:=(List.getElem?_eq_some_iff.mp hx).1
     have:j-es.length=0:=by simp at lt;omega
     rw[this] at hx
     rw[← evs.1,this] at hB
     cases hx;cases hB
     exact⟨e',rfl,ev'⟩
   ·show upd (upd H' L.dn _) L.p _ L.wr=some (.lst (iV A.ws))
    rw[upd_ne (Ne.symm npw),upd_ne (Ne.symm th.ne)];exact s2 _ _ th.writ
  have hb:=th.hab
  cases hA:A.hab with
  | never=>
   rw[hA] at hb
   obtain⟨dxh,hh'⟩:=hb
   refine .inl ⟨_,rfl,L.p,_,L.dx,_,.ref L.ha,rfl,hp1,T.cl_Thread,T.na_ax,rfl,L.ha,dxh,_,rfl,habH _ _ hh',rfl,?_⟩
   refine⟨_,rfl,L.p,_,L.dx,_,.int A.down,rfl,hp1,T.cl_Thread,T.na_bj,rfl,?_⟩
   refine⟨_,rfl,L.p,L.dx,_,rfl,hp1,rfl,L.p,L.dx,_,_,_,_,_,_,rfl,hp1,SqL.of hd1,_,_,_,rfl,?_⟩
   exact⟨_,rfl,L.p,_,L.dx,_,rfl,hp1,T.cl_Thread,T.na_bj,thF_len,fin _ (by rw[hA];rfl)⟩
  | each=>
   rw[hA] at hb
   obtain⟨dxh,hh'⟩:=hb
   refine .inr (.inl ⟨_,rfl,L.p,_,L.dx,_,.ref L.ha,rfl,hp1,T.cl_Thread,T.na_ax,rfl,L.ha,dxh,_,rfl,habH _ _ hh',rfl,?_⟩)
   refine⟨_,rfl,L.p,_,L.dx,_,.int A.down,rfl,hp1,T.cl_Thread,T.na_bj,rfl,?_⟩
   refine⟨_,rfl,L.p,L.dx,_,rfl,hp1,rfl,L.p,L.dx,_,_,_,_,_,_,rfl,hp1,SqL.of hd1,_,_,_,rfl,?_⟩
   exact⟨_,rfl,L.p,_,L.dx,_,rfl,hp1,T.cl_Thread,T.na_bj,thF_len,fin _ (by rw[hA];exact len)⟩
  | bundle n=>
   rw[hA] at hb
   obtain⟨dxh,hh'⟩:=hb
   refine .inr (.inr ⟨_,rfl,L.p,_,L.dx,_,.ref L.ha,rfl,hp1,T.cl_Thread,T.na_ax,rfl,L.ha,dxh,_,rfl,habH _ _ hh',rfl,?_⟩)
   refine⟨_,rfl,L.p,_,L.dx,_,.int A.down,rfl,hp1,T.cl_Thread,T.na_bj,rfl,?_⟩
   refine⟨_,rfl,L.p,L.dx,_,rfl,hp1,rfl,L.p,L.dx,_,_,_,_,_,_,rfl,hp1,SqL.of hd1,L.ha,dxh,n,_,_,rfl,habH _ _ hh',?_⟩
   exact⟨_,rfl,L.p,_,L.dx,_,rfl,hp1,T.cl_Thread,T.na_bj,thF_len,fin _ (by rw[hA,len];rfl)⟩
def ThA.wrote (A:ThA):ThA:=if (A.evs.length:Int)∈A.ws then A else { A with ws:=A.ws++[(A.evs.length:Int)],down:=A.hab.writ A.down A.evs.length }
def sp_ar (K:W.Frag) (t:Adr):Sp:=fun vs H Q _=>∃ G L A,vs=[.ref L.p]∧Th K t G H L A∧A.ws.length≤900 ∧
 ∀ H',But [L.p,L.wr] H H'→Th K t G H' L A.wrote→Q .non H'
theorem ok_ar (T:Txt K mg t):FnOk P w K mg base (CXr P w) 2 t.f_ar t.fd_ar ["self"] (sp_ar K t):=by
 refine T.F_ar.okN sc_ar (fun vs H Q E h=>?_) (fun cdv A outer s H vs Q E hr h=>?_)
 ·obtain⟨G,L,A,rfl,_⟩:=h;rfl
 ·obtain⟨G,L,A,rfl,th,few,k⟩:=h
  refine⟨_,(pss_cons (ps_if (pt_cmpR (op_inK (K:=K)) (pe_meth0 (pv 0) T.cl_Thread T.me_bc (ok_bc T) (hr.mono (by decide)) T.b_bc .nil passr0) (pe_fldK (K:=K) (pv 0) rfl) (by with_unfolding_all rfl))
    (pss_one ps_retN)
    pss_nil)
   (pss_cons (ps_expr (pe_bmK (K:=K) PySem.F.plainAttrs_list PySem.F.slot_list_append PySem.F.type_list_append mt_append (pe_fldK (K:=K) (pv 0) rfl) (pa_c (pe_meth0 (pv 0) T.cl_Thread T.me_bc (ok_bc T) (hr.mono (by decide)) T.b_bc .nil passr0) pa_nil)))
   (pss_one (ps_fldK (K:=K) (pv 0) (pe_alt (pe_meth (pe_fldK (K:=K) (pv 0) rfl) T.cl_Never T.me_Never_down_by_writing (ok_ab T) (hr.mono (by decide)) T.b_ab .nil passr0 (pa_c (pe_fldK (K:=K) (pv 0) rfl) (pa_c (pe_meth0 (pv 0) T.cl_Thread T.me_bc (ok_bc T) (hr.mono (by decide)) T.b_bc .nil passr0) pa_nil))) (pe_alt (pe_meth (pe_fldK (K:=K) (pv 0) rfl) T.cl_Each T.me_Each_down_by_writing (ok_ab T) (hr.mono (by decide)) T.b_ab .nil passr0 (pa_c (pe_fldK (K:=K) (pv 0) rfl) (pa_c (pe_meth0 (pv 0) T.cl_Thread T.me_bc (ok_bc T) (hr.mono (by decide)) T.b_bc .nil passr0) pa_nil))) (pe_meth (pe_fldK (K:=K) (pv 0) rfl) T.cl_Bundle T.me_aa (ok_aa T) (hr.mono (by decide)) T.b_aa .nil passr0 (pa_c (pe_fldK (K:=K) (pv 0) rfl) (pa_c (pe_meth0 (pv 0) T.cl_Thread T.me_bc (ok_bc T) (hr.mono (by decide)) T.b_bc .nil passr0) pa_nil))))) rfl)))),?_⟩
  obtain⟨es,hd,evs⟩:=th.done
  have fl:(iV A.ws).all flatV=true:=by unfold iV;rw[List.all_map];exact List.all_eq_true.mpr fun _ _=>rfl
  refine⟨_,rfl,L.p,L.dx,_,rfl,th.self,rfl,L.p,L.dx,_,_,_,_,_,es,rfl,th.self,SqL.of hd,_,rfl,L.p,_,L.dx,_,.ref L.wr,rfl,th.self,T.cl_Thread,T.na_ak,rfl,L.wr,_,rfl,.inl (SqL.of th.writ),rfl,fl,_,rfl,?_⟩
  rw[if_neg (by simp),inV_iV,evs.1]
  by_cases z:(A.evs.length:Int)∈A.ws
  ·rw[decide_eq_true z]
   refine iteT (k H (But.of (Same.refl _)) ?_)
   unfold ThA.wrote;rw[if_pos z];exact th
  ·rw[decide_eq_false z]
   refine iteF ?_
   refine⟨_,rfl,L.p,_,L.dx,_,.ref L.wr,rfl,th.self,T.cl_Thread,T.na_ak,rfl,.inl ⟨rfl,_,SqL.of th.writ⟩,?_⟩
   refine⟨_,rfl,L.p,L.dx,_,rfl,th.self,rfl,L.p,L.dx,_,_,_,_,_,es,rfl,th.self,SqL.of hd,L.wr,_,_,rfl,rfl,th.writ,small1000 (by unfold iV;rw[List.length_map];omega),?_⟩
   have npw:L.p≠L.wr:=ne_of th.self th.writ (by simp)
   have npd:L.p≠L.dn:=ne_of th.self hd (by simp)
   have eW:iV A.ws++[V.int es.length]=iV (A.ws++[(A.evs.length:Int)]):=by unfold iV;rw[List.map_append,evs.1];rfl
   rw[eW]
   have hp1:upd H L.wr (.lst (iV (A.ws++[(A.evs.length:Int)]))) L.p=some (.ins t.c_Thread L.dx (thF A.first L.ha L.dn L.wr A.down)):=by rw[upd_ne npw];exact th.self
   have hd1:upd H L.wr (.lst (iV (A.ws++[(A.evs.length:Int)]))) L.dn=some (.lst es):=by rw[upd_ne th.ne];exact hd
   have habH:∀ b u,G b=some u→upd H L.wr (.lst (iV (A.ws++[(A.evs.length:Int)]))) b=some u:=fun b u z=>by
    rw[upd_ne (ne_of_none z th.gw)];exact th.held _ _ z
   have len:(es.length:Int)=A.evs.length:=by rw[evs.1]
   have fin:∀ d',d'=A.hab.writ A.down A.evs.length→Q .non (upd (upd H L.wr (.lst (iV (A.ws++[(A.evs.length:Int)])))) L.p (.ins t.c_Thread L.dx (thF A.first L.ha L.dn L.wr d'))):=fun d' hd'=>by
    refine k _ (fun b u n q=>?_) ?_
    ·simp only[List.mem_cons,List.not_mem_nil,or_false,not_or] at n
     rw[upd_ne n.1,upd_ne n.2];exact q
    ·unfold ThA.wrote
     rw[if_neg z]
     refine⟨?_,th.hab,⟨es,?_,evs⟩,?_,fun b u q=>?_,th.gp,th.gd,th.gw,th.ne⟩
     ·rw[upd_same,hd']
     ·rw[upd_ne (Ne.symm npd)];exact hd1
     ·show upd (upd H L.wr _) L.p _ L.wr=_
      rw[upd_ne (Ne.symm npw),upd_same]
     ·rw[upd_ne (ne_of_none q th.gp)];exact habH _ _ q
   have hb:=th.hab
   cases hA:A.hab with
   | never=>
    rw[hA] at hb
    obtain⟨dxh,hh'⟩:=hb
    refine .inl ⟨_,rfl,L.p,_,L.dx,_,.ref L.ha,rfl,hp1,T.cl_Thread,T.na_ax,rfl,L.ha,dxh,_,rfl,habH _ _ hh',rfl,?_⟩
    refine⟨_,rfl,L.p,_,L.dx,_,.int A.down,rfl,hp1,T.cl_Thread,T.na_bj,rfl,?_⟩
    refine⟨_,rfl,L.p,L.dx,_,rfl,hp1,rfl,L.p,L.dx,_,_,_,_,_,_,rfl,hp1,SqL.of hd1,_,_,_,rfl,?_⟩
    exact⟨_,rfl,L.p,_,L.dx,_,rfl,hp1,T.cl_Thread,T.na_bj,thF_len,fin _ (by rw[hA];rfl)⟩
   | each=>
    rw[hA] at hb
    obtain⟨dxh,hh'⟩:=hb
    refine .inr (.inl ⟨_,rfl,L.p,_,L.dx,_,.ref L.ha,rfl,hp1,T.cl_Thread,T.na_ax,rfl,L.ha,dxh,_,rfl,habH _ _ hh',rfl,?_⟩)
    refine⟨_,rfl,L.p,_,L.dx,_,.int A.down,rfl,hp1,T.cl_Thread,T.na_bj,rfl,?_⟩
    refine⟨_,rfl,L.p,L.dx,_,rfl,hp1,rfl,L.p,L.dx,_,_,_,_,_,_,rfl,hp1,SqL.of hd1,_,_,_,rfl,?_⟩
    exact⟨_,rfl,L.p,_,L.dx,_,rfl,hp1,T.cl_Thread,T.na_bj,thF_len,fin _ (by rw[hA];rfl)⟩
   | bundle n=>
    rw[hA] at hb
    obtain⟨dxh,hh'⟩:=hb
    refine .inr (.inr ⟨_,rfl,L.p,_,L.dx,_,.ref L.ha,rfl,hp1,T.cl_Thread,T.na_ax,rfl,L.ha,dxh,_,rfl,habH _ _ hh',rfl,?_⟩)
    refine⟨_,rfl,L.p,_,L.dx,_,.int A.down,rfl,hp1,T.cl_Thread,T.na_bj,rfl,?_⟩
    refine⟨_,rfl,L.p,L.dx,_,rfl,hp1,rfl,L.p,L.dx,_,_,_,_,_,_,rfl,hp1,SqL.of hd1,_,_,_,rfl,?_⟩
    exact⟨_,rfl,L.p,_,L.dx,_,rfl,hp1,T.cl_Thread,T.na_bj,thF_len,fin _ (by rw[hA,len];rfl)⟩
theorem HabO.same {G G':Hp}{ha:Addr}{hb:HabA}(s:Same G G') (h:HabO t G ha hb):HabO t G' ha hb:=by
 cases hb<;>exact let ⟨dx,z⟩:=h;⟨dx,s _ _ z⟩
theorem Th.keep {G G' H H':Hp}{L:ThL}{A:ThA}(h:Th K t G H L A) (sg:Same G G') (s':Same G' H') (kp:∀ b o,b∈[L.p,L.dn,L.wr]→H b=some o→H' b=some o) (n:∀ b∈[L.p,L.dn,L.wr],G' b=none):Th K t G' H' L A:=by
 obtain⟨es,h1,h2⟩:=h.done
 exact⟨kp _ _ (by simp) h.self,h.hab.same sg,⟨es,kp _ _ (by simp) h1,h2.same sg⟩,kp _ _ (by simp) h.writ,s',n _ (by simp),n _ (by simp),n _ (by simp),h.ne⟩
theorem ev_new {G H H5:Hp}{e dxe m1 m2:Addr}{v:V}{Ev:EvA}{xs ys:List V}(sG:Same G H) (ne:H e=none) (nde:H dxe=none) (n1:upd (upd H dxe (.own e)) e (.ins t.c_Event dxe []) m1=none) (n2:upd (upd H dxe (.own e)) e (.ins t.c_Event dxe []) m2=none) (n12:m1≠m2)
  (hH:∀ c,H5 c=if c=e then some (.ins t.c_Event dxe (evF v Ev.st m1 m2)) else if c=m1 then some (.lst xs) else if c=m2 then some (.lst ys) else upd (upd H dxe (.own e)) e (.ins t.c_Event dxe []) c)
  (r1:Rp K G v Ev.u) (r2:RpAll K G xs (Ev.se.map PyData.tuple)) (few:xs.length≤1000) (r3:RpAll K G ys Ev.sa):∃ G',Grow H G G' H5∧Same H H5∧EvO K t G' e Ev:=by
 have sI:Same H (upd (upd H dxe (.own e)) e (.ins t.c_Event dxe [])):=Same.ins ne nde
 have m1e:m1≠e:=fun z=>by rw[z,upd_same] at n1;cases n1
 have m2e:m2≠e:=fun z=>by rw[z,upd_same] at n2;cases n2
 have fr:∀ {c:Addr},upd (upd H dxe (.own e)) e (.ins t.c_Event dxe []) c=none→H c=none:=fun {c} z=>by
  cases q:H c with
  | none=>rfl
  | some u=>rw[sI _ _ q] at z;cases z
 have s5:Same H H5:=fun c u q=>by
  rw[hH c,if_neg (ne_of_none q ne),if_neg (ne_of_none q (fr n1)),if_neg (ne_of_none q (fr n2))]
  exact sI _ _ q
 have g0:Grow H G G H5:=⟨Same.refl _,sG.trans s5,fun _ _ z=>.inl z⟩
 have g1:=g0.freeze (o:=.lst xs) (fr n1) (by rw[hH m1,if_neg m1e,if_pos rfl])
 have g2:=g1.freeze (o:=.lst ys) (fr n2) (by rw[hH m2,if_neg m2e,if_neg (Ne.symm n12),if_pos rfl])
 have g3:=g2.freeze (o:=.ins t.c_Event dxe (evF v Ev.st m1 m2)) ne (by rw[hH e,if_pos rfl])
 exact⟨_,g3,s5,dxe,v,m1,m2,xs,ys,upd_same,r1.same g3.sub,by rw[upd_ne m1e,upd_ne n12,upd_same],r2.same g3.sub,few,by rw[upd_ne m2e,upd_same],r3.same g3.sub⟩
def sp_cp:Sp:=fun vs H Q _=>∃ b x y z,vs=[.ref b]∧H b=some (.tup [.int x,.int y,.int z])∧∀ H',Same H H'→Q (.bl true) H'
theorem ok_cp (T:Txt K mg t):FnOk P w K mg base (CXr P w) 2 t.f_cp t.fd_cp ["value"] sp_cp:=by
 refine T.F_cp.okN sc_cp (fun vs H Q E h=>?_) (fun cdv A outer s H vs Q E hr h=>?_)
 ·obtain⟨b,x,y,z,rfl,_⟩:=h;rfl
 ·obtain⟨b,x,y,z,rfl,hb,k⟩:=h
  refine⟨_,(pss_cons (ps_if (PW.pt (pw_or (pt_not (pt_val (pe_callB (call_isinstK (K:=K)) rfl T.no_isinstance b_isinstance (pa_c (pv 0) (pa_c (pe_bltn (v:=.ty "tuple") rfl T.no_tuple b_tuple rfl) pa_nil))))) (pw_or1 (pt_cmpR op_ne (pe_callB (call_lenK (K:=K)) rfl T.no_len b_len (pa_c (pv 0) pa_nil)) pe_int (nomark _)))))
    (pss_one (ps_ret pe_bl))
    pss_nil)
   (pss_one (ps_ret (pe_callB (call_allL rfl (K:=K)) rfl T.no_all b_all (pa_c (pe_comp ["value","part"] 1 rfl (pi_tupK (K:=K) (pv 0)) (fun _ _ _ _ _=>⟨(pg_name (i:=1) (show List.Nodup (["value","part"]:List Str) from by decide +kernel) rfl (Or.inl rfl)),pts_nil,(pe_call (ok_ci T) (hr.mono (by decide)) rfl T.mg_ci T.kp_ci T.b_ci .nil passr0 (pa_c (pv 1) pa_nil))⟩)) pa_nil))))),?_⟩
  refine⟨_,rfl,_,_,.plain (.tup hb),kitOne_self _ _,_,rfl,iteF ⟨_,rfl,_,_,rfl,.inr (SqT.of hb),rfl,_,rfl,iteFe (by simp) ?_⟩⟩
  refine⟨_,rfl,b,rfl,⟨_,SqT.of hb⟩,comp_tup (xs:=[.int x,.int y,.int z]) (by show 3≤1000;decide) fun acc hacc=>⟨fun i σ2 ys H2=>ys=List.replicate i (V.bl true)∧H2 acc=some (.lst ys)∧Same H H2∧∃ o,σ2=[some (.ref b),o],⟨rfl,upd_same,Same.new hacc,_,rfl⟩,?_,?_,?_⟩⟩
  ·rintro i σ2 ys H2 hi ⟨rfl,_,s2,_⟩
   exact⟨s2.tup (SqT.of hb),by simp⟩
  ·rintro i v σ2 ys H2 hi hx ⟨rfl,e2,s2,o,rfl⟩
   obtain⟨j,rfl⟩:∃ j,v=.int j:=by
    match i,hx with
    | 0,hx=>exact⟨x,by simpa using hx.symm⟩
    | 1,hx=>exact⟨y,by simpa using hx.symm⟩
    | 2,hx=>exact⟨z,by simpa using hx.symm⟩
    | n+3,hx=>simp at hx
   dsimp only[gName,tYes]
   refine iteT ⟨_,rfl,j,rfl,e2,Nx.mk hi ⟨?_,upd_same,fun b u e=>?_,_,rfl⟩⟩
   ·rw[List.replicate_succ']
   ·rw[upd_ne (ne_of_none e hacc)];exact s2 _ _ e
  ·rintro σ2 ys H2 ⟨rfl,e2,s2,o,rfl⟩
   exact⟨acc,[true,true,true],rfl,SqL.of e2,k H2 s2⟩
abbrev Nm3:=Int×Int×Int
def cd3 (n:Nm3):Int:=n.1*1000000+n.2.1*1000+n.2.2
def Small (n:Nm3):Prop:=0≤n.2.1∧n.2.1<1000∧0≤n.2.2∧n.2.2<1000
theorem cd3_inj {a b:Nm3}(ha:Small a) (hb:Small b) (h:cd3 a=cd3 b):a=b:=by
 obtain⟨x,y,z⟩:=a
 obtain⟨x',y',z'⟩:=b
 unfold cd3 at h
 unfold Small at ha hb
 dsimp only at h ha hb
 have:x=x':=by omega
 have:y=y':=by omega
 have:z=z':=by omega
 subst x';subst y';subst z';rfl
def AscN (l:List Nm3):Prop:=l.Pairwise fun a b=>cd3 a<cd3 b
theorem asc_eq:∀ {a b:List Nm3},AscN a→AscN b→a.Perm b→a=b
 | [],b,_,_,h=>by rw[List.nil_perm] at h;exact h.symm
 | x::a,[],_,_,h=>by rw[List.perm_nil] at h;cases h
 | x::a,y::b,pa,pb,h=>by
  unfold AscN at pa pb
  rw[List.pairwise_cons] at pa pb
  have hx:x∈y::b:=h.mem_iff.mp List.mem_cons_self
  have hy:y∈x::a:=h.mem_iff.mpr List.mem_cons_self
  have e:x=y:=by
   rcases List.mem_cons.mp hx with e|hx
   ·exact e
   ·rcases List.mem_cons.mp hy with e|hy
    ·exact e.symm
    ·have:=pa.1 y hy
     have:=pb.1 x hx
     omega
  subst e
  rw[asc_eq pa.2 pb.2 h.cons_inv]
def nk (n:Nm3):List Key:=[.inl n.1,.inl n.2.1,.inl n.2.2]
def nV (n:Nm3):List V:=[.int n.1,.int n.2.1,.int n.2.2]
structure LetA where
 (nm:Nm3) (adr:Addr) (to wd:Int)
structure DiL where
 (po ta wy:Addr)
structure DiA where
 po:List LetA
 ta:List (Nm3×Int)
 wy:List ((Int×Int)×Addr×List Nm3)
def wk (k:Int×Int):List Key:=[.inl k.1,.inl k.2]
def DiL.own (L:DiL) (A:DiA):List Addr:=[L.po,L.ta,L.wy]++A.wy.map (·.2.1)
structure Di (G H:Hp) (L:DiL) (A:DiA):Prop where
 po:H L.po=some (.dT (A.po.map fun l=>(nk l.nm,V.ref l.adr)))
 ta:H L.ta=some (.dT (A.ta.map fun e=>(nk e.1,V.int e.2)))
 wy:H L.wy=some (.dT (A.wy.map fun e=>(wk e.1,V.ref e.2.1)))
 ways:∀ e∈A.wy,H e.2.1=some (.dT (e.2.2.map fun n=>(nk n,V.bl true)))
 lets:∀ l∈A.po,G l.adr=some (.tup [.int l.to,.int l.wd])
 held:Same G H
 nd:(L.own A).Nodup
 gn:∀ b∈L.own A,G b=none
structure WfD (m:Int) (c:Int→Int) (A:DiA):Prop where
 nd:(A.po.map (·.nm)).Nodup
 nt:(A.ta.map (·.1)).Nodup
 tp:∀ e∈A.ta,∃ l∈A.po,l.nm=e.1∧e.2≤c l.to
 rg:∀ l∈A.po,0≤l.nm.1∧l.nm.1<m∧1≤l.nm.2.1∧l.nm.2.1≤c l.nm.1∧0≤l.nm.2.2∧l.nm.2.2<3∧0≤l.to∧l.to<m
 wn:(A.wy.map (·.1)).Nodup
 wi:∀ e∈A.wy,∀ n,n∈e.2.2↔∃ l∈A.po,l.nm=n∧n.1=e.1.1∧l.to=e.1.2∧n∉A.ta.map (·.1)
 wd:∀ e∈A.wy,e.2.2.Nodup
 wa:∀ l∈A.po,l.nm∉A.ta.map (·.1)→∃ e∈A.wy,e.1=(l.nm.1,l.to)
def loF (dz:Addr) (many:Int) (ord:Bool) (lt lg:Addr) (D:DiL):List (Str×V):=
 [("does",.ref dz),("many",.int many),("ordered",.bl ord),("threads",.ref lt),("log",.ref lg),("posted",.ref D.po),("taken",.ref D.ta),("ways",.ref D.wy)]
def sp_aj (t:Adr):Sp:=fun vs H Q _=>∃ p dx dz m o lt lg D h,vs=[.ref p,.int h]∧H p=some (.ins t.c_Loom dx (loF dz m o lt lg D))∧0≤h∧h<m∧Q .non H
theorem ok_aj (T:Txt K mg t):FnOk P w K mg base (CXr P w) 2 t.f_aj t.fd_aj ["self","hand"] (sp_aj t):=by
 refine T.F_aj.okN sc_aj (fun vs H Q E h=>?_) (fun cdv A outer s H vs Q E hr h=>?_)
 ·obtain⟨p,dx,dz,m,o,lt,lg,D,h,rfl,_⟩:=h;rfl
 ·obtain⟨p,dx,dz,m,o,lt,lg,D,h,rfl,hp,h0,h1,k⟩:=h
  refine⟨_,(pss_one (ps_if (PW.pt (pw_or (pt_not (pt_val (pe_call (ok_ci T) (hr.mono (by decide)) rfl T.mg_ci T.kp_ci T.b_ci .nil passr0 (pa_c (pv 1) pa_nil)))) (pw_or (pt_cmpR op_lt (pv 1) pe_int (nomark _)) (pw_or1 (pt_cmpR op_ge (pv 1) (pe_fldK (K:=K) (pv 0) rfl) (nomark _))))))
    (pss_one ps_never)
    pss_nil)),?_⟩
  refine⟨_,rfl,h,rfl,true,rfl,iteF ⟨_,rfl,_,_,rfl,rfl,_,rfl,iteFe (by simpa using h0) ⟨_,rfl,_,rfl,p,_,dx,_,_,rfl,hp,T.cl_Loom,T.na_cg,rfl,_,_,rfl,rfl,_,rfl,iteFe (by simpa using h1) k⟩⟩⟩
def sp_ao (t:Adr):Sp:=fun vs H Q _=>∃ p dx dz m o lt lg D,∃ j:Nat,∃ r q qs xs dxq i ha dn wr d es,vs=[.ref p,.int j,.ref r]∧H p=some (.ins t.c_Loom dx (loF dz m o lt lg D))∧H lt=some (.lst qs)∧H lg=some (.lst xs)∧xs.length≤900∧qs[j]? = some (.ref q) ∧
 H q=some (.ins t.c_Thread dxq (thF i ha dn wr d))∧H dn=some (.lst es)∧∀ x H',But [lg] H H'→H' lg=some (.lst (xs++[x]))→Q .non H'
theorem ok_ao (T:Txt K mg t):FnOk P w K mg base (CXr P w) 2 t.f_ao t.fd_ao ["self","hand","row"] (sp_ao t):=by
 refine T.F_ao.okN sc_ao (fun vs H Q E h=>?_) (fun cdv A outer s H vs Q E hr h=>?_)
 ·obtain⟨p,dx,dz,m,o,lt,lg,D,j,r,q,qs,xs,dxq,i,ha,dn,wr,d,es,rfl,_⟩:=h;rfl
 ·obtain⟨p,dx,dz,m,o,lt,lg,D,j,r,q,qs,xs,dxq,i,ha,dn,wr,d,es,rfl,hp,hl,hg,few,hq,hT,hd,k⟩:=h
  refine⟨_,(pss_one (ps_expr (pe_bmK (K:=K) PySem.F.plainAttrs_list PySem.F.slot_list_append PySem.F.type_list_append mt_append (pe_fldK (K:=K) (pv 0) rfl) (pa_c (pe_tup (pa_c (pv 2) (pa_c (pe_meth0 (pe_ix (ix_listK (K:=K)) (pe_fldK (K:=K) (pv 0) rfl) (pv 1) (fun _ _=>rfl)) T.cl_Thread T.me_bc (ok_bc T) (hr.mono (by decide)) T.b_bc .nil passr0) pa_nil))) pa_nil)))),?_⟩
  refine⟨_,rfl,p,_,dx,_,_,rfl,hp,T.cl_Loom,T.na_cn,rfl,.inl ⟨rfl,xs,SqL.of hg⟩,_,rfl,?_⟩
  refine⟨_,rfl,p,_,dx,_,_,rfl,hp,T.cl_Loom,T.na_az,rfl,_,rfl,lt,qs,j,.ref q,rfl,rfl,SqL.of hl,atI_nat hq,q,dxq,_,rfl,hT,rfl,?_⟩
  refine⟨q,dxq,i,ha,dn,wr,d,es,rfl,hT,SqL.of hd,by show 2≤sizeLine;decide,fun b hb=>?_⟩
  refine⟨lg,xs,.ref b,rfl,rfl,by rw[upd_ne (ne_of_none hg hb)];exact hg,small1000 (by omega),k _ _ (fun c u n e=>?_) upd_same⟩
  rw[upd_ne (by simpa using n),upd_ne (ne_of_none e hb)];exact e
theorem vm_some {α κ:Type} [DecidableEq κ] (f:α→κ) (g:α→V):∀ {l:List α}{a:α},(l.map f).Nodup→a∈l→valV (l.map fun x=>(f x,g x)) (f a)=some (g a)
 | [],_,_,h=>by cases h
 | x::l,a,nd,h=>by
  rw[List.map_cons] at nd ⊢
  obtain⟨n1,n2⟩:=List.nodup_cons.mp nd
  by_cases e:f x=f a
  ·rw[valV_pos e]
   rcases List.mem_cons.mp h with rfl|h
   ·rfl
   ·exact absurd (show f x∈l.map f by rw[e];exact List.mem_map_of_mem h) n1
  ·rw[valV_neg e]
   rcases List.mem_cons.mp h with rfl|h
   ·exact absurd rfl e
   ·exact vm_some f g n2 h
theorem vm_none {α κ:Type} [DecidableEq κ] (f:α→κ) (g:α→V) {k:κ}:∀ {l:List α},(∀ x∈l,f x≠k)→valV (l.map fun x=>(f x,g x)) k=none
 | [],_=>rfl
 | x::l,h=>by
  rw[List.map_cons,valV_neg (h x List.mem_cons_self)]
  exact vm_none f g fun y hy=>h y (List.mem_cons_of_mem _ hy)
theorem nd_comp {α β γ:Type}{f:α→β}{g:β→γ}{l:List α}(inj:∀ a b,g a=g b→a=b) (h:(l.map f).Nodup):(l.map fun x=>g (f x)).Nodup:=by
 unfold List.Nodup at h ⊢
 rw[List.pairwise_map] at h ⊢
 exact h.imp fun h e=>h (inj _ _ e)
theorem nd_id {α γ:Type}{g:α→γ}{l:List α}(inj:∀ a b,g a=g b→a=b) (h:l.Nodup):(l.map g).Nodup:=by
 unfold List.Nodup at h ⊢
 rw[List.pairwise_map]
 exact h.imp fun h e=>h (inj _ _ e)
theorem nk_inj (a b:Nm3) (h:nk a=nk b):a=b:=by
 obtain⟨x,y,z⟩:=a
 obtain⟨x',y',z'⟩:=b
 simp only[nk,List.cons.injEq,Sum.inl.injEq] at h
 obtain⟨rfl,rfl,rfl,_⟩:=h
 rfl
theorem wk_inj (a b:Int×Int) (h:wk a=wk b):a=b:=by
 obtain⟨x,y⟩:=a
 obtain⟨x',y'⟩:=b
 simp only[wk,List.cons.injEq,Sum.inl.injEq] at h
 obtain⟨rfl,rfl,_⟩:=h
 rfl
theorem nm_rp {H:Hp}{b:Addr}{n:Nm3}(h:H b=some (.tup (nV n))):Rp K H (.ref b) (.tuple [.int n.1,.int n.2.1,.int n.2.2]):=.tup (SqT.of h) (.cons (.int _) (.cons (.int _) (.cons (.int _) .nil)))
def sp_as (t:Adr):Sp:=fun vs H Q _=>∃ G p dx dz m o lt lg D A h b n e,vs=[.ref p,.int h,.ref b]∧H p=some (.ins t.c_Loom dx (loF dz m o lt lg D))∧Di G H D A∧H b=some (.tup (nV n))∧e∈A.wy∧(A.wy.map (·.1)).Nodup∧e.1=(n.1,h)∧n∈e.2.2∧e.2.2.Nodup∧(∀ m∈e.2.2,Small m)∧(o=true→∀ m∈e.2.2,cd3 n≤cd3 m) ∧
 ∀ H',Same H H'→Q (.bl true) H'
theorem ok_as (T:Txt K mg t):FnOk P w K mg base (CXr P w) 3 t.f_as t.fd_as ["self","hand","name"] (sp_as t):=by
 refine T.F_as.okN sc_as (fun vs H Q E h=>?_) (fun cdv A outer s H vs Q E hr h=>?_)
 ·obtain⟨G,p,dx,dz,m,o,lt,lg,D,A,h,b,n,e,rfl,_⟩:=h;rfl
 ·obtain⟨G,p,dx,dz,m,o,lt,lg,D,Di,h,b,n,e,rfl,hp,di,hb,he,wn,ek,hn,en,sm,od,k⟩:=h
  refine⟨_,(pss_cons (ps_if (pt_not (pt_val (pe_call (ok_cp T) (hr.mono (by decide)) rfl T.mg_cp T.kp_cp T.b_cp .nil passr0 (pa_c (pv 2) pa_nil))))
    (pss_one (ps_ret pe_bl))
    pss_nil)
   (pss_cons (ps_set (i:=3) sc_as.nd rfl (Or.inl rfl) (pe_dget2 (hu_of hr) (pe_fldK (K:=K) (pv 0) rfl) (pe_tup (pa_c (pe_ix (ix_tupK (K:=K)) (pv 2) pe_int (fun _ _=>rfl)) (pa_c (pv 1) pa_nil))) pe_dnewK ⟨rfl,rfl,rfl,rfl⟩))
   (pss_cons (ps_if (pt_cmp (pc_dnotin (hu_of hr) (pv 2) (pv 3)))
    (pss_one (ps_ret pe_bl))
    pss_nil)
   (pss_one (ps_ret (pe_or (pe_not (pe_fldK (K:=K) (pv 0) rfl)) (pe_one (pe_cmpR (op_eqDK (K:=K) hr.units) (pv 2) (pe_callB (call_minT rfl (hu_of hr)) rfl T.no_min b_min (pa_c (pv 3) pa_nil)) (nomark _))))))))),?_⟩
  refine⟨_,rfl,b,n.1,n.2.1,n.2.2,rfl,hb,fun H1 s1=>⟨true,rfl,iteF ?_⟩⟩
  refine⟨_,rfl,p,_,dx,_,_,rfl,s1 _ _ hp,T.cl_Loom,T.na_ch,rfl,D.wy,rfl,.inr ⟨_,.inl (s1 _ _ di.wy)⟩,?_⟩
  refine⟨_,rfl,b,nV n,0,.int n.1,rfl,rfl,SqT.of (s1 _ _ hb),atI_zero,_,rfl,by show 2≤sizeLine;decide,fun q hq l hl=>?_⟩
  have s2:Same H (upd H1 q (.tup [.int n.1,.int h])):=s1.trans (Same.new hq)
  have s3:Same H (upd (upd H1 q (.tup [.int n.1,.int h])) l (.dK [])):=s2.trans (Same.new hl)
  have hq3:upd (upd H1 q (.tup [.int n.1,.int h])) l (.dK []) q=some (.tup ((wk (n.1,h)).map kV)):=by rw[upd_ne (ne_of_none upd_same hl),upd_same];rfl
  have v1:valV (Di.wy.map fun e=>(wk e.1,V.ref e.2.1)) (wk (n.1,h))=some (.ref e.2.1):=by
   rw[← ek]
   exact vm_some (fun e=>wk e.1) (fun e=>V.ref e.2.1) (nd_comp (f:=fun x:(Int×Int)×Addr×List Nm3=>x.1) wk_inj wn) he
  have v2:valV (e.2.2.map fun n=>(nk n,V.bl true)) (nk n)=some (.bl true):=vm_some nk (fun _=>V.bl true) (nd_id nk_inj en) hn
  refine⟨_,.inr ⟨_,wk (n.1,h),q,.inl (s3 _ _ di.wy),rfl,hq3,v1.symm⟩,?_⟩
  refine⟨_,rfl,_,rfl,e.2.1,_,rfl,.inr ⟨_,nk n,b,.inl (s3 _ _ (di.ways e he)),rfl,s3 _ _ hb,v2.symm⟩,_,rfl,iteF ?_⟩
  refine⟨_,rfl,p,_,dx,_,_,rfl,s3 _ _ hp,T.cl_Loom,T.na_ay,rfl,o,rfl,_,rfl,?_⟩
  cases o with
  | false=>exact iteT (k _ s3)
  | true=>
   refine iteF ⟨_,rfl,_,rfl,e.2.1,_,e.2.2,rfl,.inl (s3 _ _ (di.ways e he)),?_,List.ne_nil_of_mem hn,sm,fun b' n' hn' le hb'=>?_⟩
   ·unfold Keys3
    rw[List.map_map]
    rfl
   ·have e1:=od rfl n' hn'
    have e2:=le n hn
    have en:n=n':=cd3_inj (sm n hn) (sm n' hn') (by unfold cd3 at e1 ⊢;unfold Tim.code3 at e2;omega)
    subst en
    refine⟨_,_,nm_rp (s3 _ _ hb),nm_rp hb',rfl,rfl,?_⟩
    have:PyData.eqv (.tuple [.int n.1,.int n.2.1,.int n.2.2]) (.tuple [.int n.1,.int n.2.1,.int n.2.2])=true:=eqv_self rfl
    show Q (.bl (PyData.eqv _ _)) _
    rw[this]
    exact k _ s3
def wyAdd (wy:List ((Int×Int)×Addr×List Nm3)) (k:Int×Int) (n:Nm3) (q:Addr):List ((Int×Int)×Addr×List Nm3):=
 if k∈wy.map (·.1) then wy.map (fun e=>if e.1=k then (e.1,e.2.1,e.2.2++[n]) else e) else wy++[(k,q,[n])]
def DiA.post1 (A:DiA) (n:Nm3) (adr:Addr) (to wd:Int) (q:Addr):DiA:={ A with po:=A.po++[⟨n,adr,to,wd⟩],wy:=wyAdd A.wy (n.1,to) n q }
theorem wyAdd_keys {wy:List ((Int×Int)×Addr×List Nm3)}{k:Int×Int}{n:Nm3}{q:Addr}:(wyAdd wy k n q).map (·.1)=if k∈wy.map (·.1) then wy.map (·.1) else wy.map (·.1)++[k]:=by
 unfold wyAdd
 by_cases h:k∈wy.map (·.1)
 ·rw[if_pos h,if_pos h,List.map_map]
  exact List.map_congr_left fun e _=>by
   show (if e.1=k then (e.1,e.2.1,e.2.2++[n]) else e).1=e.1
   by_cases z:e.1=k
   ·rw[if_pos z]
   ·rw[if_neg z]
 ·rw[if_neg h,if_neg h,List.map_append];rfl
theorem mem_wyAdd {wy:List ((Int×Int)×Addr×List Nm3)}{k:Int×Int}{n:Nm3}{q:Addr}{e:(Int×Int)×Addr×List Nm3}:e∈wyAdd wy k n q→(∃ e0∈wy,e0.1=k∧e=(e0.1,e0.2.1,e0.2.2++[n]))∨(e∈wy∧e.1≠k)∨(k∉wy.map (·.1)∧e=(k,q,[n])):=by
 unfold wyAdd
 by_cases h:k∈wy.map (·.1)
 ·rw[if_pos h,List.mem_map]
  rintro⟨e0,m,rfl⟩
  by_cases z:e0.1=k
  ·rw[if_pos z];exact .inl ⟨e0,m,z,rfl⟩
  ·rw[if_neg z];exact .inr (.inl ⟨m,z⟩)
 ·rw[if_neg h,List.mem_append,List.mem_singleton]
  rintro(m|rfl)
  ·exact .inr (.inl ⟨m,fun z=>h (by rw[← z];exact List.mem_map_of_mem m)⟩)
  ·exact .inr (.inr ⟨h,rfl⟩)
theorem WfD.post1 {m:Int}{c:Int→Int}{A:DiA}(w:WfD m c A) {n:Nm3}{adr q:Addr}{to wd:Int}(hn:n∉A.po.map (·.nm))
  (r:0≤n.1∧n.1<m∧1≤n.2.1∧n.2.1≤c n.1∧0≤n.2.2∧n.2.2<3∧0≤to∧to<m):WfD m c (A.post1 n adr to wd q):=by
 have nta:n∉A.ta.map (·.1):=fun z=>by
  obtain⟨e,he,rfl⟩:=List.mem_map.mp z
  obtain⟨l,hl,e1,_⟩:=w.tp e he
  exact hn (by rw[← e1];exact List.mem_map_of_mem hl)
 have nwy:∀ e∈A.wy,n∉e.2.2:=fun e he z=>by
  obtain⟨l,hl,e1,_⟩:=(w.wi e he n).mp z
  exact hn (by rw[← e1];exact List.mem_map_of_mem hl)
 refine⟨?_,w.nt,fun e he=>?_,fun l hl=>?_,?_,fun e he n'=>?_,fun e he=>?_,fun l hl nt=>?_⟩
 ·show ((A.po++[(⟨n,adr,to,wd⟩:LetA)]).map LetA.nm).Nodup
  rw[List.map_append]
  refine List.nodup_append.mpr ⟨w.nd,(by simp),fun a ha b hb=>?_⟩
  rw[List.map_singleton,List.mem_singleton] at hb
  rw[hb];exact fun z=>hn (by have z':a=n:=z;rw[← z'];exact ha)
 ·obtain⟨l,hl,z⟩:=w.tp e he
  exact⟨l,List.mem_append_left _ hl,z⟩
 ·rcases List.mem_append.mp hl with hl|hl
  ·exact w.rg l hl
  ·rw[List.mem_singleton] at hl
   subst hl;exact r
 ·show ((wyAdd A.wy (n.1,to) n q).map (·.1)).Nodup
  rw[wyAdd_keys]
  by_cases h:(n.1,to)∈A.wy.map (·.1)
  ·rw[if_pos h];exact w.wn
  ·rw[if_neg h]
   refine List.nodup_append.mpr ⟨w.wn,(by simp),fun a ha b hb=>?_⟩
   rw[List.mem_singleton] at hb
   rw[hb];exact fun z=>h (by rw[← z];exact ha)
 ·have lift:(∃ l∈A.po++[⟨n,adr,to,wd⟩],l.nm=n'∧n'.1=e.1.1∧l.to=e.1.2∧n'∉A.ta.map (·.1))↔(∃ l∈A.po,l.nm=n'∧n'.1=e.1.1∧l.to=e.1.2∧n'∉A.ta.map (·.1))∨(n=n'∧n'.1=e.1.1∧to=e.1.2∧n'∉A.ta.map (·.1)):=by
   constructor
   ·rintro⟨l,hl,z⟩
    rcases List.mem_append.mp hl with hl|hl
    ·exact .inl ⟨l,hl,z⟩
    ·rw[List.mem_singleton] at hl
     subst hl;exact .inr z
   ·rintro(⟨l,hl,z⟩|z)
    ·exact⟨l,List.mem_append_left _ hl,z⟩
    ·exact⟨_,List.mem_append_right _ (List.mem_singleton.mpr rfl),z⟩
  show n'∈e.2.2↔∃ l∈A.po++[⟨n,adr,to,wd⟩],l.nm=n'∧n'.1=e.1.1∧l.to=e.1.2∧n'∉A.ta.map (·.1)
  rw[lift]
  rcases mem_wyAdd he with ⟨e0,m0,k0,rfl⟩|⟨m0,k0⟩|⟨nk0,rfl⟩
  ·rw[List.mem_append,List.mem_singleton,w.wi e0 m0 n']
   refine or_congr Iff.rfl ⟨?_,fun z=>z.1.symm⟩
   rintro rfl
   exact⟨rfl,by rw[k0],by rw[k0],nta⟩
  ·rw[w.wi e m0 n']
   constructor
   ·exact .inl
   ·rintro(z|⟨rfl,z1,z2,_⟩)
    ·exact z
    ·exact absurd (Prod.ext z1.symm z2.symm) k0
  ·rw[List.mem_singleton]
   constructor
   ·rintro rfl
    exact .inr ⟨rfl,rfl,rfl,nta⟩
   ·rintro(⟨l,hl,rfl,z1,z2,z3⟩|z)
    ·obtain⟨e1,he1,z4⟩:=w.wa l hl z3
     refine absurd ?_ nk0
     rw[List.mem_map]
     refine⟨e1,he1,?_⟩
     rw[z4]
     exact Prod.ext z1 z2
    ·exact z.1.symm
 ·rcases mem_wyAdd he with ⟨e0,m0,k0,rfl⟩|⟨m0,k0⟩|⟨nk0,rfl⟩
  ·refine List.nodup_append.mpr ⟨w.wd e0 m0,(by simp),fun a ha b hb=>?_⟩
   rw[List.mem_singleton] at hb
   rw[hb];exact fun z=>nwy e0 m0 (by rw[← z];exact ha)
  ·exact w.wd e m0
  ·show ([n]:List Nm3).Nodup
   simp
 ·have keyIn:∀ k,(k∈A.wy.map (·.1)∨k=(n.1,to))→∃ e∈wyAdd A.wy (n.1,to) n q,e.1=k:=fun k hk=>by
   have:k∈(wyAdd A.wy (n.1,to) n q).map (·.1):=by
    rw[wyAdd_keys]
    by_cases h:(n.1,to)∈A.wy.map (·.1)
    ·rw[if_pos h]
     rcases hk with hk|rfl
     ·exact hk
     ·exact h
    ·rw[if_neg h,List.mem_append,List.mem_singleton];exact hk
   obtain⟨e,he,z⟩:=List.mem_map.mp this
   exact⟨e,he,z⟩
  rcases List.mem_append.mp hl with hl|hl
  ·obtain⟨e,he,z⟩:=w.wa l hl nt
   exact keyIn _ (.inl (by rw[← z];exact List.mem_map_of_mem he))
  ·rw[List.mem_singleton] at hl
   subst hl
   exact keyIn _ (.inr rfl)
theorem DiL.mem_wy {L:DiL}{A:DiA}{e:(Int×Int)×Addr×List Nm3}(h:e∈A.wy):e.2.1∈L.own A:=List.mem_append_right _ (List.mem_map_of_mem h)
theorem DiL.mem_own {L:DiL}{A:DiA}{b:Addr}(h:b∈L.own A):b=L.po∨b=L.ta∨b=L.wy∨∃ e∈A.wy,b=e.2.1:=by
 rcases List.mem_append.mp h with h|h
 ·simp only[List.mem_cons,List.not_mem_nil,or_false] at h
  rcases h with h|h|h
  ·exact .inl h
  ·exact .inr (.inl h)
  ·exact .inr (.inr (.inl h))
 ·obtain⟨e,he,rfl⟩:=List.mem_map.mp h
  exact .inr (.inr (.inr ⟨e,he,rfl⟩))
theorem Di.nes {G H:Hp}{L:DiL}{A:DiA}(d:Di G H L A):L.po≠L.ta∧L.po≠L.wy∧L.ta≠L.wy∧(∀ e∈A.wy,e.2.1≠L.po∧e.2.1≠L.ta∧e.2.1≠L.wy)∧∀ e∈A.wy,∀ e'∈A.wy,e.2.1=e'.2.1→e=e':=by
 have nd:=d.nd
 unfold DiL.own at nd
 obtain⟨n1,n2,n3⟩:=List.nodup_append.mp nd
 simp only[List.nodup_cons,List.mem_cons,List.not_mem_nil,or_false,not_or] at n1
 refine⟨n1.1.1,n1.1.2,n1.2.1,fun e he=>?_,fun e he e' he' z=>?_⟩
 ·have m:e.2.1∈A.wy.map (·.2.1):=List.mem_map_of_mem he
  exact⟨fun z=>n3 L.po (by simp) _ m z.symm,fun z=>n3 L.ta (by simp) _ m z.symm,fun z=>n3 L.wy (by simp) _ m z.symm⟩
 ·obtain⟨i,hi,rfl⟩:=List.getElem_of_mem he
  obtain⟨j,hj,rfl⟩:=List.getElem_of_mem he'
  have:i=j:=(List.getElem?_inj (l:=A.wy.map (·.2.1)) (by simpa using hi) n2).mp (by rw[List.getElem?_map,List.getElem?_map,List.getElem?_eq_getElem hi,List.getElem?_eq_getElem hj];exact congrArg some z)
  subst this;rfl
theorem Di.isd {G H:Hp}{L:DiL}{A:DiA}(d:Di G H L A) {b:Addr}(h:b∈L.own A):∃ kvs,H b=some (.dT kvs):=by
 rcases DiL.mem_own h with rfl|rfl|rfl|⟨e,he,rfl⟩
 ·exact⟨_,d.po⟩
 ·exact⟨_,d.ta⟩
 ·exact⟨_,d.wy⟩
 ·exact⟨_,d.ways e he⟩
theorem Di.frame {G H H':Hp}{L:DiL}{A:DiA}(d:Di G H L A) (kp:∀ b o,b∈L.own A→H b=some o→H' b=some o) (hG:Same G H'):Di G H' L A:=
 ⟨kp _ _ (by unfold DiL.own;simp) d.po,kp _ _ (by unfold DiL.own;simp) d.ta,kp _ _ (by unfold DiL.own;simp) d.wy,fun e he=>kp _ _ (DiL.mem_wy he) (d.ways e he),d.lets,hG,d.nd,d.gn⟩
theorem Di.setPo {G H H':Hp}{L:DiL}{A:DiA}{x:LetA}(d:Di G H L A) (hx:G x.adr=some (.tup [.int x.to,.int x.wd])) (h1:H' L.po=some (.dT ((A.po.map fun l=>(nk l.nm,V.ref l.adr))++[(nk x.nm,V.ref x.adr)])))
  (kp:∀ b o,b≠L.po→b∈L.own A→H b=some o→H' b=some o) (hG:Same G H'):Di G H' L { A with po:=A.po++[x] }:=by
 obtain⟨n1,n2,n3,n4,_⟩:=d.nes
 refine⟨by rw[h1,List.map_append];rfl,kp _ _ (Ne.symm n1) (by unfold DiL.own;simp) d.ta,kp _ _ (Ne.symm n2) (by unfold DiL.own;simp) d.wy,fun e he=>kp _ _ (n4 e he).1 (DiL.mem_wy he) (d.ways e he),fun l hl=>?_,hG,d.nd,d.gn⟩
 rcases List.mem_append.mp hl with hl|hl
 ·exact d.lets l hl
 ·rw[List.mem_singleton] at hl;subst hl;exact hx
theorem Di.setWay {G H H':Hp}{L:DiL}{A:DiA}{n:Nm3}{e0:(Int×Int)×Addr×List Nm3}(d:Di G H L A) (wn:(A.wy.map (·.1)).Nodup) (he:e0∈A.wy) (h1:H' e0.2.1=some (.dT ((e0.2.2.map fun n=>(nk n,V.bl true))++[(nk n,V.bl true)])))
  (kp:∀ b o,b≠e0.2.1→b∈L.own A→H b=some o→H' b=some o) (hG:Same G H'):Di G H' L { A with wy:=wyAdd A.wy e0.1 n 0 }:=by
 obtain⟨n1,n2,n3,n4,n5⟩:=d.nes
 have hk:e0.1∈A.wy.map (·.1):=List.mem_map_of_mem he
 have ew:wyAdd A.wy e0.1 n 0=A.wy.map (fun e=>if e.1=e0.1 then (e.1,e.2.1,e.2.2++[n]) else e):=by unfold wyAdd;rw[if_pos hk]
 have e1:∀ e:(Int×Int)×Addr×List Nm3,(if e.1=e0.1 then (e.1,e.2.1,e.2.2++[n]) else e).2.1=e.2.1∧(if e.1=e0.1 then (e.1,e.2.1,e.2.2++[n]) else e).1=e.1:=fun e=>by
  by_cases z:e.1=e0.1
  ·rw[if_pos z];exact⟨rfl,rfl⟩
  ·rw[if_neg z];exact⟨rfl,rfl⟩
 have eo:L.own { A with wy:=wyAdd A.wy e0.1 n 0 }=L.own A:=by
  unfold DiL.own
  rw[ew,List.map_map]
  congr 1
  exact List.map_congr_left fun e _=>(e1 e).1
 refine⟨kp _ _ (fun z=>(n4 e0 he).1 z.symm) (by unfold DiL.own;simp) d.po,kp _ _ (fun z=>(n4 e0 he).2.1 z.symm) (by unfold DiL.own;simp) d.ta,?_,fun e hm=>?_,d.lets,hG,by rw[eo];exact d.nd,by rw[eo];exact d.gn⟩
 ·show H' L.wy=some (.dT ((wyAdd A.wy e0.1 n 0).map fun e=>(wk e.1,V.ref e.2.1)))
  rw[ew,List.map_map,kp _ _ (fun z=>(n4 e0 he).2.2 z.symm) (by unfold DiL.own;simp) d.wy]
  congr 2
  exact List.map_congr_left fun e _=>by show _=(wk _,V.ref _);rw[(e1 e).1,(e1 e).2]
 ·have hm':e∈wyAdd A.wy e0.1 n 0:=hm
  rcases mem_wyAdd hm' with ⟨e2,m2,k2,rfl⟩|⟨m2,k2⟩|⟨z,_⟩
  ·have:e2=e0:=by
    obtain⟨i,hi,rfl⟩:=List.getElem_of_mem m2
    obtain⟨j,hj,rfl⟩:=List.getElem_of_mem he
    have:i=j:=(List.getElem?_inj (l:=A.wy.map (·.1)) (by simpa using hi) wn).mp (by rw[List.getElem?_map,List.getElem?_map,List.getElem?_eq_getElem hi,List.getElem?_eq_getElem hj];exact congrArg some k2)
    subst this;rfl
   subst this
   show H' e2.2.1=some (.dT ((e2.2.2++[n]).map fun n=>(nk n,V.bl true)))
   rw[h1,List.map_append];rfl
  ·exact kp _ _ (fun z=>k2 (by rw[n5 e m2 e0 he z])) (DiL.mem_wy m2) (d.ways e m2)
  ·exact absurd hk z
theorem Di.newWay {G H H':Hp}{L:DiL}{A:DiA}{n:Nm3}{q:Addr}{k:Int×Int}(d:Di G H L A) (nk0:k∉A.wy.map (·.1)) (nq:q∉L.own A) (gq:G q=none) (h1:H' L.wy=some (.dT ((A.wy.map fun e=>(wk e.1,V.ref e.2.1))++[(wk k,V.ref q)]))) (h2:H' q=some (.dT [(nk n,V.bl true)]))
  (kp:∀ b o,b≠L.wy→b∈L.own A→H b=some o→H' b=some o) (hG:Same G H'):Di G H' L { A with wy:=wyAdd A.wy k n q }:=by
 obtain⟨n1,n2,n3,n4,n5⟩:=d.nes
 have ew:wyAdd A.wy k n q=A.wy++[(k,q,[n])]:=by unfold wyAdd;rw[if_neg nk0]
 have eo:L.own { A with wy:=wyAdd A.wy k n q }=L.own A++[q]:=by
  unfold DiL.own
  rw[ew,List.map_append,List.append_assoc];rfl
 refine⟨kp _ _ n2 (by unfold DiL.own;simp) d.po,kp _ _ n3 (by unfold DiL.own;simp) d.ta,?_,fun e hm=>?_,d.lets,hG,?_,fun b hb=>?_⟩
 ·show H' L.wy=some (.dT ((wyAdd A.wy k n q).map fun e=>(wk e.1,V.ref e.2.1)))
  rw[ew,List.map_append,h1];rfl
 ·have hm':e∈wyAdd A.wy k n q:=hm
  rw[ew] at hm'
  rcases List.mem_append.mp hm' with m2|m2
  ·exact kp _ _ (n4 e m2).2.2 (DiL.mem_wy m2) (d.ways e m2)
  ·rw[List.mem_singleton] at m2;subst m2;exact h2
 ·rw[eo]
  refine List.nodup_append.mpr ⟨d.nd,by simp,fun a ha b hb=>?_⟩
  rw[List.mem_singleton] at hb
  rw[hb];exact fun z=>nq (by rw[← z];exact ha)
 ·rw[eo] at hb
  rcases List.mem_append.mp hb with hb|hb
  ·exact d.gn b hb
  ·rw[List.mem_singleton] at hb;rw[hb];exact gq
theorem nd_sub {α:Type} [DecidableEq α]:∀ {a b:List α},a.Nodup→(∀ x∈a,x∈b)→a.length≤b.length
 | [],_,_,_=>Nat.zero_le _
 | x::a,b,nd,h=>by
  obtain⟨n1,n2⟩:=List.nodup_cons.mp nd
  have hx:=h x List.mem_cons_self
  have:=nd_sub (b:=b.erase x) n2 fun y hy=>(List.mem_erase_of_ne (fun z=>n1 (by rw[← z];exact hy))).mpr (h y (List.mem_cons_of_mem _ hy))
  rw[List.length_erase_of_mem hx] at this
  have:=List.length_pos_of_mem hx
  rw[List.length_cons];omega
theorem vm_inv {α κ:Type} [DecidableEq κ] (f:α→κ) (g:α→V) {k:κ}{v:V}:∀ {l:List α},valV (l.map fun x=>(f x,g x)) k=some v→∃ x∈l,f x=k∧v=g x
 | [],h=>by cases h
 | x::l,h=>by
  rw[List.map_cons] at h
  by_cases e:f x=k
  ·rw[valV_pos e] at h
   cases h
   exact⟨x,List.mem_cons_self,e,rfl⟩
  ·rw[valV_neg e] at h
   obtain⟨y,hy,z⟩:=vm_inv f g h
   exact⟨y,List.mem_cons_of_mem _ hy,z⟩
theorem wyAdd_len {wy:List ((Int×Int)×Addr×List Nm3)}{k:Int×Int}{n:Nm3}{q:Addr}:(wyAdd wy k n q).length≤wy.length+1:=by
 unfold wyAdd
 by_cases h:k∈wy.map (·.1)
 ·rw[if_pos h,List.length_map];omega
 ·rw[if_neg h,List.length_append];simp
theorem own_post {D:DiL}{A:DiA}{n:Nm3}{q adr b:Addr}{k:Int×Int}{po:List LetA}(h:b∈D.own { A with po:=po,wy:=wyAdd A.wy k n q }):b∈D.own A∨(k∉A.wy.map (·.1)∧b=q):=by
 rcases DiL.mem_own h with rfl|rfl|rfl|⟨e,he,rfl⟩
 ·exact .inl (by unfold DiL.own;simp)
 ·exact .inl (by unfold DiL.own;simp)
 ·exact .inl (by unfold DiL.own;simp)
 ·have he':e∈wyAdd A.wy k n q:=he
  rcases mem_wyAdd he' with ⟨e0,m0,_,rfl⟩|⟨m0,_⟩|⟨z,rfl⟩
  ·exact .inl (show e0.2.1∈D.own A from DiL.mem_wy m0)
  ·exact .inl (DiL.mem_wy m0)
  ·exact .inr ⟨z,rfl⟩
theorem but_sqL {H H':Hp}{S:List Addr}{a:Addr}{xs:List V}(b:But S H H') (n:a∉S) (h:SqL K H a xs):SqL K H' a xs:=by
 rcases h with (h|⟨o,h⟩)|h
 ·exact .inl (.inl (b _ _ n h))
 ·exact .inl (.inr ⟨o,b _ _ n h⟩)
 ·exact .inr h
theorem but_then {H H1:Hp}{S:List Addr}{a:Addr}{o:HO}(b:But S H H1) (h:a∈S∨H a=none):But S H (upd H1 a o):=fun c u n e=>by
 rw[upd_ne]
 ·exact b c u n e
 ·rintro rfl
  rcases h with h|h
  ·exact n h
  ·rw[h] at e;cases e
def sp_bz (K:W.Frag) (t:Adr):Sp:=fun vs H Q _=>∃ G p dx dz m o lt lg D A l,∃ s pl:Int,∃ xs:List (Addr×Int×Int),∃ m' c,vs=[.ref p,.int s,.int pl,.ref l]∧H p=some (.ins t.c_Loom dx (loF dz m o lt lg D))∧Di G H D A∧WfD m' c A∧p∉D.own A∧l∉D.own A ∧
 SqL K H l (xs.map fun x=>V.ref x.1)∧xs.length≤3∧(∀ x∈xs,G x.1=some (.tup [.int x.2.1,.int x.2.2])∧0≤x.2.1∧x.2.1<m')∧0≤s∧s<m'∧1≤pl∧pl≤c s∧(∀ e∈A.po,e.nm.1=s→e.nm.2.1<pl)∧A.po.length≤900∧A.wy.length≤900 ∧
 ∀ H' A',But (D.own A) H H'→Di G H' D A'→WfD m' c A'→A'.ta=A.ta→A'.po.length=A.po.length+xs.length→A'.wy.length≤A.wy.length+xs.length→(∀ b∈D.own A',b∈D.own A∨H b=none)→Q .non H'
theorem ok_bz (T:Txt K mg t):FnOk P w K mg base (CXr P w) 1 t.f_bz t.fd_bz ["self","sender","place","letters"] (sp_bz K t):=by
 refine T.F_bz.okN sc_bz (fun vs H Q E h=>?_) (fun cdv A outer s H vs Q E hr h=>?_)
 ·obtain⟨G,p,dx,dz,m,o,lt,lg,D,A,l,s,pl,xs,m',c,rfl,_⟩:=h;rfl
 ·obtain⟨G,p,dx,dz,m,o,lt,lg,D,A,l,s,pl,xs,m',c,rfl,hp,di,wf,np,nl,hl,few,hx,s0,s1,pl0,pl1,new,f1,f2,k⟩:=h
  refine⟨_,(pss_one (ps_for PassesOwn.never rfl (pi_enum (K:=K) rfl T.no_enumerate (pa_c (pv 3) pa_nil)) (pg_tupK (K:=K) rfl (pgs_cons (pg_name (i:=4) sc_bz.nd rfl (Or.inl rfl)) (pgs_cons (pg_name (i:=5) sc_bz.nd rfl (Or.inl rfl)) pgs_nil)))
    (pss_cons (ps_set (i:=6) sc_bz.nd rfl (Or.inl rfl) (pe_tup (pa_c (pv 1) (pa_c (pv 2) (pa_c (pv 4) pa_nil)))))
   (pss_cons (ps_dput (hu_of hr) (pe_fldK (K:=K) (pv 0) rfl) (pv 6) (pv 5) rfl)
   (pss_one (ps_if (pt_cmp (pc_dnotin (hu_of hr) (pv 6) (pe_fldK (K:=K) (pv 0) rfl)))
    (pss_cons (ps_set (i:=7) sc_bz.nd rfl (Or.inl rfl) (pe_bmK (K:=K) PySem.F.plainAttrs_dict PySem.F.slot_dict_setdefault PySem.F.type_dict_setdefault (mt_setDefT (hu_of hr)) (pe_fldK (K:=K) (pv 0) rfl) (pa_c (pe_tup (pa_c (pv 1) (pa_c (pe_ix (ix_tupK (K:=K)) (pv 5) pe_int (fun _ _=>rfl)) pa_nil))) (pa_c pe_dnewT pa_nil))))
   (pss_one (ps_dput (hu_of hr) (pv 7) (pv 6) pe_bl rfl)))
    pss_nil)))))),?_⟩
  refine⟨_,rfl,l,_,rfl,hl,for_enum (xs:=xs.map fun x=>V.ref x.1)
   (fun i σ H2=>(∃ A2,But (D.own A) H H2∧Di G H2 D A2∧WfD m' c A2∧A2.ta=A.ta∧A2.po.length=A.po.length+i∧A2.wy.length≤A.wy.length+i∧(∀ b∈D.own A2,b∈D.own A∨H b=none)∧(∀ e∈A2.po,e.nm.1=s→e.nm.2.1<pl∨(e.nm.2.1=pl∧e.nm.2.2<i)))∧∃ a b c d,σ=[some (.ref p),some (.int s),some (.int pl),some (.ref l),a,b,c,d])
   ⟨⟨A,But.of (.refl _),di,wf,rfl,rfl,Nat.le_refl _,fun b hb=>.inl hb,fun e he z=>.inl (new e he z)⟩,_,_,_,_,rfl⟩ ?_ ?_ ?_⟩
  ·rintro i σ H2 hi ⟨⟨A2,bt,_⟩,_⟩
   exact but_sqL bt nl hl
  ·rintro i x pe σ H2 hx' npe ⟨⟨A2,bt,d2,w2,e1,e2,e3,e4,e5⟩,a0,b0,c0,d0,rfl⟩
   obtain⟨y,hy,rfl⟩:∃ y,xs[i]? = some y∧x=.ref y.1:=by
    rw[List.getElem?_map] at hx'
    cases q:xs[i]? with
    | none=>rw[q] at hx';cases hx'
    | some y=>rw[q] at hx';cases hx';exact⟨y,rfl,rfl⟩
   have hi:i<xs.length:=(List.getElem?_eq_some_iff.mp hy).1
   obtain⟨ga,t0,t1⟩:=hx y (List.mem_of_getElem? hy)
   refine⟨pe,_,rfl,SqT.of upd_same,rfl,_,_,rfl,_,_,rfl,rfl,?_⟩
   refine⟨_,rfl,_,rfl,_,rfl,by show 3≤sizeLine;decide,fun nb hnb=>?_⟩
   let n:Nm3:=(s,pl,(i:Int))
   have s4:Same H2 (upd (upd H2 pe (.tup [.int i,.ref y.1])) nb (.tup [.int s,.int pl,.int i])):=(Same.new npe).trans (Same.new hnb)
   have hb4:upd (upd H2 pe (.tup [.int i,.ref y.1])) nb (.tup [.int s,.int pl,.int i]) nb=some (.tup ((nk n).map kV)):=upd_same
   have bt4:But (D.own A) H (upd (upd H2 pe (.tup [.int i,.ref y.1])) nb (.tup [.int s,.int pl,.int i])):=fun b u nn e=>s4 _ _ (bt b u nn e)
   have d4:Di G (upd (upd H2 pe (.tup [.int i,.ref y.1])) nb (.tup [.int s,.int pl,.int i])) D A2:=d2.frame (fun b u _ e=>s4 _ _ e) (fun b u e=>s4 _ _ (d2.held _ _ e))
   generalize upd (upd H2 pe (.tup [.int i,.ref y.1])) nb (.tup [.int s,.int pl,.int i])=H4 at hb4 bt4 d4 ⊢
   have hn:n∉A2.po.map (·.nm):=fun z=>by
    obtain⟨e,he,ez⟩:=List.mem_map.mp z
    rcases e5 e he (by rw[ez]) with q|⟨_,q⟩
    ·rw[ez] at q;exact absurd q (Int.lt_irrefl _)
    ·rw[ez] at q;exact absurd q (Int.lt_irrefl _)
   have v1:valV (A2.po.map fun l=>(nk l.nm,V.ref l.adr)) (nk n)=none:=vm_none (fun l:LetA=>nk l.nm) (fun l=>V.ref l.adr) fun e he z=>hn (by rw[← nk_inj _ _ z];exact List.mem_map_of_mem he)
   have nta:∀ e∈A2.ta,nk e.1≠nk n:=fun e he z=>by
    obtain⟨l,hl,q,_⟩:=w2.tp e he
    exact hn (by rw[← nk_inj _ _ z,← q];exact List.mem_map_of_mem hl)
   refine⟨_,rfl,_,rfl,p,_,dx,_,_,rfl,bt4 _ _ np hp,T.cl_Loom,T.na_bk,rfl,_,rfl,D.po,_,rfl,.inr ⟨_,nk n,nb,d4.po,rfl,hb4,small1000 (by rw[List.length_map];omega),rfl⟩,?_⟩
   rw[putK_new _ v1]
   have nbo:∀ b,b∈D.own A2→nb≠b:=fun b hb z=>by
    obtain⟨kvs,q⟩:=d4.isd hb
    rw[← z,hb4] at q;cases q
   obtain⟨m1,m2,m3,m4,m5⟩:=d4.nes
   have poI:D.po∈D.own A2:=by unfold DiL.own;simp
   have wyI:D.wy∈D.own A2:=by unfold DiL.own;simp
   have d5:=d4.setPo (x:=⟨n,y.1,y.2.1,y.2.2⟩) (H':=upd H4 D.po (.dT ((A2.po.map fun l=>(nk l.nm,V.ref l.adr))++[(nk n,V.ref y.1)]))) ga upd_same (fun b u nn _ e=>by rw[upd_ne nn];exact e) (fun b u e=>by rw[upd_ne (ne_of_none e (d4.gn _ poI))];exact d4.held _ _ e)
   have hb5:upd H4 D.po (.dT ((A2.po.map fun l=>(nk l.nm,V.ref l.adr))++[(nk n,V.ref y.1)])) nb=some (.tup ((nk n).map kV)):=by rw[upd_ne (nbo _ poI)];exact hb4
   have bt5:But (D.own A) H (upd H4 D.po (.dT ((A2.po.map fun l=>(nk l.nm,V.ref l.adr))++[(nk n,V.ref y.1)]))):=but_then bt4 (e4 _ poI)
   generalize upd H4 D.po (.dT ((A2.po.map fun l=>(nk l.nm,V.ref l.adr))++[(nk n,V.ref y.1)]))=H5 at d5 hb5 bt5 ⊢
   refine⟨_,rfl,_,rfl,p,_,dx,_,_,rfl,bt5 _ _ np hp,T.cl_Loom,T.na_bw,rfl,D.ta,none,rfl,.inr ⟨_,nk n,nb,.inl d5.ta,rfl,hb5,(vm_none (fun e:Nm3×Int=>nk e.1) (fun e=>V.int e.2) nta).symm⟩,_,rfl,iteT ?_⟩
   refine⟨_,rfl,p,_,dx,_,_,rfl,bt5 _ _ np hp,T.cl_Loom,T.na_ch,rfl,.inr (.inr (.inl ⟨rfl,.inr ⟨_,d5.wy⟩⟩)),_,rfl,_,rfl,y.1,_,0,.int y.2.1,rfl,rfl,SqT.of (d5.held _ _ ga),atI_zero,by show 2≤sizeLine;decide,fun kb hkb q hq=>?_⟩
   have s7:Same H5 (upd (upd H5 kb (.tup [.int s,.int y.2.1])) q (.dT [])):=(Same.new hkb).trans (Same.new hq)
   have hq5:H5 q=none:=(Same.new hkb).free hq
   have hk7:upd (upd H5 kb (.tup [.int s,.int y.2.1])) q (.dT []) kb=some (.tup ((wk (s,y.2.1)).map kV)):=by rw[upd_ne (ne_of_none upd_same hq),upd_same];rfl
   have hb7:=s7 _ _ hb5
   have bt7:But (D.own A) H (upd (upd H5 kb (.tup [.int s,.int y.2.1])) q (.dT [])):=fun b u nn e=>s7 _ _ (bt5 b u nn e)
   have d7:Di G (upd (upd H5 kb (.tup [.int s,.int y.2.1])) q (.dT [])) D { A2 with po:=A2.po++[⟨n,y.1,y.2.1,y.2.2⟩] }:=d5.frame (fun b u _ e=>s7 _ _ e) (fun b u e=>s7 _ _ (d5.held _ _ e))
   have qq:upd (upd H5 kb (.tup [.int s,.int y.2.1])) q (.dT []) q=some (.dT []):=upd_same
   have hqo:q∉D.own A2:=fun z=>by
    obtain⟨kvs,e⟩:=d5.isd z
    rw[hq5] at e;cases e
   have hqH:H q=none∨q∈D.own A:=by
    cases e:H q with
    | none=>exact .inl rfl
    | some u=>
     by_cases z:q∈D.own A
     ·exact .inr z
     ·rw[bt5 _ _ z e] at hq5;cases hq5
   generalize upd (upd H5 kb (.tup [.int s,.int y.2.1])) q (.dT [])=H7 at hk7 hb7 bt7 d7 qq ⊢
   have r:0≤n.1∧n.1<m'∧1≤n.2.1∧n.2.1≤c n.1∧0≤n.2.2∧n.2.2<3∧0≤y.2.1∧y.2.1<m':=⟨s0,s1,pl0,pl1,Int.natCast_nonneg i,by show (i:Int)<3;omega,t0,t1⟩
   have e5':∀ e∈A2.po++[(⟨n,y.1,y.2.1,y.2.2⟩:LetA)],e.nm.1=s→e.nm.2.1<pl∨(e.nm.2.1=pl∧e.nm.2.2<((i+1:Nat):Int)):=fun e he z=>by
    rcases List.mem_append.mp he with he|he
    ·rcases e5 e he z with z|⟨z1,z2⟩
     ·exact .inl z
     ·exact .inr ⟨z1,by omega⟩
    ·rw[List.mem_singleton] at he
     subst he
     exact .inr ⟨rfl,by show (i:Int)<_;omega⟩
   refine⟨D.wy,kb,_,wk (s,y.2.1),.ref q,rfl,rfl,d7.wy,hk7,small1000 (by rw[List.length_map];show A2.wy.length≤1000;omega),fun v hv=>?_,fun hv=>?_⟩
   ·obtain⟨e0,he0,k0,rfl⟩:=vm_inv (fun e:(Int×Int)×Addr×List Nm3=>wk e.1) (fun e=>V.ref e.2.1) hv
    have k0:=wk_inj _ _ k0
    have he0:e0∈A2.wy:=he0
    have kin:(s,y.2.1)∈A2.wy.map (·.1):=by rw[← k0];exact List.mem_map_of_mem he0
    have v2:valV (e0.2.2.map fun n=>(nk n,V.bl true)) (nk n)=none:=vm_none nk (fun _=>V.bl true) fun z hz e=>by
     obtain⟨l,hl,q1,_⟩:=(w2.wi e0 he0 z).mp hz
     exact hn (by rw[← nk_inj _ _ e,← q1];exact List.mem_map_of_mem hl)
    have way:=d7.ways e0 he0
    have lenw:e0.2.2.length≤A2.po.length:=by
     have:=nd_sub (b:=A2.po.map (·.nm)) (w2.wd e0 he0) fun z hz=>by
      obtain⟨l,hl,q1,_⟩:=(w2.wi e0 he0 z).mp hz
      rw[← q1];exact List.mem_map_of_mem hl
     rwa [List.length_map] at this
    refine⟨_,rfl,_,rfl,e0.2.1,_,rfl,.inr ⟨_,nk n,nb,way,rfl,hb7,small1000 (by rw[List.length_map];omega),rfl⟩,?_⟩
    rw[putK_new _ v2]
    have own0:e0.2.1∈D.own A2:=DiL.mem_wy he0
    have d9:=d7.setWay (n:=n) (e0:=e0) (H':=upd H7 e0.2.1 (.dT ((e0.2.2.map fun n=>(nk n,V.bl true))++[(nk n,V.bl true)]))) w2.wn he0 upd_same (fun b u nn _ e=>by rw[upd_ne nn];exact e) (fun b u e=>by rw[upd_ne (ne_of_none e (d7.gn _ own0))];exact d7.held _ _ e)
    rw[k0] at d9
    refine⟨⟨A2.post1 n y.1 y.2.1 y.2.2 0,but_then bt7 (e4 _ own0),d9,w2.post1 hn r,e1,?_,?_,fun b hb=>?_,e5'⟩,_,_,_,_,rfl⟩
    ·show (A2.po++[_]).length=_
     rw[List.length_append,e2];rfl
    ·have:=wyAdd_len (wy:=A2.wy) (k:=(s,y.2.1)) (n:=n) (q:=0)
     show (wyAdd A2.wy (s,y.2.1) n 0).length≤_
     omega
    ·rcases own_post (adr:=y.1) hb with hb|⟨z,_⟩
     ·exact e4 b hb
     ·exact absurd kin z
   ·have nin:(s,y.2.1)∉A2.wy.map (·.1):=fun z=>by
     obtain⟨e,he,q1⟩:=List.mem_map.mp z
     refine valV_not hv ?_
     rw[List.map_map]
     exact List.mem_map.mpr ⟨e,he,by show wk e.1=_;rw[q1]⟩
    have qwy:q≠D.wy:=fun z=>hqo (by rw[z];exact wyI)
    have nbwy:nb≠D.wy:=nbo _ wyI
    have nbq:nb≠q:=fun z=>by rw[z] at hb5;rw[hq5] at hb5;cases hb5
    refine⟨_,rfl,_,rfl,q,_,rfl,.inr ⟨[],nk n,nb,by rw[upd_ne qwy];exact qq,rfl,by rw[upd_ne nbwy];exact hb7,by decide,rfl⟩,?_⟩
    rw[putK_new _ valV_nil,List.nil_append]
    have gq:G q=none:=by
     cases e:G q with
     | none=>rfl
     | some u=>rw[d5.held _ _ e] at hq5;cases hq5
    have d9:=d7.newWay (n:=n) (q:=q) (k:=(s,y.2.1)) (H':=upd (upd H7 D.wy (.dT ((A2.wy.map fun e=>(wk e.1,V.ref e.2.1))++[(wk (s,y.2.1),V.ref q)]))) q (.dT [(nk n,V.bl true)])) nin hqo gq (by rw[upd_ne (Ne.symm qwy),upd_same]) upd_same (fun b u nn ho e=>by rw[upd_ne (fun z=>hqo (by rw[← z];exact ho)),upd_ne nn];exact e) (fun b u e=>by rw[upd_ne (ne_of_none e gq),upd_ne (ne_of_none e (d7.gn _ wyI))];exact d7.held _ _ e)
    refine⟨⟨A2.post1 n y.1 y.2.1 y.2.2 q,but_then (but_then bt7 (e4 _ wyI)) hqH.symm,d9,w2.post1 hn r,e1,?_,?_,fun b hb=>?_,e5'⟩,_,_,_,_,rfl⟩
    ·show (A2.po++[_]).length=_
     rw[List.length_append,e2];rfl
    ·have:=wyAdd_len (wy:=A2.wy) (k:=(s,y.2.1)) (n:=n) (q:=q)
     show (wyAdd A2.wy (s,y.2.1) n q).length≤_
     omega
    ·rcases own_post (adr:=y.1) hb with hb|⟨_,rfl⟩
     ·exact e4 b hb
     ·exact hqH.symm
  ·rintro σ H2 ⟨⟨A2,bt,d2,w2,e1,e2,e3,e4,e5⟩,_⟩
   rw[List.length_map] at e2 e3
   exact k H2 A2 bt d2 w2 e1 e2 e3 e4
def sp_cell_at (K:W.Frag):Sp:=fun vs H Q _=>∃ a ns k,vs=[.ref a,.int k]∧SqL K H a (iV ns)∧0≤k∧∀ c:Int,Q (.int c) H
theorem ok_au (T:Txt K mg t):FnOk P w K mg base (CXr P w) 1 t.f_au t.fd_au ["_law_script","_law_k"] (sp_cell_at K):=by
 refine T.F_au.okN sc_au (fun vs H Q E h=>?_) (fun cdv A outer s H vs Q E hr h=>?_)
 ·obtain⟨a,ns,k,rfl,_⟩:=h;rfl
 ·obtain⟨a,ns,k,rfl,hS,h0,q⟩:=h
  refine⟨_,(pss_cons (ps_if (pt_cmpR op_lt (pv 1) (pe_callB (call_lenK (K:=K)) rfl T.no_len b_len (pa_c (pv 0) pa_nil)) (nomark _))
    (pss_one (ps_ret (pe_ix (ix_listK (K:=K)) (pv 0) (pv 1) (fun _ _=>rfl))))
    pss_nil)
   (pss_one (ps_ret pe_int))),?_⟩
  refine⟨_,rfl,_,rfl,a,_,rfl,.inl hS,_,_,rfl,rfl,_,rfl,ite2 (fun z=>?_) fun _=>q 0⟩
  have lt:k<(iV ns).length:=of_decide_eq_true z
  have lt':k.toNat<ns.length:=by unfold iV at lt;rw[List.length_map] at lt;omega
  refine⟨_,rfl,_,rfl,a,_,k,.int ns[k.toNat],rfl,rfl,hS,?_,q _⟩
  unfold atI ixN
  rw[if_pos h0,if_pos lt]
  show (iV ns)[k.toNat]? = _
  unfold iV
  rw[List.getElem?_map,List.getElem?_eq_getElem lt']
  rfl
def sp_bo:Sp:=fun vs H Q _=>∃ c k b:Int,vs=[.int c,.int k,.int b]∧0≤k∧k≤900∧0<b∧b≤10000∧∀ d:Int,0≤d→d<b→Q (.int d) H
theorem ok_bo (T:Txt K mg t):FnOk P w K mg base (CXr P w) 1 t.f_bo t.fd_bo ["_law_cell","_law_k","_law_base"] sp_bo:=by
 refine T.F_bo.okN sc_bo (fun vs H Q E h=>?_) (fun cdv A outer s H vs Q E hr h=>?_)
 ·obtain⟨c,k,b,rfl,_⟩:=h;rfl
 ·obtain⟨c,k,b,rfl,k0,k1,b0,b1,kk⟩:=h
  refine⟨_,(pss_cons (ps_if (pt_cmpR op_eq (pe_op op_mod (pv 0) pe_int) pe_int (nomark _))
    (pss_cons (ps_set (i:=3) sc_bo.nd rfl (Or.inl rfl) (pe_op op_fdiv (pv 0) pe_int))
   (pss_cons (ps_for PassesOwn.never rfl (pi_range1 rfl T.no_range (pa_c (pv 1) pa_nil)) (pg_name (i:=4) sc_bo.nd rfl (Or.inl rfl))
    (pss_one (ps_set (i:=3) sc_bo.nd rfl (Or.inl rfl) (pe_op op_fdiv (pv 3) (pv 2)))))
   (pss_one (ps_if (pt_cmpR op_gt (pv 3) pe_int (nomark _))
    (pss_one (ps_ret (pe_op op_mod (pv 3) (pv 2))))
    pss_nil))))
    pss_nil)
   (pss_cons (ps_set (i:=5) sc_bo.nd rfl (Or.inl rfl) (pe_op op_mod (pe_op op_mul (pe_op op_add (pe_op op_add (pv 0) (pe_op op_mul pe_int (pv 1))) pe_int) pe_int) pe_int))
   (pss_cons (ps_set (i:=5) sc_bo.nd rfl (Or.inl rfl) (pe_op op_mod (pe_op op_mul (pv 5) (pe_op op_add (pe_op op_fdiv (pv 5) pe_int) pe_int)) pe_int))
   (pss_one (ps_ret (pe_op op_mod (pe_op op_mod (pe_op op_mul (pv 5) (pe_op op_add (pe_op op_fdiv (pv 5) pe_int) pe_int)) pe_int) (pv 2))))))),?_⟩
  have mb:∀ x:Int,-(2 ^ 64)<x%2147483647∧x%2147483647<2 ^ 64:=fun x=>by
   have h1:=Int.emod_nonneg x (b:=2147483647) (by decide)
   have h2:=Int.emod_lt_of_pos x (b:=2147483647) (by decide)
   omega
  have rest:∀ a1 a2 a3:Option V,tSeq
   (tAsg
    (tOp (rI (fun x j=>0<j) fun i j=>V.int (i%j))
     (tOp (rI CMul fun i j=>V.int (i*j))
      (tOp (rI0 fun i j=>V.int (i+j))
       (tOp (rI0 fun i j=>V.int (i+j)) (tVar 0)
        (tOp (rI CMul fun i j=>V.int (i*j)) (tC (V.int 7919)) (tVar 1)))
       (tC (V.int 1)))
      (tC (V.int 48271)))
     (tC (V.int 2147483647)))
    (gName 5))
   (tSeq
    (tAsg
     (tOp (rI (fun x j=>0<j) fun i j=>V.int (i%j))
      (tOp (rI CMul fun i j=>V.int (i*j)) (tVar 5)
       (tOp (rI0 fun i j=>V.int (i+j)) (tOp (rI CDiv fun i j=>V.int (i/j)) (tVar 5) (tC (V.int 1009)))
        (tC (V.int 69621))))
      (tC (V.int 2147483647)))
     (gName 5))
    (tRet
     (tOp (rI (fun x j=>0<j) fun i j=>V.int (i%j))
      (tOp (rI (fun x j=>0<j) fun i j=>V.int (i%j))
       (tOp (rI CMul fun i j=>V.int (i*j)) (tVar 5)
        (tOp (rI0 fun i j=>V.int (i+j)) (tOp (rI CDiv fun i j=>V.int (i/j)) (tVar 5) (tC (V.int 2003)))
         (tC (V.int 40692))))
       (tC (V.int 2147483399)))
      (tVar 2))))
   { nx:=fun x H'=>Q V.non H',rt:=Q } [some (.int c),some (.int k),some (.int b),a1,a2,a3] H:=fun a1 a2 a3=>by
   refine⟨_,rfl,_,rfl,_,_,rfl,rfl,.inl ⟨by decide,by decide⟩,_,_,rfl,rfl,_,_,rfl,rfl,_,_,rfl,rfl,.inr ⟨by decide,by decide⟩,_,_,rfl,rfl,by show (0:Int)<2147483647;decide,?_⟩
   refine⟨_,rfl,_,rfl,_,_,rfl,rfl,⟨by decide,by decide⟩,_,_,rfl,rfl,_,_,rfl,rfl,.inl (mb _),_,_,rfl,rfl,by show (0:Int)<2147483647;decide,?_⟩
   refine⟨_,rfl,_,rfl,_,_,rfl,rfl,⟨by decide,by decide⟩,_,_,rfl,rfl,_,_,rfl,rfl,.inl (mb _),_,_,rfl,rfl,by show (0:Int)<2147483399;decide,_,rfl,_,_,rfl,rfl,b0,?_⟩
   exact kk _ (Int.emod_nonneg _ (by omega)) (Int.emod_lt_of_pos _ b0)
  refine⟨_,rfl,_,_,rfl,rfl,by show (0:Int)<2;decide,rfl,_,rfl,ite2 (fun z=>?_) fun z=>rest _ _ _⟩
  refine⟨_,rfl,_,_,rfl,rfl,⟨by decide,by decide⟩,?_⟩
  refine⟨_,rfl,k,rfl,by omega,by omega,for_range (lo:=0) (fun i σ H'=>H'=H∧∃ (r:Int) (a1 a2:Option V),σ=[some (.int c),some (.int k),some (.int b),some (.int r),a1,a2]) ⟨rfl,_,_,_,rfl⟩ ?_ ?_⟩
  ·rintro i σ H' hi ⟨rfl,r,a1,a2,rfl⟩
   exact⟨_,rfl,_,rfl,_,_,rfl,rfl,⟨b0,by omega⟩,rfl,_,_,_,rfl⟩
  ·rintro σ H' ⟨rfl,r,a1,a2,rfl⟩
   exact⟨_,rfl,_,_,rfl,rfl,_,rfl,ite2 (fun _=>⟨_,rfl,_,rfl,_,_,rfl,rfl,b0,kk _ (Int.emod_nonneg _ (by omega)) (Int.emod_lt_of_pos _ b0)⟩) fun _=>rest _ _ _⟩
theorem cutV_ints {ns:List Int}{lo hi:Option Int}:∃ ws,cutV (iV ns) lo hi=iV ws∧ws.length≤ns.length:=by
 refine⟨(ns.drop (HT.sIx (iV ns).length 0 lo)).take (HT.sIx (iV ns).length (iV ns).length hi-HT.sIx (iV ns).length 0 lo),?_,?_⟩
 ·unfold cutV iV
  rw[List.map_take,List.map_drop]
 ·rw[List.length_take,List.length_drop];omega
def sp_cj (K:W.Frag):Sp:=fun vs H Q _=>∃ c m h st:Int,∃ v,vs=[.int c,.int m,.int h,.int st,v]∧2≤m∧m≤10∧0≤h∧h<m∧(v=.non∨∃ wd,v=.int wd) ∧
 ∀ (H':Hp) (r:Addr) (st':Int) (l1 l2:Addr) (ls:List (Addr×Int×Int)) (ws:List Int),Same H H'→H' r=some (.tup [.int st',.ref l1,.ref l2])→H' l1=some (.lst (ls.map fun x:Addr×Int×Int=>V.ref x.1))→ls.length≤3→(∀ x∈ls,H' x.1=some (.tup [.int x.2.1,.int x.2.2])∧0≤x.2.1∧x.2.1<m)→H' l2=some (.lst (iV ws))→ws.length≤10→Q (.ref r) H'
theorem ok_cj (T:Txt K mg t):FnOk P w K mg base (CXr P w) 2 t.f_cj t.fd_cj ["_law_cell","_law_many","_law_hand","_law_state","_law_word"] (sp_cj K):=by
 refine T.F_cj.okN sc_cj (fun vs H Q E h=>?_) (fun cdv A outer s H vs Q E hr h=>?_)
 ·obtain⟨c,m,h,st,v,rfl,_⟩:=h;rfl
 ·obtain⟨c,m,h,st,v,rfl,m0,m1,h0,h1,hv,k⟩:=h
  refine⟨_,(pss_cons (ps_set (i:=5) sc_cj.nd rfl (Or.inl rfl) (pe_op op_mul (pe_op op_add (pe_op op_mul (pv 2) pe_int) (pe_op op_mod (pv 3) pe_int)) pe_int))
   (pss_cons (ps_if (pt_cmpR op_notN (pv 4) pe_non (nomark _))
    (pss_one (ps_set (i:=5) sc_cj.nd rfl (Or.inl rfl) (pe_op op_add (pe_op op_add (pv 5) pe_int) (pe_op op_mod (pv 4) pe_int))))
    pss_nil)
   (pss_cons (ps_set (i:=6) sc_cj.nd rfl (Or.inl rfl) (pe_call (ok_bo T) (hr.mono (by decide)) rfl T.mg_bo T.kp_bo T.b_bo .nil passr0 (pa_c (pv 0) (pa_c (pv 5) (pa_c pe_int pa_nil)))))
   (pss_cons (ps_set (i:=7) sc_cj.nd rfl (Or.inl rfl) (pe_lst pa_nil))
   (pss_cons (ps_for PassesOwn.never rfl (pi_range1 rfl T.no_range (pa_c (pe_op op_mod (pe_op op_fdiv (pv 6) pe_int) pe_int) pa_nil)) (pg_name (i:=8) sc_cj.nd rfl (Or.inl rfl))
    (pss_one (ps_expr (pe_bmK (K:=K) PySem.F.plainAttrs_list PySem.F.slot_list_append PySem.F.type_list_append mt_append (pv 7) (pa_c (pe_tup (pa_c (pe_op op_mod (pe_op op_add (pe_op op_fdiv (pv 6) pe_int) (pe_op op_mul (pv 8) (pe_op op_fdiv (pv 6) pe_int))) (pv 1)) (pa_c (pe_op op_add (pe_op op_fdiv (pv 6) pe_int) (pv 8)) pa_nil))) pa_nil)))))
   (pss_one (ps_ret (pe_tup (pa_c (pe_op op_mod (pv 6) pe_int) (pa_c (pv 7) (pa_c (pe_slice (sl_listK (K:=K)) (pe_lst (pa_c (pe_op op_fdiv (pv 6) pe_int) pa_nil)) po_none (po_some (pe_callTy call_intB rfl T.no_int b_int (pa_c (pe_cmpR op_eq (pe_op op_mod (pv 6) pe_int) pe_int (nomark _)) pa_nil)))) pa_nil))))))))))),?_⟩
  have key:∀ at':Int,0≤at'→at'≤900→tSeq
    (tAsg (tCall sp_bo [] ER0 (tCons (tVar 0) (tCons (tVar 5) (tCons (tC (V.int 3000)) tNil)))) (gName 6))
    (tSeq (tAsg (tLst tNil) (gName 7))
     (tSeq
      (tFor
       (iRng1
        (tCons
         (tOp (rI (fun x j=>0<j) fun i j=>V.int (i%j))
          (tOp (rI CDiv fun i j=>V.int (i/j)) (tVar 6) (tC (V.int 6))) (tC (V.int 4)))
         tNil))
       (gName 8)
       (tDrop
        (tBM K "list" rAppend (tVar 7)
         (tCons
          (tTup
           (tCons
            (tOp (rI (fun x j=>0<j) fun i j=>V.int (i%j))
             (tOp (rI0 fun i j=>V.int (i+j))
              (tOp (rI CDiv fun i j=>V.int (i/j)) (tVar 6) (tC (V.int 24)))
              (tOp (rI CMul fun i j=>V.int (i*j)) (tVar 8)
               (tOp (rI CDiv fun i j=>V.int (i/j)) (tVar 6) (tC (V.int 120)))))
             (tVar 1))
            (tCons
             (tOp (rI0 fun i j=>V.int (i+j))
              (tOp (rI CDiv fun i j=>V.int (i/j)) (tVar 6) (tC (V.int 7))) (tVar 8))
             tNil)))
          tNil))))
      (tRet
       (tTup
        (tCons (tOp (rI (fun x j=>0<j) fun i j=>V.int (i%j)) (tVar 6) (tC (V.int 6)))
         (tCons (tVar 7)
          (tCons
           (tSl (rSlL K) (tLst (tCons (tOp (rI CDiv fun i j=>V.int (i/j)) (tVar 6) (tC (V.int 5))) tNil))
            tNoPart
            (tPart
             (tCB rIntB
              (tCons
               (tOp rEq (tOp (rI (fun x j=>0<j) fun i j=>V.int (i%j)) (tVar 6) (tC (V.int 4)))
                (tC (V.int 0)))
               tNil))))
           tNil))))))) { nx:=fun x H'=>Q V.non H',rt:=Q } [some (.int c),some (.int m),some (.int h),some (.int st),some v,some (.int at'),none,none,none] H:=fun at' a0 a1=>by
   refine⟨_,rfl,_,rfl,c,at',3000,rfl,a0,a1,by decide,by decide,fun d d0 d1=>?_⟩
   refine⟨by decide,fun l hl=>?_⟩
   have b0:=Int.emod_nonneg (d/6) (b:=4) (by decide)
   have b1:=Int.emod_lt_of_pos (d/6) (b:=4) (by decide)
   refine⟨_,rfl,_,_,rfl,rfl,⟨by decide,by decide⟩,_,_,rfl,rfl,by show (0:Int)<4;decide,d/6%4,rfl,by omega,by omega,for_range (lo:=0)
    (fun i σ H2=>(∃ ls:List (Addr×Int×Int),ls.length=i∧H2 l=some (.lst (ls.map fun x=>V.ref x.1))∧(∀ x∈ls,H2 x.1=some (.tup [.int x.2.1,.int x.2.2])∧0≤x.2.1∧x.2.1<m)∧Same H H2)∧∃ o,σ=[some (.int c),some (.int m),some (.int h),some (.int st),some v,some (.int at'),some (.int d),some (.ref l),o])
    ⟨⟨[],rfl,upd_same,(fun x hx=>by cases hx),Same.new hl⟩,_,rfl⟩ ?_ ?_⟩
   ·rintro i σ H2 hi ⟨⟨ls,len,el,hls,sm⟩,o,rfl⟩
    refine⟨_,rfl,.inl ⟨rfl,_,SqL.of el⟩,?_⟩
    refine⟨_,rfl,_,_,rfl,rfl,⟨by decide,by decide⟩,_,rfl,_,rfl,_,_,rfl,rfl,⟨by decide,by decide⟩,_,_,rfl,rfl,.inl (by omega),_,_,rfl,rfl,_,rfl,_,_,rfl,rfl,by omega,?_⟩
    refine⟨_,rfl,_,_,rfl,rfl,⟨by decide,by decide⟩,_,rfl,_,_,rfl,rfl,by show 2≤sizeLine;decide,fun q hq=>?_⟩
    refine⟨l,_,.ref q,rfl,rfl,by rw[upd_ne (ne_of_none el hq)];exact el,small1000 (by rw[List.length_map];omega),?_⟩
    have nlq:q≠l:=fun z=>by rw[z,el] at hq;cases hq
    refine⟨⟨ls++[(q,(d/24+(0+(i:Int))*(d/120))%m,d/7+(0+(i:Int)))],by rw[List.length_append,len];rfl,by rw[upd_same,List.map_append];rfl,fun x hx=>?_,fun b u e=>?_⟩,_,rfl⟩
    ·rcases List.mem_append.mp hx with hx|hx
     ·obtain⟨z1,z2⟩:=hls x hx
      refine⟨?_,z2⟩
      rw[upd_ne (fun z=>by rw[z,el] at z1;cases z1),upd_ne (ne_of_none z1 hq)];exact z1
     ·rw[List.mem_singleton] at hx
      subst hx
      exact⟨by rw[upd_ne nlq,upd_same],Int.emod_nonneg _ (by omega),Int.emod_lt_of_pos _ (by omega)⟩
    ·rw[upd_ne (ne_of_none e hl),upd_ne (ne_of_none (sm _ _ e) hq)];exact sm _ _ e
   ·rintro σ H2 ⟨⟨ls,len,el,hls,sm⟩,o,rfl⟩
    refine⟨_,rfl,_,_,rfl,rfl,by show (0:Int)<6;decide,_,rfl,?_⟩
    refine⟨_,rfl,_,_,rfl,rfl,⟨by decide,by decide⟩,by show 1≤sizeLine;decide,fun l5 hl5=>?_⟩
    refine⟨_,rfl,_,_,rfl,rfl,by show (0:Int)<4;decide,rfl,_,rfl,_,rfl,l5,_,rfl,SqL.of upd_same,fun l6 hl6=>⟨by show 3≤sizeLine;decide,fun r hr=>?_⟩⟩
    obtain⟨ws,ew,lw⟩:=cutV_ints (ns:=[d/5]) (lo:=none) (hi:=some (if decide (V.int (d%4)=V.int 0)=true then 1 else 0))
    have s5:Same H2 (upd H2 l5 (.lst [V.int (d/5)])):=Same.new hl5
    have s6:Same H2 (upd (upd H2 l5 (.lst [V.int (d/5)])) l6 (.lst (cutV [V.int (d/5)] none (some (if decide (V.int (d%4)=V.int 0)=true then 1 else 0))))):=s5.trans (Same.new hl6)
    have s7:=s6.trans (Same.new (o:=.tup [V.int (d%6),.ref l,.ref l6]) hr)
    refine k _ r _ l l6 ls ws (sm.trans s7) upd_same (s7 _ _ el) (by omega) (fun x hx=>⟨s7 _ _ (hls x hx).1,(hls x hx).2⟩) ?_ (Nat.le_trans lw (by show 1≤10;decide))
    rw[upd_ne (ne_of_none upd_same hr),upd_same,← ew];rfl
  have e0:=Int.emod_nonneg st (b:=6) (by decide)
  have e1:=Int.emod_lt_of_pos st (b:=6) (by decide)
  refine⟨_,rfl,_,_,rfl,rfl,.inr ⟨by decide,by decide⟩,_,rfl,_,_,rfl,rfl,by show (0:Int)<6;decide,_,_,rfl,rfl,_,_,rfl,rfl,.inr ⟨by decide,by decide⟩,?_⟩
  rcases hv with rfl|⟨wd,rfl⟩
  ·exact⟨_,rfl,rfl,_,rfl,iteFe rfl (key _ (by omega) (by omega))⟩
  ·have f0:=Int.emod_nonneg wd (b:=3) (by decide)
   have f1:=Int.emod_lt_of_pos wd (b:=3) (by decide)
   exact⟨_,rfl,rfl,_,rfl,iteTe rfl ⟨_,rfl,_,_,rfl,rfl,_,rfl,_,_,rfl,rfl,by show (0:Int)<3;decide,_,_,rfl,rfl,key _ (by omega) (by omega)⟩⟩
def sp_lam (K:W.Frag):List V→Sp:=fun ws vs H Q E=>∃ c m:Int,∃ h st v,ws=[.int c,.int m]∧vs=[h,st,v]∧sp_cj K [.int c,.int m,h,st,v] H Q E
theorem ok_ap (T:Txt K mg t):CloOkL P w K mg base (CXr P w) 3 "_law_loom.<locals>.<lambda>" s_ap ["_law_hand","_law_state","_law_word"] ["_law_cell","_law_many"] (sp_lam K):=by
 refine clol_of sc_ap (fun ws vs H Q E h=>?_) (fun _ _ _ _ us hl=>match us,hl with | [_,_,_],_=>rfl) (fun f cdv cl A outer s H ws vs Q E hr wl h=>?_)
 ·obtain⟨c,m,h,st,v,_,rfl,_⟩:=h;rfl
 ·obtain⟨c,m,h,st,v,rfl,rfl,k⟩:=h
  refine⟨_,(pe_call (ok_cj T) (hr.mono (by decide)) rfl T.mg_cj T.kp_cj T.b_cj .nil passr0 (pa_c (pv 3) (pa_c (pv 4) (pa_c (pv 0) (pa_c (pv 1) (pa_c (pv 2) pa_nil)))))),?_⟩
  exact⟨_,rfl,_,rfl,_,rfl,_,rfl,_,rfl,k⟩
theorem WfD.mono {m:Int}{c c':Int→Int}{A:DiA}(w:WfD m c A) (h:∀ x,c x≤c' x):WfD m c' A:=
 ⟨w.nd,w.nt,fun e he=>let ⟨l,hl,z1,z2⟩:=w.tp e he;⟨l,hl,z1,Int.le_trans z2 (h _)⟩,fun l hl=>let ⟨r1,r2,r3,r4,r5⟩:=w.rg l hl;⟨r1,r2,r3,Int.le_trans r4 (h _),r5⟩,w.wn,w.wi,w.wd,w.wa⟩
def wyDel (wy:List ((Int×Int)×Addr×List Nm3)) (k:Int×Int) (n:Nm3):List ((Int×Int)×Addr×List Nm3):=wy.map fun e=>if e.1=k then (e.1,e.2.1,e.2.2.filter fun x=>decide (x≠n)) else e
theorem wyDel_eq (k:Int×Int) (n:Nm3) (e:(Int×Int)×Addr×List Nm3):(if e.1=k then (e.1,e.2.1,e.2.2.filter fun x=>decide (x≠n)) else e).1=e.1∧(if e.1=k then (e.1,e.2.1,e.2.2.filter fun x=>decide (x≠n)) else e).2.1=e.2.1:=by
 by_cases z:e.1=k
 ·rw[if_pos z];exact⟨rfl,rfl⟩
 ·rw[if_neg z];exact⟨rfl,rfl⟩
theorem wyDel_keys {wy:List ((Int×Int)×Addr×List Nm3)}{k:Int×Int}{n:Nm3}:(wyDel wy k n).map (·.1)=wy.map (·.1):=by
 unfold wyDel
 rw[List.map_map]
 exact List.map_congr_left fun e _=>(wyDel_eq k n e).1
theorem nm_unique {A:DiA}(nd:(A.po.map (·.nm)).Nodup) {l l':LetA}(h:l∈A.po) (h':l'∈A.po) (e:l.nm=l'.nm):l=l':=by
 obtain⟨i,hi,rfl⟩:=List.getElem_of_mem h
 obtain⟨j,hj,rfl⟩:=List.getElem_of_mem h'
 have:i=j:=(List.getElem?_inj (l:=A.po.map (·.nm)) (by simpa using hi) nd).mp (by rw[List.getElem?_map,List.getElem?_map,List.getElem?_eq_getElem hi,List.getElem?_eq_getElem hj];exact congrArg some e)
 subst this;rfl
def DiA.take (A:DiA) (l:LetA) (pl:Int):DiA:={ A with ta:=A.ta++[(l.nm,pl)],wy:=wyDel A.wy (l.nm.1,l.to) l.nm }
theorem WfD.take {m:Int}{c:Int→Int}{A:DiA}(w:WfD m c A) {l:LetA}{pl:Int}(hl:l∈A.po) (nt:l.nm∉A.ta.map (·.1)) (hp:pl≤c l.to):WfD m c (A.take l pl):=by
 have tm:∀ n,n∈(A.ta++[(l.nm,pl)]).map (·.1)↔n∈A.ta.map (·.1)∨n=l.nm:=fun n=>by rw[List.map_append,List.mem_append];simp
 refine⟨w.nd,?_,fun e he=>?_,w.rg,by show ((wyDel A.wy _ _).map (·.1)).Nodup;rw[wyDel_keys];exact w.wn,fun e he n=>?_,fun e he=>?_,fun l' hl' nt'=>?_⟩
 ·show ((A.ta++[(l.nm,pl)]).map (·.1)).Nodup
  rw[List.map_append]
  refine List.nodup_append.mpr ⟨w.nt,by simp,fun a ha b hb z=>?_⟩
  have hb':b=l.nm:=by simpa using hb
  exact nt (by rw[← hb',← z];exact ha)
 ·rcases List.mem_append.mp he with he|he
  ·exact w.tp e he
  ·rw[List.mem_singleton] at he
   subst he
   exact⟨l,hl,rfl,hp⟩
 ·obtain⟨e0,he0,rfl⟩:=List.mem_map.mp (show e∈A.wy.map _ from he)
  rw[(wyDel_eq _ _ e0).1]
  show _↔∃ l'∈A.po,l'.nm=n∧n.1=e0.1.1∧l'.to=e0.1.2∧n∉(A.ta++[(l.nm,pl)]).map (·.1)
  have base:=w.wi e0 he0 n
  by_cases z:e0.1=(l.nm.1,l.to)
  ·rw[if_pos z]
   show n∈e0.2.2.filter _↔_
   rw[List.mem_filter,base]
   constructor
   ·rintro⟨⟨l',h1,h2,h3,h4,h5⟩,h6⟩
    exact⟨l',h1,h2,h3,h4,fun q=>((tm n).mp q).elim h5 (by simpa using h6)⟩
   ·rintro⟨l',h1,h2,h3,h4,h5⟩
    exact⟨⟨l',h1,h2,h3,h4,fun q=>h5 ((tm n).mpr (.inl q))⟩,by rw[decide_eq_true_eq];exact fun q=>h5 ((tm n).mpr (.inr q))⟩
  ·rw[if_neg z,base]
   constructor
   ·rintro⟨l',h1,h2,h3,h4,h5⟩
    refine⟨l',h1,h2,h3,h4,fun q=>((tm n).mp q).elim h5 fun y=>z ?_⟩
    have:l'=l:=nm_unique w.nd h1 hl (h2.trans y)
    subst this
    subst y
    exact Prod.ext h3.symm h4.symm
   ·rintro⟨l',h1,h2,h3,h4,h5⟩
    exact⟨l',h1,h2,h3,h4,fun q=>h5 ((tm n).mpr (.inl q))⟩
 ·obtain⟨e0,he0,rfl⟩:=List.mem_map.mp (show e∈A.wy.map _ from he)
  by_cases z:e0.1=(l.nm.1,l.to)
  ·rw[if_pos z];exact(w.wd e0 he0).filter _
  ·rw[if_neg z];exact w.wd e0 he0
 ·obtain⟨e0,he0,z⟩:=w.wa l' hl' fun q=>nt' ((tm _).mpr (.inl q))
  exact⟨_,List.mem_map.mpr ⟨e0,he0,rfl⟩,by rw[(wyDel_eq _ _ e0).1];exact z⟩
theorem Di.take {G H H':Hp}{L:DiL}{A:DiA}{l:LetA}{pl:Int}{e0:(Int×Int)×Addr×List Nm3}(d:Di G H L A) (wn:(A.wy.map (·.1)).Nodup) (he:e0∈A.wy) (k0:e0.1=(l.nm.1,l.to))
  (h1:H' L.ta=some (.dT ((A.ta.map fun e=>(nk e.1,V.int e.2))++[(nk l.nm,V.int pl)]))) (h2:H' e0.2.1=some (.dT ((e0.2.2.filter fun x=>decide (x≠l.nm)).map fun n=>(nk n,V.bl true))))
  (kp:∀ b o,b≠L.ta→b≠e0.2.1→b∈L.own A→H b=some o→H' b=some o) (hG:Same G H'):Di G H' L (A.take l pl)∧L.own (A.take l pl)=L.own A:=by
 obtain⟨n1,n2,n3,n4,n5⟩:=d.nes
 have eo:L.own (A.take l pl)=L.own A:=by
  show [L.po,L.ta,L.wy]++(wyDel A.wy (l.nm.1,l.to) l.nm).map (·.2.1)=[L.po,L.ta,L.wy]++A.wy.map (·.2.1)
  unfold wyDel
  rw[List.map_map]
  congr 1
  exact List.map_congr_left fun e _=>(wyDel_eq _ _ e).2
 refine⟨⟨kp _ _ n1 (fun z=>(n4 e0 he).1 z.symm) (by unfold DiL.own;simp) d.po,?_,?_,fun e hm=>?_,d.lets,hG,by rw[eo];exact d.nd,by rw[eo];exact d.gn⟩,eo⟩
 ·show H' L.ta=some (.dT ((A.ta++[(l.nm,pl)]).map fun e=>(nk e.1,V.int e.2)))
  rw[h1,List.map_append];rfl
 ·show H' L.wy=some (.dT ((wyDel A.wy (l.nm.1,l.to) l.nm).map fun e=>(wk e.1,V.ref e.2.1)))
  unfold wyDel
  rw[List.map_map,kp _ _ (Ne.symm n3) (fun z=>(n4 e0 he).2.2 z.symm) (by unfold DiL.own;simp) d.wy]
  congr 2
  exact List.map_congr_left fun e _=>by show _=(wk _,V.ref _);rw[(wyDel_eq _ _ e).1,(wyDel_eq _ _ e).2]
 ·obtain⟨e2,m2,rfl⟩:=List.mem_map.mp (show e∈A.wy.map _ from hm)
  by_cases z:e2.1=(l.nm.1,l.to)
  ·have:e2=e0:=by
    obtain⟨i,hi,rfl⟩:=List.getElem_of_mem m2
    obtain⟨j,hj,rfl⟩:=List.getElem_of_mem he
    have:i=j:=(List.getElem?_inj (l:=A.wy.map (·.1)) (by simpa using hi) wn).mp (by rw[List.getElem?_map,List.getElem?_map,List.getElem?_eq_getElem hi,List.getElem?_eq_getElem hj];exact congrArg some (z.trans k0.symm))
    subst this;rfl
   subst this
   rw[if_pos z];exact h2
  ·rw[if_neg z]
   exact kp _ _ (n4 e2 m2).2.1 (fun y=>z (by rw[n5 e2 m2 e0 he y];exact k0)) (DiL.mem_wy m2) (d.ways e2 m2)
theorem drop_names {ns:List Nm3}{n:Nm3}:dropK (ns.map fun n=>(nk n,V.bl true)) (nk n)=(ns.filter fun x=>decide (x≠n)).map fun n=>(nk n,V.bl true):=by
 unfold dropK
 rw[List.filter_map]
 congr 1
 refine List.filter_congr fun x _=>?_
 show decide (nk x≠nk n)=decide (x≠n)
 rw[decide_eq_decide]
 exact⟨fun h e=>h (by rw[e]),fun h e=>h (nk_inj _ _ e)⟩
structure LoL where
 (p dx dz lt lg:Addr)
 D:DiL
 ths:List ThL
structure LoA where
 many:Nat
 ord:Bool
 cell:Int
 ths:List ThA
 A:DiA
def cnt (ths:List ThA) (h:Int):Int:=match ths[h.toNat]? with
 | some T=>T.evs.length
 | none=>0
def thOwn (Ls:List ThL):List Addr:=Ls.flatMap fun q=>[q.p,q.dn,q.wr]
def LoL.own (L:LoL) (A:LoA):List Addr:=[L.p,L.lt,L.lg]++(thOwn L.ths++L.D.own A.A)
structure TWf (n:Nat) (T:ThA):Prop where
 ws:∃ w0 ws,T.ws=w0::ws
 rg:∀ z∈T.ws,0≤z∧z≤T.evs.length
 dn:T.down≤T.evs.length
 en:T.evs.length≤n
 wn:T.ws.length≤n+1
structure LoC (K:W.Frag) (t:Adr) (G H:Hp) (L:LoL) (A:LoA):Prop where
 self:H L.p=some (.ins t.c_Loom L.dx (loF L.dz A.many A.ord L.lt L.lg L.D))
 tl:H L.lt=some (.lst (L.ths.map fun q=>V.ref q.p))
 th:∀ (i:Nat) q T,L.ths[i]? = some q→A.ths[i]? = some T→Th K t G H q T
 len1:L.ths.length=A.many
 len2:A.ths.length=A.many
 log:∃ xs,H L.lg=some (.lst xs)
 di:Di G H L.D A.A
 clo:CloL G "_law_loom.<locals>.<lambda>" s_ap ["_law_cell","_law_many"] L.dz [.int A.cell,.int A.many]
 held:Same G H
 gn:∀ b∈L.own A,G b=none
 nd:(L.own A).Nodup
theorem thOwn_mem {Ls:List ThL}{i:Nat}{q:ThL}(h:Ls[i]? = some q):∀ b∈[q.p,q.dn,q.wr],b∈thOwn Ls:=fun b hb=>List.mem_flatMap.mpr ⟨q,List.mem_of_getElem? h,hb⟩
theorem thOwn_ne {Ls:List ThL}(nd:(thOwn Ls).Nodup) {i j:Nat}{a b:ThL}(ha:Ls[i]? = some a) (hb:Ls[j]? = some b) (ij:i≠j):∀ x∈[a.p,a.dn,a.wr],x∉[b.p,b.dn,b.wr]:=by
 unfold thOwn List.Nodup at nd
 rw[List.pairwise_flatMap] at nd
 have pw:=nd.2
 rw[List.pairwise_iff_getElem] at pw
 obtain⟨hi,ea⟩:=List.getElem?_eq_some_iff.mp ha
 obtain⟨hj,eb⟩:=List.getElem?_eq_some_iff.mp hb
 intro x hx hy
 rcases Nat.lt_or_gt_of_ne ij with lt|lt
 ·exact pw i j hi hj lt x (by rw[ea];exact hx) x (by rw[eb];exact hy) rfl
 ·exact pw j i hj hi lt x (by rw[eb];exact hy) x (by rw[ea];exact hx) rfl
theorem thOwn_in {Ls:List ThL}(nd:(thOwn Ls).Nodup) {i:Nat}{a:ThL}(ha:Ls[i]? = some a):[a.p,a.dn,a.wr].Nodup:=by
 unfold thOwn List.Nodup at nd
 rw[List.pairwise_flatMap] at nd
 exact nd.1 a (List.mem_of_getElem? ha)
section
variable {G H G' H':Hp}{L:LoL}{A:LoA}
theorem LoC.nd3 (c:LoC K t G H L A):([L.p,L.lt,L.lg]:List Addr).Nodup∧(thOwn L.ths).Nodup∧(∀ b∈[L.p,L.lt,L.lg],b∉thOwn L.ths∧b∉L.D.own A.A)∧∀ b∈thOwn L.ths,b∉L.D.own A.A:=by
 have nd:=c.nd
 unfold LoL.own at nd
 obtain⟨n1,n2,n3⟩:=List.nodup_append.mp nd
 obtain⟨m1,m2,m3⟩:=List.nodup_append.mp n2
 exact⟨n1,m1,fun b hb=>⟨fun z=>n3 b hb b (List.mem_append_left _ z) rfl,fun z=>n3 b hb b (List.mem_append_right _ z) rfl⟩,fun b hb z=>m3 b hb b z rfl⟩
theorem LoC.somes (c:LoC K t G H L A):∀ b∈L.own A,H b≠none:=fun b hb=>by
 unfold LoL.own at hb
 rcases List.mem_append.mp hb with hb|hb
 ·simp only[List.mem_cons,List.not_mem_nil,or_false] at hb
  obtain⟨xs,hx⟩:=c.log
  rcases hb with rfl|rfl|rfl
  ·rw[c.self];simp
  ·rw[c.tl];simp
  ·rw[hx];simp
 ·rcases List.mem_append.mp hb with hb|hb
  ·obtain⟨q,hq,hb⟩:=List.mem_flatMap.mp hb
   obtain⟨i,hi,rfl⟩:=List.getElem_of_mem hq
   have th:=c.th i L.ths[i] (A.ths[i]'(by rw[c.len2,← c.len1];exact hi)) (List.getElem?_eq_getElem hi) (List.getElem?_eq_getElem _)
   obtain⟨es,hd,_⟩:=th.done
   simp only[List.mem_cons,List.not_mem_nil,or_false] at hb
   rcases hb with rfl|rfl|rfl
   ·rw[th.self];simp
   ·rw[hd];simp
   ·rw[th.writ];simp
  ·obtain⟨kvs,e⟩:=c.di.isd hb
   rw[e];simp
theorem LoC.frame (c:LoC K t G H L A) (sg:Same G G') (s':Same G' H') (kp:∀ b o,b∈L.own A→H b=some o→H' b=some o) (n:∀ b∈L.own A,G' b=none):LoC K t G' H' L A:=by
 have m1:∀ b∈[L.p,L.lt,L.lg],b∈L.own A:=fun b hb=>List.mem_append_left _ hb
 have m2:∀ b∈thOwn L.ths,b∈L.own A:=fun b hb=>List.mem_append_right _ (List.mem_append_left _ hb)
 have m3:∀ b∈L.D.own A.A,b∈L.own A:=fun b hb=>List.mem_append_right _ (List.mem_append_right _ hb)
 obtain⟨xs,hx⟩:=c.log
 have di:=c.di
 refine⟨kp _ _ (m1 _ (by simp)) c.self,kp _ _ (m1 _ (by simp)) c.tl,fun i q T hq hT=>?_,c.len1,c.len2,⟨xs,kp _ _ (m1 _ (by simp)) hx⟩,?_,c.clo.same fun b o u e=>sg _ _ e,s',n,c.nd⟩
 ·exact(c.th i q T hq hT).keep sg s' (fun b o hb e=>kp b o (m2 b (thOwn_mem hq b hb)) e) fun b hb=>n b (m2 b (thOwn_mem hq b hb))
 ·have:=di.frame (H':=H') (fun b o hb e=>kp b o (m3 b hb) e) (fun b o e=>s' _ _ (sg _ _ e))
  exact⟨this.po,this.ta,this.wy,this.ways,fun l hl=>sg _ _ (di.lets l hl),s',di.nd,fun b hb=>n b (m3 b hb)⟩
theorem LoC.deed (c:LoC K t G H L A) {j:Nat}{q:ThL}{T':ThA}(hq:L.ths[j]? = some q) (g:Grow H G G' H') (bt:But [q.p,q.dn] H H') (th:Th K t G' H' q T'):LoC K t G' H' L { A with ths:=A.ths.set j T' }:=by
 obtain⟨d1,d2,d3,d4⟩:=c.nd3
 have gn:∀ b∈L.own A,G' b=none:=fun b hb=>g.free (c.somes b hb) (c.gn b hb)
 have qin:∀ b∈[q.p,q.dn],b∈thOwn L.ths:=fun b hb=>thOwn_mem hq b (by
  simp only[List.mem_cons,List.not_mem_nil,or_false] at hb ⊢
  rcases hb with h|h
  ·exact .inl h
  ·exact .inr (.inl h))
 have n1:∀ b∈[L.p,L.lt,L.lg],b∉[q.p,q.dn]:=fun b hb z=>(d3 b hb).1 (qin b z)
 have n2:∀ b∈L.D.own A.A,b∉[q.p,q.dn]:=fun b hb z=>d4 b (qin b z) hb
 obtain⟨xs,hx⟩:=c.log
 refine⟨bt _ _ (n1 _ (by simp)) c.self,bt _ _ (n1 _ (by simp)) c.tl,fun i r T hr hT=>?_,c.len1,by rw[List.length_set];exact c.len2,⟨xs,bt _ _ (n1 _ (by simp)) hx⟩,?_,c.clo.same fun b o u e=>g.sub _ _ e,g.held,gn,c.nd⟩
 ·by_cases e:i=j
  ·subst e
   rw[hq] at hr;cases hr
   have hi:i<A.ths.length:=by
    have:=(List.getElem?_eq_some_iff.mp hq).1
    rw[c.len2,← c.len1];exact this
   have hT':(A.ths.set i T')[i]? = some T:=hT
   rw[List.getElem?_set_self hi] at hT'
   cases hT'
   exact th
  ·have hT':(A.ths.set j T')[i]? = some T:=hT
   rw[List.getElem?_set_ne (Ne.symm e)] at hT'
   refine(c.th i r T hr hT').keep g.sub g.held (fun b o hb z=>bt b o (fun y=>?_) z) fun b hb=>gn b (List.mem_append_right _ (List.mem_append_left _ (thOwn_mem hr b hb)))
   exact thOwn_ne d2 hr hq e b hb (by
    simp only[List.mem_cons,List.not_mem_nil,or_false] at y ⊢
    rcases y with h|h
    ·exact .inl h
    ·exact .inr (.inl h))
 ·have:=c.di.frame (H':=H') (fun b o hb e=>bt b o (n2 b hb) e) (fun b o e=>g.held _ _ (g.sub _ _ e))
  exact⟨this.po,this.ta,this.wy,this.ways,fun l hl=>g.sub _ _ (c.di.lets l hl),g.held,c.di.nd,fun b hb=>gn b (List.mem_append_right _ (List.mem_append_right _ hb))⟩
theorem LoC.setDi (c:LoC K t G H L A) {D':DiA}(bt:But (L.D.own A.A) H H') (d':Di G H' L.D D') (fr:∀ b∈L.D.own D',b∈L.D.own A.A∨H b=none):LoC K t G H' L { A with A:=D' }:=by
 obtain⟨d1,d2,d3,d4⟩:=c.nd3
 obtain⟨xs,hx⟩:=c.log
 have dis:∀ b∈[L.p,L.lt,L.lg]++thOwn L.ths,b∉L.D.own D':=fun b hb z=>by
  rcases fr b z with y|y
  ·rcases List.mem_append.mp hb with hb|hb
   ·exact(d3 b hb).2 y
   ·exact d4 b hb y
  ·refine c.somes b ?_ y
   unfold LoL.own
   rcases List.mem_append.mp hb with hb|hb
   ·exact List.mem_append_left _ hb
   ·exact List.mem_append_right _ (List.mem_append_left _ hb)
 refine⟨bt _ _ (d3 _ (by simp)).2 c.self,bt _ _ (d3 _ (by simp)).2 c.tl,fun i q T hq hT=>?_,c.len1,c.len2,⟨xs,bt _ _ (d3 _ (by simp)).2 hx⟩,d',c.clo,d'.held,fun b hb=>?_,?_⟩
 ·exact(c.th i q T hq hT).keep (.refl _) d'.held (fun b o hb e=>bt b o (d4 b (thOwn_mem hq b hb)) e) fun b hb=>c.gn b (List.mem_append_right _ (List.mem_append_left _ (thOwn_mem hq b hb)))
 ·unfold LoL.own at hb
  rcases List.mem_append.mp hb with hb|hb
  ·exact c.gn b (List.mem_append_left _ hb)
  ·rcases List.mem_append.mp hb with hb|hb
   ·exact c.gn b (List.mem_append_right _ (List.mem_append_left _ hb))
   ·exact d'.gn b hb
 ·unfold LoL.own
  refine List.nodup_append.mpr ⟨d1,List.nodup_append.mpr ⟨d2,d'.nd,fun a ha b hb z=>?_⟩,fun a ha b hb z=>?_⟩
  ·rw[← z] at hb;exact dis a (List.mem_append_right _ ha) hb
  ·rw[← z] at hb
   rcases List.mem_append.mp hb with hb|hb
   ·exact(d3 a ha).1 hb
   ·exact dis a (List.mem_append_left _ ha) hb
theorem freeze_more (s:Same G H) (S:List Addr) (hS:∀ b∈S,∃ xs,H b=some (.tup xs)):∃ G1,Same G G1∧Same G1 H∧(∀ b∈S,G1 b=H b)∧∀ b,G b=none→(∀ xs,H b≠some (.tup xs))→G1 b=none:=by
 classical
 refine⟨fun b=>if b∈S then H b else G b,fun b o e=>?_,fun b o e=>?_,fun b hb=>if_pos hb,fun b e n=>?_⟩
 ·by_cases h:b∈S
  ·show (if b∈S then H b else G b)=_
   rw[if_pos h];exact s _ _ e
  ·show (if b∈S then H b else G b)=_
   rw[if_neg h];exact e
 ·by_cases h:b∈S
  ·have e':(if b∈S then H b else G b)=some o:=e
   rw[if_pos h] at e';exact e'
  ·have e':(if b∈S then H b else G b)=some o:=e
   rw[if_neg h] at e';exact s _ _ e'
 ·show (if b∈S then H b else G b)=_
  by_cases h:b∈S
  ·obtain⟨xs,z⟩:=hS b h
   exact absurd z (n xs)
  ·rw[if_neg h];exact e
theorem LoC.notup (c:LoC K t G H L A):∀ b∈L.own A,∀ xs,H b≠some (.tup xs):=fun b hb ys e=>by
 unfold LoL.own at hb
 rcases List.mem_append.mp hb with hb|hb
 ·simp only[List.mem_cons,List.not_mem_nil,or_false] at hb
  obtain⟨xs,hx⟩:=c.log
  rcases hb with rfl|rfl|rfl
  ·rw[c.self] at e;cases e
  ·rw[c.tl] at e;cases e
  ·rw[hx] at e;cases e
 ·rcases List.mem_append.mp hb with hb|hb
  ·obtain⟨q,hq,hb⟩:=List.mem_flatMap.mp hb
   obtain⟨i,hi,rfl⟩:=List.getElem_of_mem hq
   have th:=c.th i L.ths[i] (A.ths[i]'(by rw[c.len2,← c.len1];exact hi)) (List.getElem?_eq_getElem hi) (List.getElem?_eq_getElem _)
   obtain⟨es,hd,_⟩:=th.done
   simp only[List.mem_cons,List.not_mem_nil,or_false] at hb
   rcases hb with rfl|rfl|rfl
   ·rw[th.self] at e;cases e
   ·rw[hd] at e;cases e
   ·rw[th.writ] at e;cases e
  ·obtain⟨kvs,e'⟩:=c.di.isd hb
   rw[e'] at e;cases e
end
structure Lo (K:W.Frag) (t:Adr) (G H:Hp) (L:LoL) (A:LoA) (n:Nat):Prop where
 c:LoC K t G H L A
 wf:WfD A.many (cnt A.ths) A.A
 lg:∃ xs,H L.lg=some (.lst xs)∧xs.length≤n
 tw:∀ T∈A.ths,TWf n T
 bn:A.A.po.length≤3*n∧A.A.wy.length≤3*n
 m2:2≤A.many∧A.many≤5
inductive How (H:Hp) (A:LoA) (h:Int):V→V→Prop
 | own:How H A h .non .non
 | use {b:Addr} {l:LetA}:H b=some (.tup (nV l.nm))→l∈A.A.po→l.nm∉A.A.ta.map (·.1)→l.to=h→How H A h (.ref b) (.int l.wd)
theorem cnt_at {ths:List ThA}{j:Nat}{T:ThA}(h:ths[j]? = some T):cnt ths j=T.evs.length:=by
 unfold cnt
 rw[Int.toNat_natCast,h]
theorem cnt_self {ths:List ThA}{j:Nat}{T:ThA}(h:j<ths.length):cnt (ths.set j T) j=T.evs.length:=cnt_at (List.getElem?_set_self h)
theorem cnt_le {ths:List ThA}{j:Nat}{T T':ThA}(h:ths[j]? = some T) (le:T.evs.length≤T'.evs.length) (x:Int):cnt ths x≤cnt (ths.set j T') x:=by
 have hj:j<ths.length:=(List.getElem?_eq_some_iff.mp h).1
 unfold cnt
 by_cases e:x.toNat=j
 ·rw[e,h,List.getElem?_set_self hj]
  dsimp only
  omega
 ·rw[List.getElem?_set_ne (Ne.symm e)]
  exact Int.le_refl _
theorem TWf.more {n:Nat}{T:ThA}(w:TWf n T):TWf (n+1) T:=⟨w.ws,w.rg,w.dn,by have:=w.en;omega,by have:=w.wn;omega⟩
theorem TWf.deed {n:Nat}{T:ThA}{Ev:EvA}(w:TWf n T):TWf (n+1) { T with evs:=T.evs++[Ev],down:=T.hab.deed T.down (T.evs.length+1) }:=by
 have dn:=w.dn
 refine⟨w.ws,fun z hz=>?_,?_,?_,by have:=w.wn;show T.ws.length≤_;omega⟩
 ·have:=w.rg z hz
  show 0≤z∧z≤((T.evs++[Ev]).length:Int)
  rw[List.length_append,List.length_singleton];omega
 ·show T.hab.deed T.down (T.evs.length+1)≤((T.evs++[Ev]).length:Int)
  rw[List.length_append,List.length_singleton]
  cases T.hab with
  | never=>show T.down≤_;omega
  | each=>show (T.evs.length:Int)+1≤_;omega
  | bundle m=>
   show (if (T.evs.length:Int)+1-T.down ≥ m then (T.evs.length:Int)+1 else T.down)≤((T.evs.length+1:Nat):Int)
   split<;>omega
 ·have:=w.en
  show (T.evs++[Ev]).length≤n+1
  rw[List.length_append,List.length_singleton];omega
theorem rp_letters {G:Hp}:∀ {ls:List (Addr×Int×Int)},(∀ x∈ls,G x.1=some (.tup [.int x.2.1,.int x.2.2]))→RpAll K G (ls.map fun x=>V.ref x.1) ((ls.map fun x=>[PyData.int x.2.1,PyData.int x.2.2]).map PyData.tuple)
 | [],_=>.nil
 | x::ls,h=>.cons (.tup (SqT.of (h x List.mem_cons_self)) (.cons (.int _) (.cons (.int _) .nil))) (rp_letters fun y hy=>h y (List.mem_cons_of_mem _ hy))
theorem rp_ints {G:Hp}:∀ {ns:List Int},RpAll K G (iV ns) (ns.map PyData.int)
 | []=>.nil
 | _::_=>.cons (.int _) rp_ints
def sp_av (K:W.Frag) (t:Adr):Sp:=fun vs H Q _=>∃ G L A n,∃ j:Nat,∃ v w,vs=[.ref L.p,.int j,v,w]∧Lo K t G H L A n∧n<30∧j<A.many∧How H A j v w ∧
 ∀ G' H' A',But (L.own A) H H'→Lo K t G' H' L A' (n+1)→A'.many=A.many→A'.ord=A.ord→(∃ xs,H L.lg=some (.lst xs)∧H' L.lg=some (.lst xs)∧xs.length≤n)→(∀ b∈L.own A',b∈L.own A∨H b=none)→Q .non H'
theorem ok_av (T:Txt K mg t):FnOk P w K mg base (CXr P w) 5 t.f_av t.fd_av ["self","hand","name","word"] (sp_av K t):=by
 refine T.F_av.okN sc_av (fun vs H Q E h=>?_) (fun cdv A outer s H vs Q E hr h=>?_)
 ·obtain⟨G,L,A,n,j,v,w,rfl,_⟩:=h;rfl
 ·obtain⟨G,L,A,n,j,v,w',rfl,lo,nn,hj,how,k⟩:=h
  refine⟨_,(pss_cons (ps_set (i:=4) sc_av.nd rfl (Or.inl rfl) (pe_ix (ix_listK (K:=K)) (pe_fldK (K:=K) (pv 0) rfl) (pv 1) (fun _ _=>rfl)))
   (pss_cons (ps_set (i:=5) sc_av.nd rfl (Or.inl rfl) (pe_callF (ok_ap T) (hr.mono (by decide)) (pv 0) T.cl_Loom T.na_cf passr0 (pa_c (pv 1) (pa_c (pe_meth (pv 4) T.cl_Thread T.me_ai (ok_ai T) (hr.mono (by decide)) T.b_ai .nil passr0 (pa_c (pe_meth0 (pv 4) T.cl_Thread T.me_bc (ok_bc T) (hr.mono (by decide)) T.b_bc .nil passr0) pa_nil)) (pa_c (pv 3) pa_nil)))))
   (pss_cons (ps_set (i:=6) sc_av.nd rfl (Or.inl rfl) (pe_make T.mk_Event (ok_bn T) (hr.mono (by decide)) rfl T.mg_Event T.b_bn .nil passr0 (pa_c (pv 2) (pa_c (pe_ix (ix_tupK (K:=K)) (pv 5) pe_int (fun _ _=>rfl)) (pa_c (pe_ix (ix_tupK (K:=K)) (pv 5) pe_int (fun _ _=>rfl)) (pa_c (pe_ix (ix_tupK (K:=K)) (pv 5) pe_int (fun _ _=>rfl)) pa_nil))))))
   (pss_cons (ps_expr (pe_meth (pv 4) T.cl_Thread T.me_bx (ok_bx T) (hr.mono (by decide)) T.b_bx .nil passr0 (pa_c (pv 6) pa_nil)))
   (pss_cons (ps_if (pt_cmpR op_notN (pv 2) pe_non (nomark _))
    (pss_cons (ps_dput (hu_of hr) (pe_fldK (K:=K) (pv 0) rfl) (pv 2) (pe_meth0 (pv 4) T.cl_Thread T.me_bc (ok_bc T) (hr.mono (by decide)) T.b_bc .nil passr0) rfl)
   (pss_one (ps_expr (pe_bmK (K:=K) PySem.F.plainAttrs_dict PySem.F.slot_dict_pop PySem.F.type_dict_pop (mt_popT (hu_of hr)) (pe_dget (hu_of hr) (pe_fldK (K:=K) (pv 0) rfl) (pe_tup (pa_c (pe_ix (ix_tupK (K:=K)) (pv 2) pe_int (fun _ _=>rfl)) (pa_c (pv 1) pa_nil))) (fun _ _=>rfl)) (pa_c (pv 2) pa_nil)))))
    pss_nil)
   (pss_one (ps_expr (pe_meth (pv 0) T.cl_Loom T.me_bz (ok_bz T) (hr.mono (by decide)) T.b_bz .nil passr0 (pa_c (pv 1) (pa_c (pe_meth0 (pv 4) T.cl_Thread T.me_bc (ok_bc T) (hr.mono (by decide)) T.b_bc .nil passr0) (pa_c (pe_fldK (K:=K) (pv 6) rfl) pa_nil))))))))))),?_⟩
  obtain⟨q,hq⟩:∃ q,L.ths[j]? = some q:=⟨_,List.getElem?_eq_getElem (by rw[lo.c.len1];exact hj)⟩
  obtain⟨T0,hT⟩:∃ T0,A.ths[j]? = some T0:=⟨_,List.getElem?_eq_getElem (by rw[lo.c.len2];exact hj)⟩
  have th:=lo.c.th j q T0 hq hT
  obtain⟨es,hd,evs⟩:=th.done
  have tw:=lo.tw T0 (List.mem_of_getElem? hT)
  obtain⟨w0,ws,ew⟩:=tw.ws
  have le:(es.length:Int)=T0.evs.length:=by rw[evs.1]
  have m2:=lo.m2
  have hqs:(L.ths.map fun q=>V.ref q.p)[j]? = some (.ref q.p):=by rw[List.getElem?_map,hq];rfl
  refine⟨_,rfl,L.p,_,L.dx,_,_,rfl,lo.c.self,T.cl_Loom,T.na_az,rfl,_,rfl,L.lt,_,j,.ref q.p,rfl,rfl,SqL.of lo.c.tl,atI_nat hqs,?_⟩
  refine⟨_,rfl,L.p,L.dx,_,L.dz,_,rfl,lo.c.self,rfl,lo.c.clo.same (fun b o u e=>lo.c.held _ _ e),?_⟩
  refine⟨_,rfl,_,rfl,q.p,q.dx,_,rfl,th.self,rfl,_,rfl,q.p,q.dx,_,rfl,th.self,rfl,q.p,q.dx,_,q.ha,q.dn,q.wr,_,es,rfl,th.self,SqL.of hd,?_⟩
  refine⟨G,q.p,q.dx,_,q.ha,q.dn,q.wr,_,w0,ws,es,T0.evs,es.length,rfl,th.held,th.self,by rw[← ew];exact th.writ,hd,evs,fun z hz=>by rw[le];exact tw.rg z (by rw[ew];exact hz),by rw[le];exact tw.dn,fun _=>?_,fun z=>absurd (.inl rfl) z⟩
  refine⟨_,rfl,.refl _,A.cell,A.many,_,_,_,rfl,rfl,A.cell,A.many,j,_,w',rfl,by omega,by omega,by omega,by omega,by cases how with|own=>exact .inl rfl|use _ _ _ _=>exact .inr ⟨_,rfl⟩,fun H1 r st' l1 l2 ls ws' s1 hr1 h1 few hls h2 lw=>?_⟩
  refine⟨_,rfl,_,rfl,r,_,0,_,rfl,rfl,SqT.of hr1,rfl,_,rfl,r,_,1,_,rfl,rfl,SqT.of hr1,rfl,_,rfl,r,_,2,_,rfl,rfl,SqT.of hr1,rfl,fun e dxe ne nde nd=>?_⟩
  obtain⟨Sn,hSn,u,rpu⟩:∃ Sn:List Addr,(∀ b∈Sn,∃ xs,H b=some (.tup xs))∧∃ u,∀ G1:Hp,(∀ b∈Sn,G1 b=H b)→Rp K G1 v u:=by
   cases how with
   | own=>exact⟨[],(fun b hb=>by cases hb),.none,fun _ _=>.non⟩
   | @use b l hb _ _ _=>exact⟨[b],(fun c hc=>by rw[List.mem_singleton] at hc;rw[hc];exact⟨_,hb⟩),_,fun G1 h=>nm_rp (by rw[h b (by simp)];exact hb)⟩
  obtain⟨G1,z1,z2,z3,z4⟩:=freeze_more (lo.c.held.trans s1) (Sn++ls.map (·.1)) fun b hb=>by
   rcases List.mem_append.mp hb with hb|hb
   ·obtain⟨xs,y⟩:=hSn b hb
    exact⟨xs,s1 _ _ y⟩
   ·obtain⟨x,hx,rfl⟩:=List.mem_map.mp hb
    exact⟨_,(hls x hx).1⟩
  have c1:LoC K t G1 H1 L A:=lo.c.frame z1 z2 (fun b o _ y=>s1 _ _ y) fun b hb=>z4 b (lo.c.gn b hb) fun xs y=>by
   cases y':H b with
   | none=>exact lo.c.somes b hb y'
   | some o=>
    rw[s1 _ _ y'] at y
    cases y
    exact lo.c.notup b hb _ y'
  refine⟨e,dxe,v,st',l1,l2,_,_,rfl,upd_same,SqL.of (Same.ins ne nde _ _ h1),by rw[List.length_map];omega,fun x hx=>?_,SqL.of (Same.ins ne nde _ _ h2),fun m1 m2 H5 nm1 nm2 nm12 hH5=>⟨rfl,?_⟩⟩
  ·obtain⟨y,hy,rfl⟩:=List.mem_map.mp hx
   exact⟨y.1,_,rfl,SqT.of (Same.ins ne nde _ _ (hls y hy).1)⟩
  have r2:RpAll K G1 (ls.map fun x=>V.ref x.1) ((ls.map fun x=>[PyData.int x.2.1,PyData.int x.2.2]).map PyData.tuple):=rp_letters fun x hx=>by rw[z3 x.1 (List.mem_append_right _ (List.mem_map_of_mem hx))];exact(hls x hx).1
  obtain⟨G2,g2,s5,evo⟩:=ev_new (K:=K) (Ev:=⟨u,st',ls.map (fun x:Addr×Int×Int=>[PyData.int x.2.1,PyData.int x.2.2]),ws'.map PyData.int⟩) z2 ne nde nm1 nm2 nm12 hH5 (rpu G1 fun b hb=>by
   rw[z3 b (List.mem_append_left _ hb)]
   obtain⟨xs,y⟩:=hSn b hb
   rw[y,s1 _ _ y]) r2 (by rw[List.length_map];omega) rp_ints
  have c2:LoC K t G2 H5 L A:=c1.frame g2.sub g2.held (fun b o _ y=>s5 _ _ y) fun b hb=>g2.free (c1.somes b hb) (c1.gn b hb)
  have th2:=c2.th j q T0 hq hT
  have he5:H5 e=some (.ins t.c_Event dxe (evF v st' m1 m2)):=by rw[hH5 e,if_pos rfl]
  have m1e:m1≠e:=fun y=>by rw[y,upd_same] at nm1;cases nm1
  have hm5:H5 m1=some (.lst (ls.map fun x=>V.ref x.1)):=by rw[hH5 m1,if_neg m1e,if_pos rfl]
  have ge2:G2 e=some (.ins t.c_Event dxe (evF v st' m1 m2)):=by
   obtain⟨dx1,v1,a1,a2,xs1,ys1,y,_⟩:=evo
   rw[g2.held _ _ y] at he5
   rw[y];exact he5
  have gm2:G2 m1=some (.lst (ls.map fun x=>V.ref x.1)):=by
   obtain⟨dx1,v1,a1,a2,xs1,ys1,y,_,y2,_⟩:=evo
   rw[g2.held _ _ y] at he5
   have:=congrArg (fun o=>match o with|some (HO.ins _ _ fs)=>fs.lookup ("sent" : Str)|_=>none) he5
   have q1:some (V.ref a1)=some (V.ref m1):=by
    have:(evF v1 st' a1 a2).lookup ("sent" : Str)=(evF v st' m1 m2).lookup ("sent" : Str):=this
    rwa [evF_sent,evF_sent] at this
   cases q1
   rw[g2.held _ _ y2] at hm5
   rw[y2];exact hm5
  refine⟨_,rfl,q.p,q.dx,_,rfl,th2.self,rfl,_,rfl,G2,q,T0,e,_,rfl,th2,evo,by have:=tw.en;omega,fun G3 H6 g3 b3 th3=>?_⟩
  have c3:=c2.deed hq g3 b3 th3
  obtain⟨T',hT'⟩:∃ T',T'={ T0 with evs:=T0.evs++[(⟨u,st',ls.map (fun x:Addr×Int×Int=>[PyData.int x.2.1,PyData.int x.2.2]),ws'.map PyData.int⟩:EvA)],down:=T0.hab.deed T0.down (T0.evs.length+1) }:=⟨_,rfl⟩
  rw[← hT'] at th3 c3
  have el':T'.evs.length=T0.evs.length+1:=by rw[hT'];simp
  have twf':TWf (n+1) T':=by
   rw[hT']
   exact tw.deed
  have wf3:WfD A.many (cnt (A.ths.set j T')) A.A:=lo.wf.mono fun x=>cnt_le hT (by omega) x
  obtain⟨lx,lgx,lln⟩:=lo.lg
  have d3:=lo.c.nd3
  have qI:∀ b∈[q.p,q.dn],b∈L.own A:=fun b hb=>List.mem_append_right _ (List.mem_append_left _ (thOwn_mem hq b (by
   simp only[List.mem_cons,List.not_mem_nil,or_false] at hb ⊢
   rcases hb with h|h
   ·exact .inl h
   ·exact .inr (.inl h))))
  have bt6:But (L.own A) H H6:=fun b o nb y=>b3 b o (fun z=>nb (qI b z)) (s5 _ _ (s1 _ _ y))
  have lg6:H6 L.lg=some (.lst lx):=b3 _ _ (fun z=>(d3.2.2.1 L.lg (by simp)).1 (thOwn_mem hq _ (by
   simp only[List.mem_cons,List.not_mem_nil,or_false] at z ⊢
   rcases z with h|h
   ·exact .inl h
   ·exact .inr (.inl h)))) (s5 _ _ (s1 _ _ lgx))
  have he6:H6 e=some (.ins t.c_Event dxe (evF v st' m1 m2)):=g3.held _ _ (g3.sub _ _ ge2)
  have hm6:H6 m1=some (.lst (ls.map fun x=>V.ref x.1)):=g3.held _ _ (g3.sub _ _ gm2)
  have hTj:(A.ths.set j T')[j]? = some T':=List.getElem?_set_self (by rw[lo.c.len2];exact hj)
  have nfew:=lo.bn
  cases how with
  | own=>
   refine⟨_,rfl,rfl,_,rfl,iteFe rfl ?_⟩
   obtain⟨A1,hA1⟩:∃ A1,A1=A.A:=⟨_,rfl⟩
   have c7:LoC K t G3 H6 L { A with ths:=A.ths.set j T',A:=A1 }:=by rw[hA1];exact c3
   have wf7:WfD A.many (cnt (A.ths.set j T')) A1:=by rw[hA1];exact wf3
   have po7:A1.po=A.A.po:=by rw[hA1]
   have wl7:A1.wy.length=A.A.wy.length:=by rw[hA1]
   have fr7:∀ b∈L.D.own A1,b∈L.D.own A.A∨H b=none:=fun b hb=>.inl (by rw[hA1] at hb;exact hb)
   have th7:=c7.th j q T' hq hTj
   obtain⟨es7,hd7,ev7⟩:=th7.done
   have l7:es7.length=T0.evs.length+1:=by rw[ev7.1,el']
   have bt7:=bt6
   have lg7:=lg6
   have he7:=he6
   have hm7:=hm6
   refine⟨_,rfl,L.p,L.dx,_,rfl,c7.self,rfl,_,rfl,_,rfl,q.p,q.dx,_,rfl,th7.self,rfl,q.p,q.dx,_,q.ha,q.dn,q.wr,_,es7,rfl,th7.self,SqL.of hd7,_,rfl,e,_,dxe,_,_,rfl,he7,T.cl_Event,T.na_bu,evF_sent,?_⟩
   refine⟨G3,L.p,L.dx,L.dz,A.many,A.ord,L.lt,L.lg,L.D,A1,m1,j,es7.length,ls,A.many,cnt (A.ths.set j T'),rfl,c7.self,c7.di,wf7,(c7.nd3.2.2.1 L.p (by simp)).2,fun z=>?_,SqL.of hm7,few,fun x hx=>⟨g3.sub _ _ (g2.sub _ _ (by rw[z3 x.1 (List.mem_append_right _ (List.mem_map_of_mem hx))];exact(hls x hx).1)),(hls x hx).2⟩,by omega,by omega,by omega,by rw[cnt_self (by rw[lo.c.len2];exact hj)];omega,fun l' hl' el'=>?_,by rw[po7];omega,by rw[wl7];omega,fun H8 A8 b8 d8 w8 e1 e2 e3 fr8=>?_⟩
   ·obtain⟨kvs,y⟩:=c7.di.isd z
    rw[hm7] at y;cases y
   ·rw[po7] at hl'
    have:=lo.wf.rg l' hl'
    rw[el',cnt_at hT] at this
    omega
   have in1:∀ b,b∈L.D.own A1→H b≠none→b∈L.own A:=fun b hb nb=>by
    rcases fr7 b hb with y|y
    ·exact List.mem_append_right _ (List.mem_append_right _ y)
    ·exact absurd y nb
   have bt8:But (L.own A) H H8:=fun b o nb z=>b8 b o (fun y=>nb (in1 b y (by rw[z];simp))) (bt7 b o nb z)
   refine k G3 H8 { A with ths:=A.ths.set j T',A:=A8 } bt8 ⟨c7.setDi b8 d8 fr8,w8,⟨lx,b8 _ _ (c7.nd3.2.2.1 L.lg (by simp)).2 lg7,by omega⟩,fun T1 hT1=>?_,⟨?_,?_⟩,lo.m2⟩ rfl rfl ⟨lx,lgx,b8 _ _ (c7.nd3.2.2.1 L.lg (by simp)).2 lg7,lln⟩ fun b hb=>?_
   ·rcases List.mem_or_eq_of_mem_set hT1 with y|y
    ·exact(lo.tw T1 y).more
    ·rw[y];exact twf'
   ·show A8.po.length≤_
    have:=lo.bn.1
    rw[e2,po7];omega
   ·show A8.wy.length≤_
    have:=lo.bn.2
    rw[wl7] at e3;omega
   ·rcases List.mem_append.mp (show b∈[L.p,L.lt,L.lg]++(thOwn L.ths++L.D.own A8) from hb) with y|y
    ·exact .inl (List.mem_append_left _ y)
    ·rcases List.mem_append.mp y with y|y
     ·exact .inl (List.mem_append_right _ (List.mem_append_left _ y))
     ·rcases fr8 b y with y|y
      ·rcases fr7 b y with y|y
       ·exact .inl (List.mem_append_right _ (List.mem_append_right _ y))
       ·exact .inr y
      ·by_cases nb:b∈L.own A
       ·exact .inl nb
       ·cases hb':H b with
        | none=>exact .inr rfl
        | some o=>rw[bt7 b o nb hb'] at y;cases y
  | @use b l hb hl nt to=>
   refine⟨_,rfl,rfl,_,rfl,iteTe rfl ?_⟩
   have th6:=c3.th j q T' hq hTj
   obtain⟨es6,hd6,ev6⟩:=th6.done
   have l6:es6.length=T0.evs.length+1:=by rw[ev6.1,el']
   have nbo:∀ c∈L.own A,b≠c:=fun c hc y=>lo.c.notup c hc (nV l.nm) (by rw[← y];exact hb)
   have hb6:H6 b=some (.tup ((nk l.nm).map kV)):=bt6 _ _ (fun y=>nbo b y rfl) hb
   have v1:valV (A.A.ta.map fun e=>(nk e.1,V.int e.2)) (nk l.nm)=none:=vm_none (fun e:Nm3×Int=>nk e.1) (fun e=>V.int e.2) fun e he y=>nt (by rw[← nk_inj _ _ y];exact List.mem_map_of_mem he)
   have lta:A.A.ta.length≤A.A.po.length:=by
    have:=nd_sub (b:=A.A.po.map (·.nm)) lo.wf.nt fun z hz=>by
     obtain⟨e,he,rfl⟩:=List.mem_map.mp hz
     obtain⟨l',hl',y,_⟩:=lo.wf.tp e he
     rw[← y];exact List.mem_map_of_mem hl'
    rwa [List.length_map,List.length_map] at this
   refine⟨_,rfl,q.p,q.dx,_,rfl,th6.self,rfl,q.p,q.dx,_,q.ha,q.dn,q.wr,_,es6,rfl,th6.self,SqL.of hd6,_,rfl,L.p,_,L.dx,_,_,rfl,c3.self,T.cl_Loom,T.na_bw,rfl,_,rfl,L.D.ta,_,rfl,.inr ⟨_,nk l.nm,b,c3.di.ta,rfl,hb6,small1000 (by rw[List.length_map];show A.A.ta.length≤1000;omega),rfl⟩,?_⟩
   rw[putK_new _ v1]
   obtain⟨e0,he0,k0⟩:=lo.wf.wa l hl nt
   have taI:L.D.ta∈L.D.own A.A:=by unfold DiL.own;simp
   have wyI:L.D.wy∈L.D.own A.A:=by unfold DiL.own;simp
   have e0I:e0.2.1∈L.D.own A.A:=DiL.mem_wy he0
   have DI:∀ c,c∈L.D.own A.A→c∈L.own A:=fun c hc=>List.mem_append_right _ (List.mem_append_right _ hc)
   obtain⟨x1,x2,x3,x4,x5⟩:=c3.di.nes
   have pta:L.p≠L.D.ta:=fun y=>(d3.2.2.1 L.p (by simp)).2 (by rw[y];exact taI)
   have wta:L.D.wy≠L.D.ta:=Ne.symm x3
   have eta:e0.2.1≠L.D.ta:=(x4 e0 he0).2.1
   have bta:b≠L.D.ta:=nbo _ (DI _ taI)
   refine⟨_,rfl,L.p,_,L.dx,_,_,rfl,by rw[upd_ne pta];exact c3.self,T.cl_Loom,T.na_ch,rfl,_,rfl,b,nV l.nm,0,.int l.nm.1,rfl,rfl,SqT.of (by rw[upd_ne bta];exact hb6),atI_zero,_,rfl,by show 2≤sizeLine;decide,fun kb hkb=>?_⟩
   have v2:valV (A.A.wy.map fun e=>(wk e.1,V.ref e.2.1)) (wk (l.nm.1,(j:Int)))=some (.ref e0.2.1):=by
    rw[← to,← k0]
    exact vm_some (fun e=>wk e.1) (fun e=>V.ref e.2.1) (nd_comp (f:=fun x:(Int×Int)×Addr×List Nm3=>x.1) wk_inj lo.wf.wn) he0
   have v3:valV (e0.2.2.map fun n=>(nk n,V.bl true)) (nk l.nm)=some (.bl true):=vm_some nk (fun _=>V.bl true) (nd_id nk_inj (lo.wf.wd e0 he0)) ((lo.wf.wi e0 he0 l.nm).mpr ⟨l,hl,rfl,by rw[k0],by rw[k0],nt⟩)
   have up:∀ c o,c≠L.D.ta→H6 c=some o→upd (upd H6 L.D.ta (.dT ((A.A.ta.map fun e=>(nk e.1,V.int e.2))++[(nk l.nm,V.int es6.length)]))) kb (.tup [.int l.nm.1,.int j]) c=some o:=fun c o nc y=>by
    rw[upd_ne (ne_of_none (o:=o) (by rw[upd_ne nc];exact y) hkb),upd_ne nc];exact y
   have way6:=up _ _ eta (c3.di.ways e0 he0)
   have ta6:upd (upd H6 L.D.ta (.dT ((A.A.ta.map fun e=>(nk e.1,V.int e.2))++[(nk l.nm,V.int es6.length)]))) kb (.tup [.int l.nm.1,.int j]) L.D.ta=some (.dT ((A.A.ta.map fun e=>(nk e.1,V.int e.2))++[(nk l.nm,V.int es6.length)])):=by rw[upd_ne (ne_of_none upd_same hkb),upd_same]
   refine⟨L.D.wy,.ref e0.2.1,rfl,.inr ⟨_,wk (l.nm.1,(j:Int)),kb,.inl (up _ _ wta c3.di.wy),rfl,upd_same,v2.symm⟩,.inr (.inr (.inl ⟨rfl,.inr ⟨_,way6⟩⟩)),_,rfl,e0.2.1,b,_,nk l.nm,.bl true,rfl,rfl,way6,up _ _ bta hb6,v3,?_⟩
   rw[drop_names]
   obtain⟨d7,own7⟩:=c3.di.take (l:=l) (pl:=es6.length) (e0:=e0) (H':=upd (upd (upd H6 L.D.ta (.dT ((A.A.ta.map fun e=>(nk e.1,V.int e.2))++[(nk l.nm,V.int es6.length)]))) kb (.tup [.int l.nm.1,.int j])) e0.2.1 (.dT ((e0.2.2.filter fun x=>decide (x≠l.nm)).map fun n=>(nk n,V.bl true)))) lo.wf.wn he0 k0 (by rw[upd_ne (Ne.symm eta)];exact ta6) upd_same (fun c o n1 n2 _ y=>by rw[upd_ne n2];exact up c o n1 y) (fun c o y=>by rw[upd_ne (ne_of_none y (c3.di.gn _ e0I))];exact up c o (ne_of_none y (c3.di.gn _ taI)) (c3.di.held _ _ y))
   have b67:But (L.D.own A.A) H6 (upd (upd (upd H6 L.D.ta (.dT ((A.A.ta.map fun e=>(nk e.1,V.int e.2))++[(nk l.nm,V.int es6.length)]))) kb (.tup [.int l.nm.1,.int j])) e0.2.1 (.dT ((e0.2.2.filter fun x=>decide (x≠l.nm)).map fun n=>(nk n,V.bl true)))):=fun c o nc y=>by
    rw[upd_ne (fun z=>nc (by rw[z];exact e0I))];exact up c o (fun z=>nc (by rw[z];exact taI)) y
   generalize upd (upd (upd H6 L.D.ta (.dT ((A.A.ta.map fun e=>(nk e.1,V.int e.2))++[(nk l.nm,V.int es6.length)]))) kb (.tup [.int l.nm.1,.int j])) e0.2.1 (.dT ((e0.2.2.filter fun x=>decide (x≠l.nm)).map fun n=>(nk n,V.bl true)))=H7 at d7 b67 ⊢
   have wf7':WfD A.many (cnt (A.ths.set j T')) (A.A.take l es6.length):=wf3.take hl nt (by rw[to,cnt_self (by rw[lo.c.len2];exact hj)];omega)
   have c7':LoC K t G3 H7 L { A with ths:=A.ths.set j T',A:=A.A.take l es6.length }:=c3.setDi b67 d7 fun c hc=>.inl (by rw[own7] at hc;exact hc)
   obtain⟨A1,hA1⟩:∃ A1,A1=A.A.take l es6.length:=⟨_,rfl⟩
   rw[← hA1] at c7' wf7' own7
   have c7:=c7'
   have wf7:=wf7'
   have po7:A1.po=A.A.po:=by rw[hA1];rfl
   have wl7:A1.wy.length=A.A.wy.length:=by rw[hA1];show (wyDel _ _ _).length=_;unfold wyDel;rw[List.length_map]
   have fr7:∀ b∈L.D.own A1,b∈L.D.own A.A∨H b=none:=fun b hb=>.inl (by rw[own7] at hb;exact hb)
   have th7:=c7.th j q T' hq hTj
   obtain⟨es7,hd7,ev7⟩:=th7.done
   have l7:es7.length=T0.evs.length+1:=by rw[ev7.1,el']
   have bt7:But (L.own A) H H7:=fun c o nc y=>b67 c o (fun z=>nc (DI c z)) (bt6 c o nc y)
   have lg7:H7 L.lg=some (.lst lx):=b67 _ _ (d3.2.2.1 L.lg (by simp)).2 lg6
   have he7:H7 e=some (.ins t.c_Event dxe (evF (.ref b) st' m1 m2)):=c7.held _ _ (g3.sub _ _ ge2)
   have hm7:H7 m1=some (.lst (ls.map fun x=>V.ref x.1)):=c7.held _ _ (g3.sub _ _ gm2)
   refine⟨_,rfl,L.p,L.dx,_,rfl,c7.self,rfl,_,rfl,_,rfl,q.p,q.dx,_,rfl,th7.self,rfl,q.p,q.dx,_,q.ha,q.dn,q.wr,_,es7,rfl,th7.self,SqL.of hd7,_,rfl,e,_,dxe,_,_,rfl,he7,T.cl_Event,T.na_bu,evF_sent,?_⟩
   refine⟨G3,L.p,L.dx,L.dz,A.many,A.ord,L.lt,L.lg,L.D,A1,m1,j,es7.length,ls,A.many,cnt (A.ths.set j T'),rfl,c7.self,c7.di,wf7,(c7.nd3.2.2.1 L.p (by simp)).2,fun z=>?_,SqL.of hm7,few,fun x hx=>⟨g3.sub _ _ (g2.sub _ _ (by rw[z3 x.1 (List.mem_append_right _ (List.mem_map_of_mem hx))];exact(hls x hx).1)),(hls x hx).2⟩,by omega,by omega,by omega,by rw[cnt_self (by rw[lo.c.len2];exact hj)];omega,fun l' hl' el'=>?_,by rw[po7];omega,by rw[wl7];omega,fun H8 A8 b8 d8 w8 e1 e2 e3 fr8=>?_⟩
   ·obtain⟨kvs,y⟩:=c7.di.isd z
    rw[hm7] at y;cases y
   ·rw[po7] at hl'
    have:=lo.wf.rg l' hl'
    rw[el',cnt_at hT] at this
    omega
   have in1:∀ b,b∈L.D.own A1→H b≠none→b∈L.own A:=fun b hb nb=>by
    rcases fr7 b hb with y|y
    ·exact List.mem_append_right _ (List.mem_append_right _ y)
    ·exact absurd y nb
   have bt8:But (L.own A) H H8:=fun b o nb z=>b8 b o (fun y=>nb (in1 b y (by rw[z];simp))) (bt7 b o nb z)
   refine k G3 H8 { A with ths:=A.ths.set j T',A:=A8 } bt8 ⟨c7.setDi b8 d8 fr8,w8,⟨lx,b8 _ _ (c7.nd3.2.2.1 L.lg (by simp)).2 lg7,by omega⟩,fun T1 hT1=>?_,⟨?_,?_⟩,lo.m2⟩ rfl rfl ⟨lx,lgx,b8 _ _ (c7.nd3.2.2.1 L.lg (by simp)).2 lg7,lln⟩ fun b hb=>?_
   ·rcases List.mem_or_eq_of_mem_set hT1 with y|y
    ·exact(lo.tw T1 y).more
    ·rw[y];exact twf'
   ·show A8.po.length≤_
    have:=lo.bn.1
    rw[e2,po7];omega
   ·show A8.wy.length≤_
    have:=lo.bn.2
    rw[wl7] at e3;omega
   ·rcases List.mem_append.mp (show b∈[L.p,L.lt,L.lg]++(thOwn L.ths++L.D.own A8) from hb) with y|y
    ·exact .inl (List.mem_append_left _ y)
    ·rcases List.mem_append.mp y with y|y
     ·exact .inl (List.mem_append_right _ (List.mem_append_left _ y))
     ·rcases fr8 b y with y|y
      ·rcases fr7 b y with y|y
       ·exact .inl (List.mem_append_right _ (List.mem_append_right _ y))
       ·exact .inr y
      ·by_cases nb:b∈L.own A
       ·exact .inl nb
       ·cases hb':H b with
        | none=>exact .inr rfl
        | some o=>rw[bt7 b o nb hb'] at y;cases y
section
variable {G H G' H':Hp}{L:LoL}{A:LoA}
theorem LoC.setLog (c:LoC K t G H L A) {ys:List V}(bt:But [L.lg] H H') (h:H' L.lg=some (.lst ys)):LoC K t G H' L A:=by
 obtain⟨d1,d2,d3,d4⟩:=c.nd3
 have glg:G L.lg=none:=c.gn _ (List.mem_append_left _ (by simp))
 have held:Same G H':=fun b o e=>bt b o (by rw[List.mem_singleton];exact ne_of_none e glg) (c.held _ _ e)
 simp only[List.nodup_cons,List.mem_cons,List.not_mem_nil,or_false,not_or] at d1
 have n0:∀ b,b≠L.lg→b∉[L.lg]:=fun b h=>by rw[List.mem_singleton];exact h
 have dis:∀ b,(b∈thOwn L.ths∨b∈L.D.own A.A)→b≠L.lg:=fun b hb z=>by
  rcases hb with hb|hb
  ·exact(d3 L.lg (by simp)).1 (by rw[← z];exact hb)
  ·exact(d3 L.lg (by simp)).2 (by rw[← z];exact hb)
 refine⟨bt _ _ (n0 _ d1.1.2) c.self,bt _ _ (n0 _ d1.2.1) c.tl,fun i q T hq hT=>?_,c.len1,c.len2,⟨ys,h⟩,?_,c.clo,held,c.gn,c.nd⟩
 ·exact(c.th i q T hq hT).keep (.refl _) held (fun b o hb e=>bt b o (n0 _ (dis b (.inl (thOwn_mem hq b hb)))) e) fun b hb=>c.gn b (List.mem_append_right _ (List.mem_append_left _ (thOwn_mem hq b hb)))
 ·exact c.di.frame (fun b o hb e=>bt b o (n0 _ (dis b (.inr hb))) e) held
theorem Lo.same {n:Nat}(lo:Lo K t G H L A n) (s:Same H H'):Lo K t G H' L A n:=
 let ⟨xs,h,le⟩:=lo.lg
 ⟨lo.c.frame (.refl _) (lo.c.held.trans s) (fun b o _ e=>s _ _ e) lo.c.gn,lo.wf,⟨xs,s _ _ h,le⟩,lo.tw,lo.bn,lo.m2⟩
theorem Lo.note {n:Nat}(lo:Lo K t G H L A (n+1)) {ys:List V}(bt:But [L.lg] H H') (h:H' L.lg=some (.lst ys)) (le:ys.length≤n+1):Lo K t G H' L A (n+1):=
 ⟨lo.c.setLog bt h,lo.wf,⟨ys,h,le⟩,lo.tw,lo.bn,lo.m2⟩
theorem note_ok {n j:Nat}{r:Addr}{lx:List V}{Q:VK}{E:XK}(lo:Lo K t G H L A (n+1)) (hn:n<30) (hj:j<A.many) (hl:H L.lg=some (.lst lx)) (le:lx.length≤n) (k:∀ H',But [L.lg] H H'→Lo K t G H' L A (n+1)→Q .non H') :
  sp_ao t [.ref L.p,.int j,.ref r] H Q E:=by
 obtain⟨q,hq⟩:∃ q,L.ths[j]? = some q:=⟨_,List.getElem?_eq_getElem (by rw[lo.c.len1];exact hj)⟩
 obtain⟨T0,hT⟩:∃ T0,A.ths[j]? = some T0:=⟨_,List.getElem?_eq_getElem (by rw[lo.c.len2];exact hj)⟩
 have th:=lo.c.th j q T0 hq hT
 obtain⟨es,hd,evs⟩:=th.done
 have hqs:(L.ths.map fun q=>V.ref q.p)[j]? = some (.ref q.p):=by rw[List.getElem?_map,hq];rfl
 exact⟨L.p,L.dx,L.dz,A.many,A.ord,L.lt,L.lg,L.D,j,r,q.p,_,lx,q.dx,_,q.ha,q.dn,q.wr,_,es,rfl,lo.c.self,lo.c.tl,hl,by omega,hqs,th.self,hd,fun x H' b h=>k H' b (lo.note b h (by rw[List.length_append,List.length_singleton];omega))⟩
end
theorem cnt_few {ths:List ThA}{n:Nat}(h:∀ T∈ths,TWf n T) (x:Int):cnt ths x≤n:=by
 unfold cnt
 cases e:ths[x.toNat]? with
 | none=>dsimp only;omega
 | some T=>
  have:=(h T (List.mem_of_getElem? e)).en
  dsimp only;omega
def sp_ck (K:W.Frag) (t:Adr):Sp:=fun vs H Q _=>∃ G L A n,∃ j:Nat,vs=[.ref L.p,.int j]∧Lo K t G H L A n∧n<30∧j<A.many ∧
 ∀ G' H' A',But (L.own A) H H'→Lo K t G' H' L A' (n+1)→A'.many=A.many→A'.ord=A.ord→(∀ b∈L.own A',b∈L.own A∨H b=none)→Q .non H'
theorem ok_ck (T:Txt K mg t):FnOk P w K mg base (CXr P w) 6 t.f_ck t.fd_ck ["self","hand"] (sp_ck K t):=by
 refine T.F_ck.okN sc_ck (fun vs H Q E h=>?_) (fun cdv A outer s H vs Q E hr h=>?_)
 ·obtain⟨G,L,A,n,j,rfl,_⟩:=h;rfl
 ·obtain⟨G,L,A,n,j,rfl,lo,nn,hj,k⟩:=h
  refine⟨_,(pss_cons (ps_expr (pe_meth (pv 0) T.cl_Loom T.me_aj (ok_aj T) (hr.mono (by decide)) T.b_aj .nil passr0 (pa_c (pv 1) pa_nil)))
   (pss_cons (ps_expr (pe_meth (pv 0) T.cl_Loom T.me_av (ok_av T) (hr.mono (by decide)) T.b_av .nil passr0 (pa_c (pv 1) (pa_c pe_non (pa_c pe_non pa_nil)))))
   (pss_one (ps_expr (pe_meth (pv 0) T.cl_Loom T.me_ao (ok_ao T) (hr.mono (by decide)) T.b_ao .nil passr0 (pa_c (pv 1) (pa_c (pe_tup (pa_c pe_str (pa_c (pv 1) pa_nil))) pa_nil))))))),?_⟩
  refine⟨_,rfl,L.p,L.dx,_,rfl,lo.c.self,rfl,_,rfl,L.p,L.dx,L.dz,A.many,A.ord,L.lt,L.lg,L.D,j,rfl,lo.c.self,by omega,by omega,?_⟩
  refine⟨_,rfl,L.p,L.dx,_,rfl,lo.c.self,rfl,_,rfl,G,L,A,n,j,.non,.non,rfl,lo,nn,hj,.own,fun G' H' A' bt lo' em eo lgs fr=>?_⟩
  obtain⟨lx,_,lg',ll⟩:=lgs
  refine⟨_,rfl,L.p,L.dx,_,rfl,lo'.c.self,rfl,_,rfl,_,rfl,by show 2≤sizeLine;decide,fun r hr=>?_⟩
  have s2:Same H' (upd H' r (.tup [.str "own",.int j])):=Same.new hr
  refine note_ok (E:=fun _ _ _=>False) (lo'.same s2) nn (by rw[em];exact hj) (s2 _ _ lg') ll fun H3 b3 lo3=>k G' H3 A' (fun b o nb e=>b3 b o (fun z=>nb ?_) (s2 _ _ (bt b o nb e))) lo3 em eo fr
  rw[List.mem_singleton] at z
  rw[z];exact List.mem_append_left _ (by simp)
def sp_cl (K:W.Frag) (t:Adr):Sp:=fun vs H Q _=>∃ G L A n,∃ j:Nat,∃ b l,vs=[.ref L.p,.int j,.ref b]∧Lo K t G H L A n∧n<30∧j<A.many∧H b=some (.tup (nV l.nm))∧l∈A.A.po∧l.nm∉A.A.ta.map (·.1)∧l.to=j∧(A.ord=true→∀ l'∈A.A.po,l'.nm∉A.A.ta.map (·.1)→l'.nm.1=l.nm.1→l'.to=l.to→cd3 l.nm≤cd3 l'.nm) ∧
 ∀ G' H' A',But (L.own A) H H'→Lo K t G' H' L A' (n+1)→A'.many=A.many→A'.ord=A.ord→(∀ b∈L.own A',b∈L.own A∨H b=none)→Q .non H'
theorem ok_cl (T:Txt K mg t):FnOk P w K mg base (CXr P w) 6 t.f_cl t.fd_cl ["self","hand","name"] (sp_cl K t):=by
 refine T.F_cl.okN sc_cl (fun vs H Q E h=>?_) (fun cdv A outer s H vs Q E hr h=>?_)
 ·obtain⟨G,L,A,n,j,b,l,rfl,_⟩:=h;rfl
 ·obtain⟨G,L,A,n,j,b,l,rfl,lo,nn,hj,hb,hl,nt,to,od,k⟩:=h
  refine⟨_,(pss_cons (ps_expr (pe_meth (pv 0) T.cl_Loom T.me_aj (ok_aj T) (hr.mono (by decide)) T.b_aj .nil passr0 (pa_c (pv 1) pa_nil)))
   (pss_cons (ps_if (pt_not (pt_val (pe_meth (pv 0) T.cl_Loom T.me_as (ok_as T) (hr.mono (by decide)) T.b_as .nil passr0 (pa_c (pv 1) (pa_c (pv 2) pa_nil)))))
    (pss_one ps_never)
    pss_nil)
   (pss_cons (ps_expr (pe_meth (pv 0) T.cl_Loom T.me_av (ok_av T) (hr.mono (by decide)) T.b_av .nil passr0 (pa_c (pv 1) (pa_c (pv 2) (pa_c (pe_ix (ix_tupK (K:=K)) (pe_dget (hu_of hr) (pe_fldK (K:=K) (pv 0) rfl) (pv 2) (fun _ _=>rfl)) pe_int (fun _ _=>rfl)) pa_nil)))))
   (pss_one (ps_expr (pe_meth (pv 0) T.cl_Loom T.me_ao (ok_ao T) (hr.mono (by decide)) T.b_ao .nil passr0 (pa_c (pv 1) (pa_c (pe_tup (pa_c pe_str (pa_c (pv 1) (pa_c (pv 2) pa_nil)))) pa_nil)))))))),?_⟩
  obtain⟨e0,he0,k0⟩:=lo.wf.wa l hl nt
  have small:∀ l∈A.A.po,Small l.nm:=fun l hl=>by
   obtain⟨r1,r2,r3,r4,r5,r6,_⟩:=lo.wf.rg l hl
   have:=cnt_few lo.tw l.nm.1
   exact⟨by omega,by omega,by omega,by omega⟩
  refine⟨_,rfl,L.p,L.dx,_,rfl,lo.c.self,rfl,_,rfl,L.p,L.dx,L.dz,A.many,A.ord,L.lt,L.lg,L.D,j,rfl,lo.c.self,by omega,by omega,?_⟩
  refine⟨_,rfl,L.p,L.dx,_,rfl,lo.c.self,rfl,_,rfl,_,rfl,G,L.p,L.dx,L.dz,A.many,A.ord,L.lt,L.lg,L.D,A.A,j,b,l.nm,e0,rfl,lo.c.self,lo.c.di,hb,he0,lo.wf.wn,by rw[k0,to],(lo.wf.wi e0 he0 l.nm).mpr ⟨l,hl,rfl,by rw[k0],by rw[k0],nt⟩,lo.wf.wd e0 he0,fun m hm=>?_,fun ot m hm=>?_,fun H1 s1=>⟨true,rfl,iteF ?_⟩⟩
  ·obtain⟨l',hl',rfl,_⟩:=(lo.wf.wi e0 he0 m).mp hm
   exact small l' hl'
  ·obtain⟨l',hl',rfl,z1,z2,z3⟩:=(lo.wf.wi e0 he0 m).mp hm
   exact od ot l' hl' z3 (by rw[z1,k0]) (by rw[z2,k0])
  have lo1:=lo.same s1
  have v1:valV (A.A.po.map fun l=>(nk l.nm,V.ref l.adr)) (nk l.nm)=some (.ref l.adr):=vm_some (fun l:LetA=>nk l.nm) (fun l=>V.ref l.adr) (nd_comp (f:=LetA.nm) nk_inj lo.wf.nd) hl
  refine⟨_,rfl,L.p,L.dx,_,rfl,lo1.c.self,rfl,_,rfl,_,rfl,_,rfl,L.p,_,L.dx,_,_,rfl,lo1.c.self,T.cl_Loom,T.na_bk,rfl,_,rfl,L.D.po,.ref l.adr,rfl,.inr ⟨_,nk l.nm,b,.inl lo1.c.di.po,rfl,s1 _ _ hb,v1.symm⟩,l.adr,_,1,.int l.wd,rfl,rfl,SqT.of (lo1.c.held _ _ (lo1.c.di.lets l hl)),rfl,?_⟩
  refine⟨G,L,A,n,j,.ref b,.int l.wd,rfl,lo1,nn,hj,.use (s1 _ _ hb) hl nt to,fun G' H' A' bt lo' em eo lgs fr=>?_⟩
  obtain⟨lx,_,lg',ll⟩:=lgs
  refine⟨_,rfl,L.p,L.dx,_,rfl,lo'.c.self,rfl,_,rfl,_,rfl,_,rfl,by show 3≤sizeLine;decide,fun r hr=>?_⟩
  have s2:Same H' (upd H' r (.tup [.str "use",.int j,.ref b])):=Same.new hr
  refine note_ok (E:=fun _ _ _=>False) (lo'.same s2) nn (by rw[em];exact hj) (s2 _ _ lg') ll fun H3 b3 lo3=>k G' H3 A' (fun b o nb e=>b3 b o (fun z=>nb ?_) (s2 _ _ (bt b o nb (s1 _ _ e)))) lo3 em eo fun b hb=>(fr b hb).elim .inl fun z=>.inr (s1.free z)
  rw[List.mem_singleton] at z
  rw[z];exact List.mem_append_left _ (by simp)
theorem LoC.deed3 {G H G' H':Hp}{L:LoL}{A:LoA}(c:LoC K t G H L A) {j:Nat}{q:ThL}{T':ThA}(hq:L.ths[j]? = some q) (g:Grow H G G' H') (bt:But [q.p,q.dn,q.wr] H H') (th:Th K t G' H' q T'):LoC K t G' H' L { A with ths:=A.ths.set j T' }:=by
 obtain⟨d1,d2,d3,d4⟩:=c.nd3
 have gn:∀ b∈L.own A,G' b=none:=fun b hb=>g.free (c.somes b hb) (c.gn b hb)
 have qin:∀ b∈[q.p,q.dn,q.wr],b∈thOwn L.ths:=thOwn_mem hq
 have n1:∀ b∈[L.p,L.lt,L.lg],b∉[q.p,q.dn,q.wr]:=fun b hb z=>(d3 b hb).1 (qin b z)
 have n2:∀ b∈L.D.own A.A,b∉[q.p,q.dn,q.wr]:=fun b hb z=>d4 b (qin b z) hb
 obtain⟨xs,hx⟩:=c.log
 refine⟨bt _ _ (n1 _ (by simp)) c.self,bt _ _ (n1 _ (by simp)) c.tl,fun i r T hr hT=>?_,c.len1,by rw[List.length_set];exact c.len2,⟨xs,bt _ _ (n1 _ (by simp)) hx⟩,?_,c.clo.same fun b o u e=>g.sub _ _ e,g.held,gn,c.nd⟩
 ·by_cases e:i=j
  ·subst e
   rw[hq] at hr;cases hr
   have hi:i<A.ths.length:=by
    have:=(List.getElem?_eq_some_iff.mp hq).1
    rw[c.len2,← c.len1];exact this
   have hT':(A.ths.set i T')[i]? = some T:=hT
   rw[List.getElem?_set_self hi] at hT'
   cases hT'
   exact th
  ·have hT':(A.ths.set j T')[i]? = some T:=hT
   rw[List.getElem?_set_ne (Ne.symm e)] at hT'
   exact(c.th i r T hr hT').keep g.sub g.held (fun b o hb z=>bt b o (thOwn_ne d2 hr hq e b hb) z) fun b hb=>gn b (List.mem_append_right _ (List.mem_append_left _ (thOwn_mem hr b hb)))
 ·have:=c.di.frame (H':=H') (fun b o hb e=>bt b o (n2 b hb) e) (fun b o e=>g.held _ _ (g.sub _ _ e))
  exact⟨this.po,this.ta,this.wy,this.ways,fun l hl=>g.sub _ _ (c.di.lets l hl),g.held,c.di.nd,fun b hb=>gn b (List.mem_append_right _ (List.mem_append_right _ hb))⟩
theorem TWf.wrote {n:Nat}{T:ThA}(w:TWf n T):TWf (n+1) T.wrote∧T.wrote.evs=T.evs:=by
 unfold ThA.wrote
 by_cases h:(T.evs.length:Int)∈T.ws
 ·rw[if_pos h];exact⟨w.more,rfl⟩
 ·rw[if_neg h]
  have dn:=w.dn
  obtain⟨w0,ws,e⟩:=w.ws
  refine⟨⟨⟨w0,ws++[(T.evs.length:Int)],by show T.ws++_=_;rw[e];rfl⟩,fun z hz=>?_,?_,by have:=w.en;show T.evs.length≤_;omega,?_⟩,rfl⟩
  ·rcases List.mem_append.mp (show z∈T.ws++[(T.evs.length:Int)] from hz) with y|y
   ·exact w.rg z y
   ·rw[List.mem_singleton] at y
    subst y
    exact⟨by omega,Int.le_refl _⟩
  ·show T.hab.writ T.down T.evs.length≤_
   cases T.hab with
   | never=>exact dn
   | each=>exact dn
   | bundle m=>exact Int.le_refl _
  ·show (T.ws++[(T.evs.length:Int)]).length≤_
   have:=w.wn
   rw[List.length_append,List.length_singleton];omega
def sp_bp (K:W.Frag) (t:Adr):Sp:=fun vs H Q _=>∃ G L A n,∃ j:Nat,vs=[.ref L.p,.int j]∧Lo K t G H L A n∧n<30∧j<A.many ∧
 ∀ G' H' A',But (L.own A) H H'→Lo K t G' H' L A' (n+1)→A'.many=A.many→A'.ord=A.ord→(∀ b∈L.own A',b∈L.own A∨H b=none)→Q .non H'
theorem ok_bp (T:Txt K mg t):FnOk P w K mg base (CXr P w) 3 t.f_bp t.fd_bp ["self","hand"] (sp_bp K t):=by
 refine T.F_bp.okN sc_bp (fun vs H Q E h=>?_) (fun cdv A outer s H vs Q E hr h=>?_)
 ·obtain⟨G,L,A,n,j,rfl,_⟩:=h;rfl
 ·obtain⟨G,L,A,n,j,rfl,lo,nn,hj,k⟩:=h
  refine⟨_,(pss_cons (ps_expr (pe_meth (pv 0) T.cl_Loom T.me_aj (ok_aj T) (hr.mono (by decide)) T.b_aj .nil passr0 (pa_c (pv 1) pa_nil)))
   (pss_cons (ps_expr (pe_meth0 (pe_ix (ix_listK (K:=K)) (pe_fldK (K:=K) (pv 0) rfl) (pv 1) (fun _ _=>rfl)) T.cl_Thread T.me_ar (ok_ar T) (hr.mono (by decide)) T.b_ar .nil passr0))
   (pss_one (ps_expr (pe_meth (pv 0) T.cl_Loom T.me_ao (ok_ao T) (hr.mono (by decide)) T.b_ao .nil passr0 (pa_c (pv 1) (pa_c (pe_tup (pa_c pe_str (pa_c (pv 1) pa_nil))) pa_nil))))))),?_⟩
  obtain⟨q,hq⟩:∃ q,L.ths[j]? = some q:=⟨_,List.getElem?_eq_getElem (by rw[lo.c.len1];exact hj)⟩
  obtain⟨T0,hT⟩:∃ T0,A.ths[j]? = some T0:=⟨_,List.getElem?_eq_getElem (by rw[lo.c.len2];exact hj)⟩
  have th:=lo.c.th j q T0 hq hT
  have tw:=lo.tw T0 (List.mem_of_getElem? hT)
  have hqs:(L.ths.map fun q=>V.ref q.p)[j]? = some (.ref q.p):=by rw[List.getElem?_map,hq];rfl
  refine⟨_,rfl,L.p,L.dx,_,rfl,lo.c.self,rfl,_,rfl,L.p,L.dx,L.dz,A.many,A.ord,L.lt,L.lg,L.D,j,rfl,lo.c.self,by omega,by omega,?_⟩
  refine⟨_,rfl,L.p,_,L.dx,_,_,rfl,lo.c.self,T.cl_Loom,T.na_az,rfl,_,rfl,L.lt,_,j,.ref q.p,rfl,rfl,SqL.of lo.c.tl,atI_nat hqs,q.p,q.dx,_,rfl,th.self,rfl,G,q,T0,rfl,th,by have:=tw.wn;omega,fun H1 b1 th1=>?_⟩
  obtain⟨tw1,ev1⟩:=tw.wrote
  have g1:Grow H G G H1:=⟨.refl _,th1.held,fun _ _ e=>.inl e⟩
  have b1':But [q.p,q.dn,q.wr] H H1:=b1.mono fun b hb=>by
   simp only[List.mem_cons,List.not_mem_nil,or_false] at hb ⊢
   rcases hb with h|h
   ·exact .inl h
   ·exact .inr (.inr h)
  have c1:=lo.c.deed3 hq g1 b1' th1
  have qI:∀ b∈[q.p,q.dn,q.wr],b∈L.own A:=fun b hb=>List.mem_append_right _ (List.mem_append_left _ (thOwn_mem hq b hb))
  obtain⟨lx,lgx,ll⟩:=lo.lg
  have lg1:H1 L.lg=some (.lst lx):=b1' _ _ (fun z=>(lo.c.nd3.2.2.1 L.lg (by simp)).1 (thOwn_mem hq _ z)) lgx
  have lo1:Lo K t G H1 L { A with ths:=A.ths.set j T0.wrote } (n+1):=by
   refine⟨c1,lo.wf.mono fun x=>cnt_le hT (by rw[ev1];exact Nat.le_refl _) x,⟨lx,lg1,by omega⟩,fun T1 hT1=>?_,?_,lo.m2⟩
   ·rcases List.mem_or_eq_of_mem_set hT1 with y|y
    ·exact(lo.tw T1 y).more
    ·rw[y];exact tw1
   ·have:=lo.bn
    exact⟨by show A.A.po.length≤_;omega,by show A.A.wy.length≤_;omega⟩
  refine⟨_,rfl,L.p,L.dx,_,rfl,lo1.c.self,rfl,_,rfl,_,rfl,by show 2≤sizeLine;decide,fun r hr=>?_⟩
  have s2:Same H1 (upd H1 r (.tup [.str "write",.int j])):=Same.new hr
  refine note_ok (E:=fun _ _ _=>False) (lo1.same s2) nn hj (s2 _ _ lg1) ll fun H3 b3 lo3=>k G H3 _ (fun b o nb e=>b3 b o (fun z=>nb ?_) (s2 _ _ (b1' b o (fun z=>nb (qI b z)) e))) lo3 rfl rfl fun b hb=>.inl hb
  rw[List.mem_singleton] at z
  rw[z];exact List.mem_append_left _ (by simp)
def sp_bd (K:W.Frag) (t:Adr):Sp:=fun vs H Q _=>∃ G L A n,vs=[.ref L.p]∧Lo K t G H L A n∧∀ l H',Same H H'→H l=none→H' l=some (.lst (iV (A.ths.map fun T=>(T.evs.length:Int))))→Q (.ref l) H'
theorem ok_bd (T:Txt K mg t):FnOk P w K mg base (CXr P w) 2 t.f_bd t.fd_bd ["self"] (sp_bd K t):=by
 refine T.F_bd.okN sc_bd (fun vs H Q E h=>?_) (fun cdv A outer s H vs Q E hr h=>?_)
 ·obtain⟨G,L,A,n,rfl,_⟩:=h;rfl
 ·obtain⟨G,L,A,n,rfl,lo,k⟩:=h
  refine⟨_,(pss_one (ps_ret (pe_comp ["self","thread"] 1 rfl (pi_listK (K:=K) (pe_fldK (K:=K) (pv 0) rfl)) (fun _ _ _ _ _=>⟨(pg_name (i:=1) (show List.Nodup (["self","thread"]:List Str) from by decide +kernel) rfl (Or.inl rfl)),pts_nil,(pe_meth0 (pv 1) T.cl_Thread T.me_bc (ok_bc T) (hr.mono (by decide)) T.b_bc .nil passr0)⟩)))),?_⟩
  have m2:=lo.m2
  have lts:(L.ths.map fun q=>V.ref q.p).length=A.many:=by rw[List.length_map,lo.c.len1]
  refine⟨_,rfl,L.p,_,L.dx,_,_,rfl,lo.c.self,T.cl_Loom,T.na_az,rfl,L.lt,rfl,⟨_,SqL.of lo.c.tl⟩,comp_list (xs:=L.ths.map fun q=>V.ref q.p) (by omega) fun acc hacc=>⟨fun i σ2 ys H2=>ys=iV ((A.ths.take i).map fun T=>(T.evs.length:Int))∧H2 acc=some (.lst ys)∧Same H H2∧∃ o,σ2=[some (.ref L.p),o],⟨rfl,upd_same,Same.new hacc,_,rfl⟩,?_,?_,?_⟩⟩
  ·rintro i σ2 ys H2 hi ⟨rfl,_,s2,_⟩
   refine⟨SqL.of (s2 _ _ lo.c.tl),?_⟩
   unfold iV
   rw[List.length_map,List.length_map,List.length_take];omega
  ·rintro i v σ2 ys H2 hi hx ⟨rfl,e2,s2,o,rfl⟩
   obtain⟨q,hq,rfl⟩:∃ q,L.ths[i]? = some q∧v=.ref q.p:=by
    rw[List.getElem?_map] at hx
    cases e:L.ths[i]? with
    | none=>rw[e] at hx;cases hx
    | some q=>rw[e] at hx;cases hx;exact⟨q,rfl,rfl⟩
   obtain⟨T0,hT⟩:∃ T0,A.ths[i]? = some T0:=⟨_,List.getElem?_eq_getElem (by rw[lo.c.len2];omega)⟩
   have th:=lo.c.th i q T0 hq hT
   obtain⟨es,hd,evs⟩:=th.done
   dsimp only[gName,tYes]
   refine iteT ⟨_,rfl,q.p,q.dx,_,rfl,s2 _ _ th.self,rfl,q.p,q.dx,_,q.ha,q.dn,q.wr,_,es,rfl,s2 _ _ th.self,SqL.of (s2 _ _ hd),e2,Nx.mk hi ⟨?_,upd_same,fun b u e=>?_,_,rfl⟩⟩
   ·rw[List.take_add_one,hT,evs.1]
    unfold iV
    simp
   ·rw[upd_ne (ne_of_none e hacc)];exact s2 _ _ e
  ·rintro σ2 ys H2 ⟨rfl,e2,s2,o,rfl⟩
   rw[List.take_of_length_le (by rw[lts,lo.c.len2];exact Nat.le_refl _)] at e2
   exact k acc H2 s2 hacc e2
def nmOf (H:Hp) (v:V):Nm3:=match v with
 | .ref b=>match H b with
  | some (.tup [.int x,.int y,.int z])=>(x,y,z)
  | _=>(0,0,0)
 | _=>(0,0,0)
def IsNm (H:Hp) (v:V) (n:Nm3):Prop:=∃ b,v=.ref b∧H b=some (.tup (nV n))
theorem IsNm.of {H:Hp}{v:V}{n:Nm3}(h:IsNm H v n):nmOf H v=n:=by
 obtain⟨b,rfl,e⟩:=h
 unfold nmOf nV at *
 simp only[e]
theorem IsNm.same {H H':Hp}{v:V}{n:Nm3}(s:Same H H') (h:IsNm H v n):IsNm H' v n:=let ⟨b,e,z⟩:=h;⟨b,e,s _ _ z⟩
theorem IsNm.rp {H:Hp}{v:V}{n:Nm3}(h:IsNm H v n):Rp K H v (.tuple [.int n.1,.int n.2.1,.int n.2.2]):=by
 obtain⟨b,rfl,e⟩:=h
 exact nm_rp e
theorem IsNm.rk {H:Hp}{v:V}{n:Nm3}(h:IsNm H v n):rk3 H v=cd3 n:=by
 obtain⟨b,rfl,e⟩:=h
 unfold rk3
 unfold nV at e
 simp only[e]
 rfl
structure NmL (H:Hp) (ls:List V) (ns:List Nm3):Prop where
 eq:ls.map (nmOf H)=ns
 all:∀ v∈ls,IsNm H v (nmOf H v)
theorem NmL.nil {H:Hp}:NmL H [] []:=⟨rfl,fun v hv=>by cases hv⟩
theorem NmL.len {H:Hp}{ls:List V}{ns:List Nm3}(h:NmL H ls ns):ls.length=ns.length:=by rw[← h.eq,List.length_map]
theorem NmL.same {H H':Hp}{ls:List V}{ns:List Nm3}(s:Same H H') (h:NmL H ls ns):NmL H' ls ns:=by
 have e:∀ v∈ls,nmOf H' v=nmOf H v:=fun v hv=>((h.all v hv).same s).of
 exact⟨by rw[← h.eq];exact List.map_congr_left e,fun v hv=>by rw[e v hv];exact(h.all v hv).same s⟩
theorem NmL.keep {H H':Hp}{ls:List V}{ns:List Nm3}(s:∀ b xs,H b=some (.tup xs)→H' b=some (.tup xs)) (h:NmL H ls ns):NmL H' ls ns:=by
 have z:∀ v∈ls,IsNm H' v (nmOf H v):=fun v hv=>let ⟨b,e,z⟩:=h.all v hv;⟨b,e,s _ _ z⟩
 have e:∀ v∈ls,nmOf H' v=nmOf H v:=fun v hv=>(z v hv).of
 exact⟨by rw[← h.eq];exact List.map_congr_left e,fun v hv=>by rw[e v hv];exact z v hv⟩
theorem NmL.snoc {H:Hp}{ls:List V}{ns:List Nm3}{v:V}{n:Nm3}(h:NmL H ls ns) (i:IsNm H v n):NmL H (ls++[v]) (ns++[n]):=by
 refine⟨by rw[List.map_append,h.eq,List.map_singleton,i.of],fun u hu=>?_⟩
 rcases List.mem_append.mp hu with hu|hu
 ·exact h.all u hu
 ·rw[List.mem_singleton] at hu
  rw[hu,i.of];exact i
theorem NmL.perm {H:Hp}{ls ls':List V}{ns:List Nm3}(h:NmL H ls ns) (p:ls'.Perm ls):NmL H ls' (ls'.map (nmOf H))∧(ls'.map (nmOf H)).Perm ns:=⟨⟨rfl,fun v hv=>h.all v (p.mem_iff.mp hv)⟩,by rw[← h.eq];exact p.map _⟩
theorem NmL.rp {H:Hp}:∀ {ls:List V}{ns:List Nm3},NmL H ls ns→RpAll K H ls (ns.map fun n=>.tuple [.int n.1,.int n.2.1,.int n.2.2])
 | [],_,h=>by
  have:=h.eq
  cases this
  exact .nil
 | v::ls,_,h=>by
  have e:=h.eq
  rw[← e,List.map_cons,List.map_cons]
  exact .cons (h.all v List.mem_cons_self).rp (NmL.rp ⟨rfl,fun u hu=>h.all u (List.mem_cons_of_mem _ hu)⟩)
theorem NmL.small {H:Hp}{ls:List V}{ns:List Nm3}(h:NmL H ls ns) (sm:∀ n∈ns,Small n):∀ v∈ls,Nm H v:=fun v hv=>by
 obtain⟨b,e,z⟩:=h.all v hv
 have:=sm (nmOf H v) (by rw[← h.eq];exact List.mem_map_of_mem hv)
 exact⟨b,_,_,_,e,z,this⟩
theorem NmL.ranks {H:Hp}{ls:List V}{ns:List Nm3}(h:NmL H ls ns):ls.map (rk3 H)=ns.map cd3:=by
 rw[← h.eq,List.map_map]
 exact List.map_congr_left fun v hv=>(h.all v hv).rk
theorem NmL.sorted {H:Hp}{ls ls':List V}{ns:List Nm3}(h:NmL H ls ns) (p:ls'.Perm ls) (so:ls'.Pairwise fun u v=>rk3 H u<rk3 H v):∃ ns',NmL H ls' ns'∧ns'.Perm ns∧AscN ns':=by
 obtain⟨h1,h2⟩:=h.perm p
 refine⟨_,h1,h2,?_⟩
 unfold AscN
 rw[List.pairwise_map]
 refine so.imp_of_mem fun {a b} ha hb lt=>?_
 rw[← (h1.all a ha).rk,← (h1.all b hb).rk];exact lt
theorem ranks_nodup {ns:List Nm3}(nd:ns.Nodup) (sm:∀ n∈ns,Small n):(ns.map cd3).Nodup:=by
 unfold List.Nodup at nd ⊢
 rw[List.pairwise_map]
 exact nd.imp_of_mem fun {a b} ha hb ne e=>ne (cd3_inj (sm a ha) (sm b hb) e)
def DiA.free (A:DiA):List LetA:=A.po.filter fun l=>decide (l.nm∉A.ta.map (·.1))
theorem Lo.small {G H:Hp}{L:LoL}{A:LoA}{n:Nat}(lo:Lo K t G H L A n) (hn:n≤30):∀ l∈A.A.po,Small l.nm:=fun l hl=>by
 obtain⟨r1,r2,r3,r4,r5,r6,_⟩:=lo.wf.rg l hl
 have:=cnt_few lo.tw l.nm.1
 exact⟨by omega,by omega,by omega,by omega⟩
theorem ta_isSome {ta:List (Nm3×Int)}{n:Nm3}(nt:(ta.map (·.1)).Nodup):(valV (ta.map fun e=>(nk e.1,V.int e.2)) (nk n)).isSome=decide (n∈ta.map (·.1)):=by
 by_cases h:n∈ta.map (·.1)
 ·obtain⟨e,he,rfl⟩:=List.mem_map.mp h
  rw[vm_some (fun e:Nm3×Int=>nk e.1) (fun e=>V.int e.2) (nd_comp (f:=fun x:Nm3×Int=>x.1) nk_inj nt) he]
  simp[h]
 ·rw[vm_none (fun e:Nm3×Int=>nk e.1) (fun e=>V.int e.2) fun e he z=>h (by rw[← nk_inj _ _ z];exact List.mem_map_of_mem he)]
  simp[h]
def hInt3 (n:Nat×Nat×Nat):Int:=reduceHash (Builtin.Tuple.tupleHashOf [hashInt (n.1:Int),hashInt (n.2.1:Int),hashInt (n.2.2:Int)])
def L3:List (Nat×Nat×Nat):=(List.range 5).flatMap fun h=>(List.range 31).flatMap fun p=>(List.range 3).map fun k=>(h,p,k)
def notIn (x:Int):List Int→Bool
 | []=>true
 | y::l=>!(x == y) && notIn x l
def nodupB:List Int→Bool
 | []=>true
 | x::l=>notIn x l && nodupB l
theorem L3_nodup:nodupB (L3.map hInt3)=true:=by decide +kernel
theorem notIn_of {x:Int}:∀ {l:List Int},notIn x l=true→x∉l
 | [],_,h=>by cases h
 | y::l,h,m=>by
  unfold notIn at h
  rw[Bool.and_eq_true] at h
  rcases List.mem_cons.mp m with e|m
  ·rw[e] at h;simp at h
  ·exact notIn_of h.2 m
theorem nodupB_of:∀ {l:List Int},nodupB l=true→l.Nodup
 | [],_=>.nil
 | x::l,h=>by
  unfold nodupB at h
  rw[Bool.and_eq_true] at h
  exact List.nodup_cons.mpr ⟨notIn_of h.1,nodupB_of h.2⟩
theorem mem_L3 {h p k:Nat}(a:h<5) (b:p<31) (c:k<3):(h,p,k)∈L3:=by
 unfold L3
 exact List.mem_flatMap.mpr ⟨h,List.mem_range.mpr a,List.mem_flatMap.mpr ⟨p,List.mem_range.mpr b,List.mem_map.mpr ⟨k,List.mem_range.mpr c,rfl⟩⟩⟩
theorem map_inj' {α β:Type}{f:α→β}{l:List α}(nd:(l.map f).Nodup) {a b:α}(ha:a∈l) (hb:b∈l) (e:f a=f b):a=b:=by
 obtain⟨i,hi,rfl⟩:=List.getElem_of_mem ha
 obtain⟨j,hj,rfl⟩:=List.getElem_of_mem hb
 have:i=j:=(List.getElem?_inj (l:=l.map f) (by simpa using hi) nd).mp (by rw[List.getElem?_map,List.getElem?_map,List.getElem?_eq_getElem hi,List.getElem?_eq_getElem hj];exact congrArg some e)
 subst this;rfl
def InR (n:Nm3):Prop:=0≤n.1∧n.1<5∧0≤n.2.1∧n.2.1<31∧0≤n.2.2∧n.2.2<3
theorem hT_inj {w:World}{a b:Nm3}(ha:InR a) (hb:InR b) (e:hT w (nk a)=hT w (nk b)):a=b:=by
 obtain⟨x,y,z⟩:=a
 obtain⟨x',y',z'⟩:=b
 obtain⟨a1,a2,a3,a4,a5,a6⟩:=ha
 obtain⟨b1,b2,b3,b4,b5,b6⟩:=hb
 dsimp only at a1 a2 a3 a4 a5 a6 b1 b2 b3 b4 b5 b6
 obtain⟨x,rfl⟩:=Int.eq_ofNat_of_zero_le a1
 obtain⟨y,rfl⟩:=Int.eq_ofNat_of_zero_le a3
 obtain⟨z,rfl⟩:=Int.eq_ofNat_of_zero_le a5
 obtain⟨x',rfl⟩:=Int.eq_ofNat_of_zero_le b1
 obtain⟨y',rfl⟩:=Int.eq_ofNat_of_zero_le b3
 obtain⟨z',rfl⟩:=Int.eq_ofNat_of_zero_le b5
 have e':hInt3 (x,y,z)=hInt3 (x',y',z'):=e
 have:=map_inj' (nodupB_of L3_nodup) (mem_L3 (by omega) (by omega) (by omega)) (mem_L3 (by omega) (by omega) (by omega)) e'
 cases this
 rfl
theorem hashes_nodup {w:World}{ns:List Nm3}(nd:ns.Nodup) (h:∀ n∈ns,InR n):(ns.map fun n=>hT w (nk n)).Nodup:=by
 unfold List.Nodup at nd ⊢
 rw[List.pairwise_map]
 exact nd.imp_of_mem fun {a b} ha hb ne e=>ne (hT_inj (h a ha) (h b hb) e)
theorem Lo.inR {G H:Hp}{L:LoL}{A:LoA}{n:Nat}(lo:Lo K t G H L A n) (hn:n≤30):∀ l∈A.A.po,InR l.nm:=fun l hl=>by
 obtain⟨r1,r2,r3,r4,r5,r6,_⟩:=lo.wf.rg l hl
 have:=cnt_few lo.tw l.nm.1
 have:=lo.m2
 exact⟨by omega,by omega,by omega,by omega,by omega,by omega⟩
def sp_ca (K:W.Frag) (t:Adr):Sp:=fun vs H Q _=>∃ G L A n,vs=[.ref L.p]∧Lo K t G H L A n∧n≤30∧∀ l ls ns H',Same H H'→H l=none→H' l=some (.lst ls)→NmL H' ls ns→AscN ns→ns.Perm (A.A.free.map (·.nm))→Q (.ref l) H'
theorem ok_ca (T:Txt K mg t):FnOk P w K mg base (CXr P w) 1 t.f_ca t.fd_ca ["self"] (sp_ca K t):=by
 refine T.F_ca.okN sc_ca (fun vs H Q E h=>?_) (fun cdv A outer s H vs Q E hr h=>?_)
 ·obtain⟨G,L,A,n,rfl,_⟩:=h;rfl
 ·obtain⟨G,L,A,n,rfl,lo,hn,k⟩:=h
  refine⟨_,(pss_one (ps_ret (pe_callB (call_sort3 (K:=K)) rfl T.no_sorted b_sorted (pa_c (pe_thaw (H₀:=H) (pe_comp ["self","name"] 1 rfl (pi_keys (pe_fldK (K:=K) (pv 0) rfl)) (fun _ _ _ _ _=>⟨(pg_name (i:=1) (show List.Nodup (["self","name"]:List Str) from by decide +kernel) rfl (Or.inl rfl)),(pts_one (pt_cmp (pc_dnotin (hu_of hr) (pv 1) (pe_fldK (K:=K) (pv 0) rfl)))),(pv 1)⟩))) pa_nil)))),?_⟩
  have bn:=lo.bn
  refine⟨_,rfl,L.p,_,L.dx,_,_,rfl,lo.c.self,T.cl_Loom,T.na_bk,rfl,L.D.po,_,rfl,.inl ⟨lo.c.di.po,fun o=>?_⟩⟩
  obtain⟨x1,x2,x3,x4,x5⟩:=lo.c.di.nes
  have poI:L.D.po∈L.D.own A.A:=by unfold DiL.own;simp
  have pne:L.p≠L.D.po:=fun y=>(lo.c.nd3.2.2.1 L.p (by simp)).2 (by rw[y];exact poI)
  refine comp_keys (by rw[List.length_map];omega) fun acc hacc=>⟨fun i σ2 ys H2=>(∃ ns,NmL H2 ys ns∧ns=((A.A.po.take i).filter fun l=>decide (l.nm∉A.A.ta.map (·.1))).map (·.nm))∧H2 acc=some (.lst ys)∧(∀ b u,b≠L.D.po→H b=some u→H2 b=some u)∧H2 L.D.po=some (.frz o (.dT (A.A.po.map fun l=>(nk l.nm,V.ref l.adr))))∧∃ ov,σ2=[some (.ref L.p),ov],?_,?_,?_,?_⟩
  ·have na:acc≠L.D.po:=fun y=>by rw[y,upd_same] at hacc;cases hacc
   refine⟨⟨[],.nil,rfl⟩,upd_same,fun b u nb e=>?_,by rw[upd_ne (Ne.symm na),upd_same],_,rfl⟩
   rw[upd_ne (ne_of_none (o:=u) (by rw[upd_ne nb];exact e) hacc),upd_ne nb];exact e
  ·rintro i σ2 ys H2 hi ⟨⟨ns,nl,en⟩,e2,kp,hp2,_⟩
   refine⟨hp2,?_⟩
   rw[nl.len,en,List.length_map]
   exact Nat.le_trans (List.length_filter_le _ _) (by rw[List.length_take];omega)
  ·rintro i b kk v σ2 ys H2 hi hx hb ⟨⟨ns,nl,en⟩,e2,kp,hp2,ov,rfl⟩
   obtain⟨l,hl,rfl⟩:∃ l,A.A.po[i]? = some l∧kk=nk l.nm:=by
    rw[List.getElem?_map] at hx
    cases e:A.A.po[i]? with
    | none=>rw[e] at hx;cases hx
    | some l=>rw[e] at hx;cases hx;exact⟨l,rfl,rfl⟩
   have isn:IsNm H2 (.ref b) l.nm:=⟨b,rfl,hb⟩
   refine⟨_,rfl,_,rfl,L.p,_,L.dx,_,_,rfl,kp _ _ pne lo.c.self,T.cl_Loom,T.na_bw,rfl,L.D.ta,_,rfl,.inr ⟨_,nk l.nm,b,.inl (kp _ _ (Ne.symm x1) lo.c.di.ta),rfl,hb,rfl⟩,_,rfl,?_⟩
   rw[ta_isSome lo.wf.nt]
   have stepE:((A.A.po.take (i+1)).filter fun l=>decide (l.nm∉A.A.ta.map (·.1))).map (·.nm)=ns++(if l.nm∈A.A.ta.map (·.1) then [] else [l.nm]):=by
    rw[List.take_add_one,hl,List.filter_append,List.map_append,← en]
    congr 1
    by_cases z:l.nm∈A.A.ta.map (·.1)
    ·rw[if_pos z]
     simp[List.filter_cons,z]
    ·rw[if_neg z]
     have z':decide (l.nm∉A.A.ta.map (·.1))=true:=by simpa using z
     show List.map _ (List.filter _ [l])=_
     rw[List.filter_cons,if_pos z']
     rfl
   by_cases z:l.nm∈A.A.ta.map (·.1)
   ·refine iteFe (by simpa using z) (Nx.mk hi ⟨⟨ns,nl,by rw[stepE,if_pos z,List.append_nil]⟩,e2,kp,hp2,_,rfl⟩)
   ·refine iteTe (by simpa using z) ⟨_,rfl,e2,Nx.mk hi ⟨⟨ns++[l.nm],?_,by rw[stepE,if_neg z]⟩,upd_same,fun c u nc e=>?_,?_,_,rfl⟩⟩
    ·exact(nl.snoc isn).keep fun c xs e=>by rw[upd_ne (fun y=>by rw[y,e2] at e;cases e)];exact e
    ·have na:c≠acc:=fun y=>by
      rw[y] at e nc
      rw[upd_ne nc] at hacc
      rw[e] at hacc;cases hacc
     rw[upd_ne na];exact kp c u nc e
    ·rw[upd_ne (fun y=>by rw[y,e2] at hp2;cases hp2)];exact hp2
  ·rintro σ2 ys H2 ⟨⟨ns,nl,en⟩,e2,kp,hp2,_⟩
   rw[List.length_map,List.take_length] at en
   have na:acc≠L.D.po:=fun y=>by rw[y,upd_same] at hacc;cases hacc
   have s3:Same H (upd H2 L.D.po (.dT (A.A.po.map fun l=>(nk l.nm,V.ref l.adr)))):=fun b u e=>by
    by_cases y:b=L.D.po
    ·rw[y,upd_same]
     rw[y,lo.c.di.po] at e;exact e
    ·rw[upd_ne y];exact kp b u y e
   have nl3:NmL (upd H2 L.D.po (.dT (A.A.po.map fun l=>(nk l.nm,V.ref l.adr)))) ys ns:=nl.keep fun c xs e=>by rw[upd_ne (fun y=>by rw[y,hp2] at e;cases e)];exact e
   have sub:∀ n∈ns,Small n:=fun n hn'=>by
    rw[en] at hn'
    obtain⟨l,hl,rfl⟩:=List.mem_map.mp hn'
    exact lo.small hn l (List.mem_filter.mp hl).1
   have ndn:ns.Nodup:=by
    rw[en]
    exact lo.wf.nd.sublist ((List.filter_sublist).map _)
   refine⟨L.D.po,o,_,hp2,(fun o' v' y=>by rw[lo.c.di.po] at y;cases y),acc,ys,rfl,SqL.of (by rw[upd_ne na];exact e2),?_,nl3.small sub,by rw[nl3.ranks];exact ranks_nodup ndn sub,fun l ls' hl p so=>?_⟩
   ·rw[nl.len,en,List.length_map]
    have:=List.length_filter_le (fun l:LetA=>decide (l.nm∉A.A.ta.map (·.1))) A.A.po
    omega
   ·obtain⟨ns',n1,n2,n3⟩:=nl3.sorted p so
    have sl:=Same.new (o:=.lst ls') hl
    exact k l ls' ns' _ (s3.trans sl) (s3.free hl) upd_same (n1.same sl) n3 (by rw[en] at n2;exact n2)
def sp_af (K:W.Frag) (t:Adr):Sp:=fun vs H Q _=>∃ G L A n,vs=[.ref L.p]∧Lo K t G H L A n∧n≤30∧∀ l H',Same H H'→H l=none→H' l=some (.dT (A.A.po.map fun l=>(nk l.nm,V.ref l.adr)))→Q (.ref l) H'
theorem ok_af (T:Txt K mg t):FnOk P w K mg base (CXr P w) 1 t.f_af t.fd_af ["self"] (sp_af K t):=by
 refine T.F_af.okN sc_af (fun vs H Q E h=>?_) (fun cdv A outer s H vs Q E hr h=>?_)
 ·obtain⟨G,L,A,n,rfl,_⟩:=h;rfl
 ·obtain⟨G,L,A,n,rfl,lo,hn,k⟩:=h
  refine⟨_,(pss_one (ps_ret (pe_callTy call_dictT rfl T.no_dict b_dict (pa_c (pe_fldK (K:=K) (pv 0) rfl) pa_nil)))),?_⟩
  refine⟨_,rfl,L.p,_,L.dx,_,_,rfl,lo.c.self,T.cl_Loom,T.na_bk,rfl,L.D.po,_,rfl,.inl lo.c.di.po,?_,fun l hl=>k l _ (Same.new hl) hl upd_same⟩
  rw[List.map_map]
  have:=hashes_nodup (w:=w) lo.wf.nd fun n hn'=>by
   obtain⟨l,hl,rfl⟩:=List.mem_map.mp hn'
   exact lo.inR hn l hl
  rw[List.map_map] at this
  exact this
def sp_ag (K:W.Frag) (t:Adr):Sp:=fun vs H Q _=>∃ G L A n,vs=[.ref L.p]∧Lo K t G H L A n∧n≤30∧∀ l H',Same H H'→H l=none→H' l=some (.dT (A.A.ta.map fun e=>(nk e.1,V.int e.2)))→Q (.ref l) H'
theorem ok_ag (T:Txt K mg t):FnOk P w K mg base (CXr P w) 1 t.f_ag t.fd_ag ["self"] (sp_ag K t):=by
 refine T.F_ag.okN sc_ag (fun vs H Q E h=>?_) (fun cdv A outer s H vs Q E hr h=>?_)
 ·obtain⟨G,L,A,n,rfl,_⟩:=h;rfl
 ·obtain⟨G,L,A,n,rfl,lo,hn,k⟩:=h
  refine⟨_,(pss_one (ps_ret (pe_callTy call_dictT rfl T.no_dict b_dict (pa_c (pe_fldK (K:=K) (pv 0) rfl) pa_nil)))),?_⟩
  refine⟨_,rfl,L.p,_,L.dx,_,_,rfl,lo.c.self,T.cl_Loom,T.na_bw,rfl,L.D.ta,_,rfl,.inl lo.c.di.ta,?_,fun l hl=>k l _ (Same.new hl) hl upd_same⟩
  rw[List.map_map]
  have:=hashes_nodup (w:=w) lo.wf.nt fun n hn'=>by
   obtain⟨e,he,rfl⟩:=List.mem_map.mp hn'
   obtain⟨l,hl,z,_⟩:=lo.wf.tp e he
   rw[← z];exact lo.inR hn l hl
  rw[List.map_map] at this
  exact this
theorem putNew {H:Hp}{p l:Addr}{z o o':HO}(hp:H p=some z) (hl:H l=none):(∀ c u,c≠p→H c=some u→upd (upd H l o) p o' c=some u)∧upd (upd H l o) p o' l=some o∧l≠p:=by
 have n:l≠p:=fun e=>by rw[e,hp] at hl;cases hl
 exact⟨fun c u nc e=>by rw[upd_ne nc,upd_ne (ne_of_none e hl)];exact e,by rw[upd_ne n,upd_same],n⟩
def newA (m:Nat) (o:Bool) (cell:Int) (hbs:List HabA):LoA:=⟨m,o,cell,hbs.map fun h=>⟨0,h,[],[0],0⟩,⟨[],[],[]⟩⟩
def sp_cb (K:W.Frag) (t:Adr):Sp:=fun vs H Q _=>∃ (G:Hp) (p dx dz a b:Addr) (m:Nat) (has:List Addr) (hbs:List HabA) (o:Bool) (cell:Int),vs=[.ref p,.ref dz,.ref a,.ref b,.bl o]∧H p=some (.ins t.c_Loom dx [])∧Same G H∧G p=none∧SqL K H a (List.replicate m (.int 0))∧SqL K H b (has.map V.ref)∧has.length=m∧hbs.length=m ∧
 (∀ (i:Nat) ha hb,has[i]? = some ha→hbs[i]? = some hb→HabO t G ha hb)∧CloL G "_law_loom.<locals>.<lambda>" s_ap ["_law_cell","_law_many"] dz [.int cell,.int m]∧2≤m∧m≤5 ∧
 ∀ (H':Hp) (L:LoL),L.p=p→(∀ c∈L.own (newA m o cell hbs),c=p∨H c=none)→(∀ c u,c≠p→H c=some u→H' c=some u)→Lo K t G H' L (newA m o cell hbs) 0→Q .non H'
theorem ok_cb (T:Txt K mg t):FnOk P w K mg base (CXr P w) 3 t.f_cb t.fd_cb ["self","does","starts","habits","ordered"] (sp_cb K t):=by
 refine T.F_cb.okN sc_cb (fun vs H Q E h=>?_) (fun cdv A outer s H vs Q E hr h=>?_)
 ·obtain⟨G,p,dx,dz,a,b,m,has,hbs,o,cell,rfl,_⟩:=h;rfl
 ·obtain⟨G,p,dx,dz,a,b,m,has,hbs,o,cell,rfl,hp,sG,gp,ha,hb,l1,l2,hab,clo,m0,m1,k⟩:=h
  refine⟨_,(pss_cons (ps_fldK (K:=K) (pv 0) (pv 1) rfl)
   (pss_cons (ps_fldK (K:=K) (pv 0) (pe_callB (call_lenK (K:=K)) rfl T.no_len b_len (pa_c (pv 2) pa_nil)) rfl)
   (pss_cons (ps_fldK (K:=K) (pv 0) (pv 4) rfl)
   (pss_cons (ps_fldK (K:=K) (pv 0) (pe_comp ["self","does","starts","habits","ordered","start","habit"] 2 rfl (pi_zip (K:=K) rfl T.no_zip (pa_c (pv 2) (pa_c (pv 3) pa_nil))) (fun _ _ _ _ _=>⟨(pg_tupK (K:=K) (n:=2) rfl (pgs_cons (pg_name (i:=5) (show List.Nodup (["self","does","starts","habits","ordered","start","habit"]:List Str) from by decide +kernel) rfl (Or.inl rfl)) (pgs_cons (pg_name (i:=6) (show List.Nodup (["self","does","starts","habits","ordered","start","habit"]:List Str) from by decide +kernel) rfl (Or.inl rfl)) pgs_nil))),pts_nil,(pe_make T.mk_Thread (ok_bb T) (hr.mono (by decide)) rfl T.mg_Thread T.b_bb .nil passr0 (pa_c (pv 5) (pa_c (pv 6) pa_nil)))⟩)) rfl)
   (pss_cons (ps_fldK (K:=K) (pv 0) (pe_lst pa_nil) rfl)
   (pss_cons (ps_fldK (K:=K) (pv 0) pe_dnewT rfl)
   (pss_cons (ps_fldK (K:=K) (pv 0) pe_dnewT rfl)
   (pss_one (ps_fldK (K:=K) (pv 0) pe_dnewT rfl))))))))),?_⟩
  refine⟨_,rfl,_,rfl,p,_,dx,_,rfl,hp,T.cl_Loom,T.na_cf,by decide,?_⟩
  refine⟨_,rfl,a,_,rfl,.inl (sqL_put hp ha),_,rfl,p,_,dx,_,rfl,upd_same,T.cl_Loom,T.na_cg,by show 1<1000;decide,?_⟩
  rw[upd_upd,List.length_replicate]
  refine⟨_,rfl,_,rfl,p,_,dx,_,rfl,upd_same,T.cl_Loom,T.na_ay,by show 2<1000;decide,?_⟩
  rw[upd_upd]
  have hp3:upd H p (HO.ins t.c_Loom dx (putF "ordered" (.bl o) (putF "many" (.int m) (putF "does" (.ref dz) [])))) p=some (HO.ins t.c_Loom dx (putF "ordered" (.bl o) (putF "many" (.int m) (putF "does" (.ref dz) [])))):=upd_same
  have ha3:=sqL_put (fs':=putF "ordered" (.bl o) (putF "many" (.int m) (putF "does" (.ref dz) []))) hp ha
  have hb3:=sqL_put (fs':=putF "ordered" (.bl o) (putF "many" (.int m) (putF "does" (.ref dz) []))) hp hb
  have k3:∀ c u,c≠p→H c=some u→upd H p (HO.ins t.c_Loom dx (putF "ordered" (.bl o) (putF "many" (.int m) (putF "does" (.ref dz) [])))) c=some u:=fun c u nc e=>by rw[upd_ne nc];exact e
  have f3:∀ c,upd H p (HO.ins t.c_Loom dx (putF "ordered" (.bl o) (putF "many" (.int m) (putF "does" (.ref dz) [])))) c=none→H c=none:=fun c e=>by
   by_cases y:c=p
   ·rw[y,upd_same] at e;cases e
   ·rw[upd_ne y] at e;exact e
  generalize upd H p (HO.ins t.c_Loom dx (putF "ordered" (.bl o) (putF "many" (.int m) (putF "does" (.ref dz) []))))=H3 at hp3 ha3 hb3 k3 f3 ⊢
  refine⟨_,rfl,_,rfl,a,b,_,_,rfl,ha3,hb3,comp_zip (xs:=List.replicate m (.int 0)) (ys:=has.map V.ref) (by rw[List.length_replicate];omega) (by rw[List.length_replicate,List.length_map,l1]) fun acc hacc=>⟨fun i σ2 zs H2=>(∃ Ls:List ThL,Ls.length=i∧zs=Ls.map (fun q=>V.ref q.p)∧H2 acc=some (.lst zs)∧Same H3 H2∧(∀ (j:Nat) q,Ls[j]? = some q→H2 q.p=some (.ins t.c_Thread q.dx (thF 0 q.ha q.dn q.wr 0))∧H2 q.dn=some (.lst [])∧H2 q.wr=some (.lst [.int 0])∧has[j]? = some q.ha)∧(thOwn Ls).Nodup∧∀ c∈thOwn Ls,H3 c=none∧c≠acc)∧∃ o1 o2,σ2=[some (.ref p),some (.ref dz),some (.ref a),some (.ref b),some (.bl o),o1,o2],?_,?_,?_,?_⟩⟩
  ·exact⟨⟨[],rfl,rfl,upd_same,Same.new hacc,(fun j q e=>by simp at e),by unfold thOwn;simp,(fun c hc=>by unfold thOwn at hc;simp at hc)⟩,_,_,rfl⟩
  ·rintro i σ2 zs H2 hi ⟨⟨Ls,len,rfl,_,s2,_⟩,_⟩
   exact⟨s2.seq ha3,s2.seq hb3,by rw[List.length_map];omega⟩
  ·rintro i x y pz σ2 zs H2 hi hx hy npz ⟨⟨Ls,len,rfl,e2,s2,hth,nd,fr⟩,o1,o2,rfl⟩
   rw[List.length_replicate] at hi
   obtain rfl:x=.int 0:=by
    rw[List.getElem?_replicate,if_pos hi] at hx
    exact(Option.some.inj hx).symm
   obtain⟨hx',hax,rfl⟩:∃ h',has[i]? = some h'∧y=.ref h':=by
    rw[List.getElem?_map] at hy
    cases e:has[i]? with
    | none=>rw[e] at hy;cases hy
    | some h'=>rw[e] at hy;cases hy;exact⟨h',rfl,rfl⟩
   refine⟨pz,_,rfl,SqT.of upd_same,rfl,_,_,rfl,_,_,rfl,rfl,?_⟩
   dsimp only[tYes]
   refine iteT ⟨_,rfl,_,rfl,fun x dxx nx ndx ndd=>⟨x,dxx,0,hx',rfl,upd_same,fun dn wr H5 hdn hwr ndw hH5=>⟨rfl,?_⟩⟩⟩
   have sz:Same H2 (upd H2 pz (.tup [.int 0,.ref hx'])):=Same.new npz
   have si:Same (upd H2 pz (.tup [.int 0,.ref hx'])) (upd (upd (upd H2 pz (.tup [.int 0,.ref hx'])) dxx (.own x)) x (.ins t.c_Thread dxx [])):=Same.ins nx ndx
   have x0:H2 x=none:=sz.free nx
   have dn0:H2 dn=none:=sz.free (si.free hdn)
   have wr0:H2 wr=none:=sz.free (si.free hwr)
   have ndx':dn≠x:=fun e=>by rw[e,upd_same] at hdn;cases hdn
   have nwx':wr≠x:=fun e=>by rw[e,upd_same] at hwr;cases hwr
   have s5:Same H2 H5:=fun c u e=>by
    rw[hH5 c,if_neg (ne_of_none e x0),if_neg (ne_of_none e dn0),if_neg (ne_of_none e wr0)]
    exact si _ _ (sz _ _ e)
   have old:∀ c∈thOwn Ls,H2 c≠none:=fun c hc=>by
    obtain⟨q,hq,hc⟩:=List.mem_flatMap.mp hc
    obtain⟨j,hj,rfl⟩:=List.getElem_of_mem hq
    obtain⟨t1,t2,t3,_⟩:=hth j _ (List.getElem?_eq_getElem hj)
    simp only[List.mem_cons,List.not_mem_nil,or_false] at hc
    rcases hc with rfl|rfl|rfl
    ·rw[t1];simp
    ·rw[t2];simp
    ·rw[t3];simp
   have nacc:∀ c,H2 c=none→c≠acc:=fun c e y=>by rw[y,e2] at e;cases e
   have ow:thOwn (Ls++[⟨x,dxx,hx',dn,wr⟩])=thOwn Ls++[x,dn,wr]:=by
    unfold thOwn
    rw[List.flatMap_append];rfl
   have newF:∀ c∈[x,dn,wr],H2 c=none:=fun c hc=>by
    simp only[List.mem_cons,List.not_mem_nil,or_false] at hc
    rcases hc with rfl|rfl|rfl
    ·exact x0
    ·exact dn0
    ·exact wr0
   refine⟨s5 _ _ e2,Nx.mk (by rw[List.length_replicate];exact hi) ⟨⟨Ls++[⟨x,dxx,hx',dn,wr⟩],by rw[List.length_append,len];rfl,by rw[List.map_append];rfl,upd_same,fun c u e=>?_,fun j q hq=>?_,?_,fun c hc=>?_⟩,_,_,rfl⟩⟩
   ·rw[upd_ne (ne_of_none e hacc)];exact s5 _ _ (s2 _ _ e)
   ·by_cases hj:j<Ls.length
    ·rw[List.getElem?_append_left hj] at hq
     obtain⟨t1,t2,t3,t4⟩:=hth j q hq
     have na:=fun c hc=>(fr c (thOwn_mem hq c hc)).2
     exact⟨by rw[upd_ne (na _ (by simp))];exact s5 _ _ t1,by rw[upd_ne (na _ (by simp))];exact s5 _ _ t2,by rw[upd_ne (na _ (by simp))];exact s5 _ _ t3,t4⟩
    ·rw[List.getElem?_append_right (by omega)] at hq
     have ej:j=i:=by
      have:=(List.getElem?_eq_some_iff.mp hq).1
      rw[List.length_singleton] at this
      omega
     subst ej
     rw[len,Nat.sub_self] at hq
     cases hq
     refine⟨?_,?_,?_,hax⟩
     ·rw[upd_ne (nacc _ x0),hH5,if_pos rfl]
     ·rw[upd_ne (nacc _ dn0),hH5,if_neg ndx',if_pos rfl]
     ·rw[upd_ne (nacc _ wr0),hH5,if_neg nwx',if_neg (Ne.symm ndw),if_pos rfl]
   ·rw[ow]
    refine List.nodup_append.mpr ⟨nd,?_,fun c hc d hd e=>old c hc (by rw[e];exact newF d hd)⟩
    simp only[List.nodup_cons,List.mem_cons,List.not_mem_nil,or_false,not_or,not_false_eq_true,List.nodup_nil,and_true]
    exact⟨⟨Ne.symm ndx',Ne.symm nwx'⟩,ndw⟩
   ·rw[ow] at hc
    rcases List.mem_append.mp hc with hc|hc
    ·exact fr c hc
    ·exact⟨s2.free (newF c hc),nacc c (newF c hc)⟩
  ·rintro σ2 zs H2 ⟨⟨Ls,len,rfl,e2,s2,hth,nd,fr⟩,_⟩
   rw[List.length_replicate] at len
   have hp4:=s2 _ _ hp3
   refine⟨_,rfl,p,_,dx,_,rfl,hp4,T.cl_Loom,T.na_az,by show 3<1000;decide,?_⟩
   have hp4':upd H2 p (.ins t.c_Loom dx (putF "threads" (.ref acc) (putF "ordered" (.bl o) (putF "many" (.int m) (putF "does" (.ref dz) []))))) p=some (.ins t.c_Loom dx (putF "threads" (.ref acc) (putF "ordered" (.bl o) (putF "many" (.int m) (putF "does" (.ref dz) []))))):=upd_same
   have k4:∀ c u,c≠p→H2 c=some u→upd H2 p (.ins t.c_Loom dx (putF "threads" (.ref acc) (putF "ordered" (.bl o) (putF "many" (.int m) (putF "does" (.ref dz) []))))) c=some u:=fun c u nc e=>by rw[upd_ne nc];exact e
   generalize upd H2 p (.ins t.c_Loom dx (putF "threads" (.ref acc) (putF "ordered" (.bl o) (putF "many" (.int m) (putF "does" (.ref dz) [])))))=H4 at hp4' k4 ⊢
   refine⟨by decide,fun lg hlg=>⟨_,rfl,p,_,dx,_,rfl,by rw[upd_ne (ne_of_none hp4' hlg)];exact hp4',T.cl_Loom,T.na_cn,by show 4<1000;decide,?_⟩⟩
   obtain⟨k5,e5,ne5⟩:=putNew (o:=.lst []) (o':=.ins t.c_Loom dx (putF "log" (.ref lg) (putF "threads" (.ref acc) (putF "ordered" (.bl o) (putF "many" (.int m) (putF "does" (.ref dz) [])))))) hp4' hlg
   have hp5:upd (upd H4 lg (.lst [])) p (.ins t.c_Loom dx (putF "log" (.ref lg) (putF "threads" (.ref acc) (putF "ordered" (.bl o) (putF "many" (.int m) (putF "does" (.ref dz) [])))))) p=some _:=upd_same
   generalize upd (upd H4 lg (.lst [])) p (.ins t.c_Loom dx (putF "log" (.ref lg) (putF "threads" (.ref acc) (putF "ordered" (.bl o) (putF "many" (.int m) (putF "does" (.ref dz) []))))))=H5 at k5 e5 hp5 ⊢
   refine fun po hpo=>⟨_,rfl,p,_,dx,_,rfl,by rw[upd_ne (ne_of_none hp5 hpo)];exact hp5,T.cl_Loom,T.na_bk,by show 5<1000;decide,?_⟩
   obtain⟨k6,e6,ne6⟩:=putNew (o:=.dT []) (o':=.ins t.c_Loom dx (putF "posted" (.ref po) (putF "log" (.ref lg) (putF "threads" (.ref acc) (putF "ordered" (.bl o) (putF "many" (.int m) (putF "does" (.ref dz) []))))))) hp5 hpo
   have hp6:upd (upd H5 po (.dT [])) p (.ins t.c_Loom dx (putF "posted" (.ref po) (putF "log" (.ref lg) (putF "threads" (.ref acc) (putF "ordered" (.bl o) (putF "many" (.int m) (putF "does" (.ref dz) []))))))) p=some _:=upd_same
   generalize upd (upd H5 po (.dT [])) p (.ins t.c_Loom dx (putF "posted" (.ref po) (putF "log" (.ref lg) (putF "threads" (.ref acc) (putF "ordered" (.bl o) (putF "many" (.int m) (putF "does" (.ref dz) [])))))))=H6 at k6 e6 hp6 ⊢
   refine fun ta hta=>⟨_,rfl,p,_,dx,_,rfl,by rw[upd_ne (ne_of_none hp6 hta)];exact hp6,T.cl_Loom,T.na_bw,by show 6<1000;decide,?_⟩
   obtain⟨k7,e7,ne7⟩:=putNew (o:=.dT []) (o':=.ins t.c_Loom dx (putF "taken" (.ref ta) (putF "posted" (.ref po) (putF "log" (.ref lg) (putF "threads" (.ref acc) (putF "ordered" (.bl o) (putF "many" (.int m) (putF "does" (.ref dz) [])))))))) hp6 hta
   have hp7:upd (upd H6 ta (.dT [])) p (.ins t.c_Loom dx (putF "taken" (.ref ta) (putF "posted" (.ref po) (putF "log" (.ref lg) (putF "threads" (.ref acc) (putF "ordered" (.bl o) (putF "many" (.int m) (putF "does" (.ref dz) [])))))))) p=some _:=upd_same
   generalize upd (upd H6 ta (.dT [])) p (.ins t.c_Loom dx (putF "taken" (.ref ta) (putF "posted" (.ref po) (putF "log" (.ref lg) (putF "threads" (.ref acc) (putF "ordered" (.bl o) (putF "many" (.int m) (putF "does" (.ref dz) []))))))))=H7 at k7 e7 hp7 ⊢
   refine fun wy hwy=>⟨_,rfl,p,_,dx,_,rfl,by rw[upd_ne (ne_of_none hp7 hwy)];exact hp7,T.cl_Loom,T.na_ch,by show 7<1000;decide,?_⟩
   obtain⟨k8,e8,ne8⟩:=putNew (o:=.dT []) (o':=.ins t.c_Loom dx (putF "ways" (.ref wy) (putF "taken" (.ref ta) (putF "posted" (.ref po) (putF "log" (.ref lg) (putF "threads" (.ref acc) (putF "ordered" (.bl o) (putF "many" (.int m) (putF "does" (.ref dz) []))))))))) hp7 hwy
   have hp8:upd (upd H7 wy (.dT [])) p (.ins t.c_Loom dx (putF "ways" (.ref wy) (putF "taken" (.ref ta) (putF "posted" (.ref po) (putF "log" (.ref lg) (putF "threads" (.ref acc) (putF "ordered" (.bl o) (putF "many" (.int m) (putF "does" (.ref dz) []))))))))) p=some (.ins t.c_Loom dx (loF dz m o acc lg ⟨po,ta,wy⟩)):=upd_same
   generalize upd (upd H7 wy (.dT [])) p (.ins t.c_Loom dx (putF "ways" (.ref wy) (putF "taken" (.ref ta) (putF "posted" (.ref po) (putF "log" (.ref lg) (putF "threads" (.ref acc) (putF "ordered" (.bl o) (putF "many" (.int m) (putF "does" (.ref dz) [])))))))))=H8 at k8 e8 hp8 ⊢
   have u78:=k8
   have u68:∀ c u,c≠p→H6 c=some u→H8 c=some u:=fun c u n e=>k8 c u n (k7 c u n e)
   have u58:∀ c u,c≠p→H5 c=some u→H8 c=some u:=fun c u n e=>u68 c u n (k6 c u n e)
   have u48:∀ c u,c≠p→H4 c=some u→H8 c=some u:=fun c u n e=>u58 c u n (k5 c u n e)
   have u28:∀ c u,c≠p→H2 c=some u→H8 c=some u:=fun c u n e=>u48 c u n (k4 c u n e)
   have uH8:∀ c u,c≠p→H c=some u→H8 c=some u:=fun c u n e=>u28 c u n (s2 _ _ (k3 c u n e))
   have none2:∀ c,c≠p→(H4 c=none∨H5 c=none∨H6 c=none∨H7 c=none)→H2 c=none:=fun c n z=>by
    cases e:H2 c with
    | none=>rfl
    | some u=>
     have z4:=k4 c u n e
     have z5:=k5 c u n z4
     have z6:=k6 c u n z5
     have z7:=k7 c u n z6
     rcases z with z|z|z|z
     ·rw[z4] at z;cases z
     ·rw[z5] at z;cases z
     ·rw[z6] at z;cases z
     ·rw[z7] at z;cases z
   have lg2:=none2 lg ne5 (.inl hlg)
   have po2:=none2 po ne6 (.inr (.inl hpo))
   have ta2:=none2 ta ne7 (.inr (.inr (.inl hta)))
   have wy2:=none2 wy ne8 (.inr (.inr (.inr hwy)))
   have toH:∀ c,H2 c=none→H c=none:=fun c e=>f3 c (s2.free e)
   have accP:acc≠p:=fun y=>by rw[y,hp3] at hacc;cases hacc
   have thP:∀ c∈thOwn Ls,c≠p:=fun c hc y=>by
    have:=(fr c hc).1
    rw[y,hp3] at this;cases this
   have th2:∀ c∈thOwn Ls,H2 c≠none:=fun c hc=>by
    obtain⟨q,hq,hc⟩:=List.mem_flatMap.mp hc
    obtain⟨j,hj,rfl⟩:=List.getElem_of_mem hq
    obtain⟨t1,t2,t3,_⟩:=hth j _ (List.getElem?_eq_getElem hj)
    simp only[List.mem_cons,List.not_mem_nil,or_false] at hc
    rcases hc with rfl|rfl|rfl
    ·rw[t1];simp
    ·rw[t2];simp
    ·rw[t3];simp
   have acc2:H2 acc≠none:=by rw[e2];simp
   have lp:lg≠po:=fun y=>by rw[y] at e5;rw[hpo] at e5;cases e5
   have lt:lg≠ta:=fun y=>by have:=k6 _ _ ne5 e5;rw[y,hta] at this;cases this
   have lw:lg≠wy:=fun y=>by have:=k7 _ _ ne5 (k6 _ _ ne5 e5);rw[y,hwy] at this;cases this
   have pt:po≠ta:=fun y=>by rw[y] at e6;rw[hta] at e6;cases e6
   have pw:po≠wy:=fun y=>by have:=k7 _ _ ne6 e6;rw[y,hwy] at this;cases this
   have tw':ta≠wy:=fun y=>by rw[y] at e7;rw[hwy] at e7;cases e7
   have nn2:∀ c,H2 c≠none→c≠lg∧c≠po∧c≠ta∧c≠wy:=fun c e=>⟨fun y=>e (by rw[y];exact lg2),fun y=>e (by rw[y];exact po2),fun y=>e (by rw[y];exact ta2),fun y=>e (by rw[y];exact wy2)⟩
   have ownI:∀ c∈LoL.own ⟨p,dx,dz,acc,lg,⟨po,ta,wy⟩,Ls⟩ (newA m o cell hbs),c=p∨H c=none:=fun c hc=>by
    rcases List.mem_append.mp hc with hc|hc
    ·simp only[List.mem_cons,List.not_mem_nil,or_false] at hc
     rcases hc with h|h|h
     ·exact .inl h
     ·rw[h];exact .inr (f3 _ hacc)
     ·rw[h];exact .inr (toH _ lg2)
    ·rcases List.mem_append.mp hc with hc|hc
     ·exact .inr (f3 _ (fr c hc).1)
     ·have hc':c∈[po,ta,wy]++([]:List Addr):=hc
      simp only[List.append_nil,List.mem_cons,List.not_mem_nil,or_false] at hc'
      rcases hc' with h|h|h
      ·rw[h];exact .inr (toH _ po2)
      ·rw[h];exact .inr (toH _ ta2)
      ·rw[h];exact .inr (toH _ wy2)
   have gnI:∀ c∈LoL.own ⟨p,dx,dz,acc,lg,⟨po,ta,wy⟩,Ls⟩ (newA m o cell hbs),G c=none:=fun c hc=>by
    rcases ownI c hc with h|h
    ·rw[h];exact gp
    ·exact sG.free h
   have held:Same G H8:=fun c u e=>uH8 c u (ne_of_none e gp) (sG _ _ e)
   have poO:∀ c∈[po,ta,wy],c∈LoL.own ⟨p,dx,dz,acc,lg,⟨po,ta,wy⟩,Ls⟩ (newA m o cell hbs):=fun c hc=>List.mem_append_right _ (List.mem_append_right _ (List.mem_append_left _ hc))
   refine k H8 ⟨p,dx,dz,acc,lg,⟨po,ta,wy⟩,Ls⟩ rfl ownI uH8 ⟨⟨hp8,u28 _ _ accP e2,fun i q T hq hT=>?_,len,by show (hbs.map _).length=m;rw[List.length_map,l2],⟨[],u58 _ _ ne5 e5⟩,⟨u68 _ _ ne6 e6,u78 _ _ ne7 e7,e8,(fun e he=>by cases he),(fun l hl=>by cases hl),held,?_,fun c hc=>gnI c (List.mem_append_right _ (List.mem_append_right _ hc))⟩,clo,held,gnI,?_⟩,⟨.nil,.nil,(fun e he=>by cases he),(fun l hl=>by cases hl),.nil,(fun e he=>by cases he),(fun e he=>by cases he),(fun l hl=>by cases hl)⟩,⟨[],u58 _ _ ne5 e5,Nat.le_refl _⟩,fun T hT=>?_,⟨Nat.le_refl _,Nat.le_refl _⟩,m0,m1⟩
   ·obtain⟨t1,t2,t3,t4⟩:=hth i q hq
    have hT':(hbs.map fun h=>(⟨0,h,[],[0],0⟩:ThA))[i]? = some T:=hT
    rw[List.getElem?_map] at hT'
    cases hb':hbs[i]? with
    | none=>rw[hb'] at hT';cases hT'
    | some h=>
     rw[hb'] at hT'
     cases hT'
     have inn:=thOwn_mem hq
     have ndq:=thOwn_in nd hq
     simp only[List.nodup_cons,List.mem_cons,List.not_mem_nil,or_false,not_or] at ndq
     have gth:∀ c∈[q.p,q.dn,q.wr],G c=none:=fun c hc=>gnI c (List.mem_append_right _ (List.mem_append_left _ (inn c hc)))
     exact⟨u28 _ _ (thP _ (inn _ (by simp))) t1,hab i q.ha h t4 hb',⟨[],u28 _ _ (thP _ (inn _ (by simp))) t2,rfl,(fun j e A he=>by simp at he)⟩,u28 _ _ (thP _ (inn _ (by simp))) t3,held,gth _ (by simp),gth _ (by simp),gth _ (by simp),ndq.2.1⟩
   ·show ([po,ta,wy]++([]:List Addr)).Nodup
    simp only[List.append_nil,List.nodup_cons,List.mem_cons,List.not_mem_nil,or_false,not_or,not_false_eq_true,List.nodup_nil,and_true]
    exact⟨⟨pt,pw⟩,tw'⟩
   ·show ([p,acc,lg]++(thOwn Ls++([po,ta,wy]++([]:List Addr)))).Nodup
    rw[List.append_nil]
    have a2:=nn2 acc acc2
    refine List.nodup_append.mpr ⟨?_,List.nodup_append.mpr ⟨nd,?_,fun c hc d hd y=>?_⟩,fun c hc d hd y=>?_⟩
    ·simp only[List.nodup_cons,List.mem_cons,List.not_mem_nil,or_false,not_or,not_false_eq_true,List.nodup_nil,and_true]
     exact⟨⟨Ne.symm accP,Ne.symm ne5⟩,a2.1⟩
    ·simp only[List.nodup_cons,List.mem_cons,List.not_mem_nil,or_false,not_or,not_false_eq_true,List.nodup_nil,and_true]
     exact⟨⟨pt,pw⟩,tw'⟩
    ·obtain⟨b1,b2,b3,b4⟩:=nn2 c (th2 c hc)
     simp only[List.mem_cons,List.not_mem_nil,or_false] at hd
     rcases hd with h|h|h
     ·exact b2 (y.trans h)
     ·exact b3 (y.trans h)
     ·exact b4 (y.trans h)
    ·simp only[List.mem_cons,List.not_mem_nil,or_false] at hc
     rcases List.mem_append.mp hd with hd|hd
     ·rcases hc with h|h|h
      ·exact thP d hd (y.symm.trans h)
      ·exact(fr d hd).2 (y.symm.trans h)
      ·exact(nn2 d (th2 d hd)).1 (y.symm.trans h)
     ·simp only[List.mem_cons,List.not_mem_nil,or_false] at hd
      subst y
      rcases hc with rfl|rfl|rfl<;>rcases hd with h|h|h
      ·exact ne6 h.symm
      ·exact ne7 h.symm
      ·exact ne8 h.symm
      ·exact a2.2.1 h
      ·exact a2.2.2.1 h
      ·exact a2.2.2.2 h
      ·exact lp h
      ·exact lt h
      ·exact lw h
   ·obtain⟨h,_,rfl⟩:=List.mem_map.mp (show T∈hbs.map _ from hT)
    refine⟨⟨0,[],rfl⟩,fun z hz=>?_,Int.le_refl _,Nat.le_refl _,Nat.le_refl _⟩
    rw[List.mem_singleton] at hz
    rw[hz];exact⟨Int.le_refl _,Int.le_refl _⟩
def lnAt (ln:List Int) (h:Int):Int:=(ln[h.toNat]?).getD 0
theorem lnAt_at {ln:List Int}{h:Int}(h0:0≤h) (h1:h<ln.length):atI (iV ln) h=some (.int (lnAt ln h)):=by
 obtain⟨i,rfl⟩:=Int.eq_ofNat_of_zero_le h0
 have hi:i<ln.length:=by omega
 have e:(iV ln)[i]? = some (.int (lnAt ln i)):=by
  unfold iV lnAt
  rw[List.getElem?_map,Int.toNat_natCast,List.getElem?_eq_getElem hi];rfl
 exact atI_nat e
def sp_am (K:W.Frag):Sp:=fun vs H Q _=>∃ a b ln n,vs=[.ref a,.ref b]∧SqL K H a (iV ln)∧H b=some (.tup (nV n))∧0≤n.1∧n.1<ln.length∧Q (.bl (decide (n.2.1≤lnAt ln n.1))) H
theorem ok_am (T:Txt K mg t):FnOk P w K mg base (CXr P w) 1 t.f_am t.fd_am ["line","name"] (sp_am K):=by
 refine T.F_am.okN sc_am (fun vs H Q E h=>?_) (fun cdv A outer s H vs Q E hr h=>?_)
 ·obtain⟨a,b,ln,n,rfl,_⟩:=h;rfl
 ·obtain⟨a,b,ln,n,rfl,ha,hb,h0,h1,k⟩:=h
  refine⟨_,(pss_one (ps_ret (pe_cmpR op_le (pe_ix (ix_tupK (K:=K)) (pv 1) pe_int (fun _ _=>rfl)) (pe_ix (ix_listK (K:=K)) (pv 0) (pe_ix (ix_tupK (K:=K)) (pv 1) pe_int (fun _ _=>rfl)) (fun _ _=>rfl)) (nomark _)))),?_⟩
  exact⟨_,rfl,b,nV n,1,.int n.2.1,rfl,rfl,SqT.of hb,rfl,_,rfl,_,rfl,b,nV n,0,.int n.1,rfl,rfl,SqT.of hb,rfl,a,_,n.1,_,rfl,rfl,ha,lnAt_at h0 h1,_,_,rfl,rfl,k⟩
def sp_an (K:W.Frag):Sp:=fun vs H Q _=>∃ a ln u pl,vs=[.ref a,.int u,.int pl]∧SqL K H a (iV ln)∧0≤u∧u<ln.length∧Q (.bl (decide (pl≤lnAt ln u))) H
theorem ok_an (T:Txt K mg t):FnOk P w K mg base (CXr P w) 1 t.f_an t.fd_an ["line","user","place"] (sp_an K):=by
 refine T.F_an.okN sc_an (fun vs H Q E h=>?_) (fun cdv A outer s H vs Q E hr h=>?_)
 ·obtain⟨a,ln,u,pl,rfl,_⟩:=h;rfl
 ·obtain⟨a,ln,u,pl,rfl,ha,h0,h1,k⟩:=h
  refine⟨_,(pss_one (ps_ret (pe_cmpR op_le (pv 2) (pe_ix (ix_listK (K:=K)) (pv 0) (pv 1) (fun _ _=>rfl)) (nomark _)))),?_⟩
  exact⟨_,rfl,_,rfl,_,rfl,a,_,u,_,rfl,rfl,ha,lnAt_at h0 h1,_,_,rfl,rfl,k⟩
def DiA.toOf (A:DiA) (n:Nm3):Int:=((A.po.find? fun l=>decide (l.nm=n)).map (·.to)).getD 0
theorem toOf_eq {A:DiA}(nd:(A.po.map (·.nm)).Nodup) {l:LetA}(hl:l∈A.po):A.toOf l.nm=l.to:=by
 unfold DiA.toOf
 cases e:A.po.find? fun l'=>decide (l'.nm=l.nm) with
 | none=>
  have:=List.find?_eq_none.mp e l hl
  simp at this
 | some l'=>
  have h1:=List.mem_of_find?_eq_some e
  have h2:=List.find?_some e
  rw[nm_unique nd h1 hl (of_decide_eq_true h2)];rfl
def DiA.usedIn (A:DiA) (ln:List Int) (e:Nm3×Int):Bool:=decide (e.2≤lnAt ln (A.toOf e.1))
def sentIn (ln:List Int) (n:Nm3):Bool:=decide (n.2.1≤lnAt ln n.1)
def DiA.brk (A:DiA) (ln:List Int):List Nm3:=((A.ta.filter (A.usedIn ln)).map (·.1)).filter fun n=>!sentIn ln n
theorem set_last {σ:St}{ov v:Option V}:(σ++[ov]).set σ.length v=σ++[v]:=by
 rw[List.set_append_right _ _ (Nat.le_refl _),Nat.sub_self];rfl
theorem get_last {σ:St}{v:Option V}:(σ++[v])[σ.length]? = some v:=by
 rw[List.getElem?_append_right (Nat.le_refl _),Nat.sub_self];rfl
theorem comp_nmD {α:Type}{xs:List α}{f:α→Nm3}{g:α→V}{d:Addr}{o:Obj}{i:Nat}{tc:TT}{σ:St}{H1:Hp}{Q:VK}(p:α→Bool) (few:xs.length≤1000) (hd:H1 d=some (.frz o (.dT (xs.map fun x=>(nk (f x),g x))))) (hi:i=σ.length)
  (ht:∀ b x H2,x∈xs→H2 b=some (.tup (nV (f x)))→Same H1 H2→∀ R:Bool→Hp→Prop,R (p x) H2→tc (σ++[some (.ref b)]) H2 R)
  (hq:∀ acc ls H',H1 acc=none→Same H1 H'→H' acc=some (.lst ls)→NmL H' ls ((xs.filter p).map f)→Q (.ref acc) H'):CompR (Itk d o (xs.map fun x=>(nk (f x),g x))) 1 (gName i) tc (tVar i) σ H1 Q:=by
 subst hi
 refine comp_keys (by rw[List.length_map];exact few) fun acc hacc=>⟨fun j σ2 ys H2=>NmL H2 ys (((xs.take j).filter p).map f)∧H2 acc=some (.lst ys)∧Same H1 H2∧∃ ov,σ2=σ++[ov],⟨.nil,upd_same,Same.new hacc,_,rfl⟩,?_,?_,?_⟩
 ·rintro j σ2 ys H2 hj ⟨nl,e2,s2,_⟩
  refine⟨s2 _ _ hd,?_⟩
  rw[nl.len,List.length_map]
  exact Nat.le_trans (List.length_filter_le _ _) (by rw[List.length_take];omega)
 ·rintro j b kk v σ2 ys H2 hj hx hb ⟨nl,e2,s2,ov,rfl⟩
  obtain⟨x,hx',rfl⟩:∃ x,xs[j]? = some x∧kk=nk (f x):=by
   rw[List.getElem?_map] at hx
   cases e:xs[j]? with
   | none=>rw[e] at hx;cases hx
   | some x=>rw[e] at hx;cases hx;exact⟨x,rfl,rfl⟩
  show tc ((σ++[ov]).set σ.length (some (.ref b))) H2 _
  rw[set_last]
  have stepE:((xs.take (j+1)).filter p).map f=((xs.take j).filter p).map f++(if p x=true then [f x] else []):=by
   rw[List.take_add_one,hx',List.filter_append,List.map_append]
   congr 1
   show List.map f (List.filter p [x])=_
   rw[List.filter_cons]
   by_cases z:p x=true
   ·rw[if_pos z,if_pos z];rfl
   ·rw[if_neg z,if_neg z];rfl
  refine ht b x H2 (List.mem_of_getElem? hx') hb s2 _ ?_
  by_cases z:p x=true
  ·rw[if_pos z]
   refine⟨_,get_last,e2,Nx.mk hj ⟨?_,upd_same,fun c u e=>?_,_,rfl⟩⟩
   ·rw[stepE,if_pos z]
    exact(nl.snoc ⟨b,rfl,hb⟩).keep fun c ys' e=>by rw[upd_ne (fun y=>by rw[y,e2] at e;cases e)];exact e
   ·rw[upd_ne (ne_of_none e hacc)];exact s2 _ _ e
  ·rw[if_neg z]
   exact Nx.mk hj ⟨by rw[stepE,if_neg z,List.append_nil];exact nl,e2,s2,_,rfl⟩
 ·rintro σ2 ys H2 ⟨nl,e2,s2,_⟩
  rw[List.length_map,List.take_length] at nl
  exact hq acc ys H2 hacc s2 e2 nl
theorem comp_nmL {ls0:List V}{ns0:List Nm3}{a:Addr}{i:Nat}{tc:TT}{σ:St}{H1:Hp}{Q:VK}(p:Nm3→Bool) (few:ls0.length≤1000) (ha:SqL K H1 a ls0) (nl0:NmL H1 ls0 ns0) (hi:i=σ.length)
  (ht:∀ b x H2,x∈ns0→H2 b=some (.tup (nV x))→Same H1 H2→∀ R:Bool→Hp→Prop,R (p x) H2→tc (σ++[some (.ref b)]) H2 R)
  (hq:∀ acc ls H',H1 acc=none→Same H1 H'→H' acc=some (.lst ls)→NmL H' ls (ns0.filter p)→Q (.ref acc) H'):CompR (Itl K a) 1 (gName i) tc (tVar i) σ H1 Q:=by
 subst hi
 have len:=nl0.len
 refine comp_list (xs:=ls0) few fun acc hacc=>⟨fun j σ2 ys H2=>NmL H2 ys ((ns0.take j).filter p)∧H2 acc=some (.lst ys)∧Same H1 H2∧∃ ov,σ2=σ++[ov],⟨.nil,upd_same,Same.new hacc,_,rfl⟩,?_,?_,?_⟩
 ·rintro j σ2 ys H2 hj ⟨nl,e2,s2,_⟩
  refine⟨s2.seq ha,?_⟩
  rw[nl.len]
  exact Nat.le_trans (List.length_filter_le _ _) (by rw[List.length_take];omega)
 ·rintro j v σ2 ys H2 hj hx ⟨nl,e2,s2,ov,rfl⟩
  obtain⟨b,rfl,hb1⟩:=nl0.all v (List.mem_of_getElem? hx)
  have hn:ns0[j]? = some (nmOf H1 (.ref b)):=by rw[← nl0.eq,List.getElem?_map,hx];rfl
  obtain⟨x,hx0⟩:∃ x,x=nmOf H1 (.ref b):=⟨_,rfl⟩
  rw[← hx0] at hn hb1
  have hb:=s2 _ _ hb1
  show tc ((σ++[ov]).set σ.length (some (.ref b))) H2 _
  rw[set_last]
  have stepE:(ns0.take (j+1)).filter p=(ns0.take j).filter p++(if p x=true then [x] else []):=by
   rw[List.take_add_one,hn,List.filter_append]
   congr 1
   show List.filter p [x]=_
   rw[List.filter_cons]
   by_cases z:p x=true
   ·rw[if_pos z,if_pos z];rfl
   ·rw[if_neg z,if_neg z];rfl
  refine ht b x H2 (List.mem_of_getElem? hn) hb s2 _ ?_
  by_cases z:p x=true
  ·rw[if_pos z]
   refine⟨_,get_last,e2,Nx.mk hj ⟨?_,upd_same,fun c u e=>?_,_,rfl⟩⟩
   ·rw[stepE,if_pos z]
    exact(nl.snoc ⟨b,rfl,hb⟩).keep fun c ys' e=>by rw[upd_ne (fun y=>by rw[y,e2] at e;cases e)];exact e
   ·rw[upd_ne (ne_of_none e hacc)];exact s2 _ _ e
  ·rw[if_neg z]
   exact Nx.mk hj ⟨by rw[stepE,if_neg z,List.append_nil];exact nl,e2,s2,_,rfl⟩
 ·rintro σ2 ys H2 ⟨nl,e2,s2,_⟩
  rw[len,List.take_length] at nl
  exact hq acc ys H2 hacc s2 e2 nl
theorem sort_nm {H:Hp}{p:Addr}{ls:List V}{ns:List Nm3}{Q:VK}(hp:SqL K H p ls) (nl:NmL H ls ns) (few:ns.length<128) (sm:∀ n∈ns,Small n) (nd:ns.Nodup)
  (k:∀ l ls' ns' H',Same H H'→H l=none→H' l=some (.lst ls')→NmL H' ls' ns'→AscN ns'→ns'.Perm ns→Q (.ref l) H'):rSort3 K [.ref p] H Q:=by
 refine⟨p,ls,rfl,hp,by rw[nl.len];exact few,nl.small sm,by rw[nl.ranks];exact ranks_nodup nd sm,fun l ls' hl pm so=>?_⟩
 obtain⟨ns',n1,n2,n3⟩:=nl.sorted pm so
 exact k l ls' ns' _ (Same.new hl) hl upd_same (n1.same (Same.new hl)) n3 n2
theorem Lo.ta {G H:Hp}{L:LoL}{A:LoA}{n:Nat}(lo:Lo K t G H L A n) (hn:n≤30):A.A.ta.length≤90∧∀ e∈A.A.ta,Small e.1∧∃ l∈A.A.po,l.nm=e.1:=by
 have:=lo.bn
 have lta:=nd_sub (b:=A.A.po.map (·.nm)) lo.wf.nt fun z hz=>by
  obtain⟨e,he,rfl⟩:=List.mem_map.mp hz
  obtain⟨l',hl',y,_⟩:=lo.wf.tp e he
  rw[← y];exact List.mem_map_of_mem hl'
 rw[List.length_map,List.length_map] at lta
 refine⟨by omega,fun e he=>?_⟩
 obtain⟨l,hl,y,_⟩:=lo.wf.tp e he
 exact⟨by rw[← y];exact lo.small hn l hl,l,hl,y⟩
def sp_cc (K:W.Frag) (t:Adr):Sp:=fun vs H Q _=>∃ G L A n a ln,vs=[.ref L.p,.ref a]∧Lo K t G H L A n∧n≤30∧SqL K H a (iV ln)∧ln.length=A.many ∧
 ∀ l ls ns H',Same H H'→H l=none→H' l=some (.lst ls)→NmL H' ls ns→AscN ns→ns.Perm (A.A.brk ln)→Q (.ref l) H'
theorem ok_cc (T:Txt K mg t):FnOk P w K mg base (CXr P w) 2 t.f_cc t.fd_cc ["loom","line"] (sp_cc K t):=by
 refine T.F_cc.okN sc_cc (fun vs H Q E h=>?_) (fun cdv A outer s H vs Q E hr h=>?_)
 ·obtain⟨G,L,A,n,a,ln,rfl,_⟩:=h;rfl
 ·obtain⟨G,L,A,n,a,ln,rfl,lo,hn,ha,hl,k⟩:=h
  refine⟨_,(pss_cons (ps_set (i:=2) sc_cc.nd rfl (Or.inr rfl) (pe_meth0 (pv 0) T.cl_Loom T.me_af (ok_af T) (hr.mono (by decide)) T.b_af .nil passr0))
   (pss_cons (ps_set (i:=3) sc_cc.nd rfl (Or.inr rfl) (pe_meth0 (pv 0) T.cl_Loom T.me_ag (ok_ag T) (hr.mono (by decide)) T.b_ag .nil passr0))
   (pss_cons (ps_setcomp ["loom","line","sent","uses","names","name"] 1 (i:=4) rfl sc_cc.nd rfl (Or.inl rfl) (pi_keys (pv 3)) (fun _ _ _ _ _=>⟨(pg_name (i:=5) (show List.Nodup (["loom","line","sent","uses","names","name"]:List Str) from by decide +kernel) rfl (Or.inl rfl)),(pts_one (pt_val (pe_call (ok_an T) (hr.mono (by decide)) rfl T.mg_an T.kp_an T.b_an .nil passr0 (pa_c (pv 1) (pa_c (pe_ix (ix_tupK (K:=K)) (pe_dget (hu_of hr) (pv 2) (pv 5) (fun _ _=>rfl)) pe_int (fun _ _=>rfl)) (pa_c (pe_dget (hu_of hr) (pv 3) (pv 5) (fun _ _=>rfl)) pa_nil)))))),(pv 5)⟩))
   (pss_one (ps_ret (pe_callB (call_sort3 (K:=K)) rfl T.no_sorted b_sorted (pa_c (pe_comp ["loom","line","sent","uses","names","name"] 1 rfl (pi_listK (K:=K) (pv 4)) (fun _ _ _ _ _=>⟨(pg_name (i:=5) (show List.Nodup (["loom","line","sent","uses","names","name"]:List Str) from by decide +kernel) rfl (Or.inl rfl)),(pts_one (pt_not (pt_val (pe_call (ok_am T) (hr.mono (by decide)) rfl T.mg_am T.kp_am T.b_am .nil passr0 (pa_c (pv 1) (pa_c (pv 5) pa_nil)))))),(pv 5)⟩)) pa_nil))))))),?_⟩
  refine⟨_,rfl,L.p,L.dx,_,rfl,lo.c.self,rfl,G,L,A,n,rfl,lo,hn,fun ds H1 s1 nds e1=>?_⟩
  have lo1:=lo.same s1
  refine⟨_,rfl,L.p,L.dx,_,rfl,lo1.c.self,rfl,G,L,A,n,rfl,lo1,hn,fun du H2 s2 ndu e2=>?_⟩
  refine⟨_,rfl,du,_,rfl,.inl ⟨e2,fun o=>?_⟩⟩
  obtain⟨tal,tas⟩:=lo.ta hn
  have s3:Same H (upd H2 du (.frz o (.dT (A.A.ta.map fun e=>(nk e.1,V.int e.2))))):=fun c u e=>by
   rw[upd_ne (ne_of_none (s1 _ _ e) ndu)];exact s2 _ _ (s1 _ _ e)
  have s13:Same H1 (upd H2 du (.frz o (.dT (A.A.ta.map fun e=>(nk e.1,V.int e.2))))):=fun c u e=>by
   rw[upd_ne (ne_of_none e ndu)];exact s2 _ _ e
  have hd3:upd H2 du (.frz o (.dT (A.A.ta.map fun e=>(nk e.1,V.int e.2)))) du=some (.frz o (.dT (A.A.ta.map fun e=>(nk e.1,V.int e.2)))):=upd_same
  generalize upd H2 du (.frz o (.dT (A.A.ta.map fun e=>(nk e.1,V.int e.2))))=H3 at s3 s13 hd3 ⊢
  refine comp_nmD (f:=fun e:Nm3×Int=>e.1) (g:=fun e=>V.int e.2) (A.A.usedIn ln) (by omega) hd3 rfl (fun b x H4 hx hb4 s4 R hR=>?_) fun acc ls H4 na s4 ea nl=>?_
  ·obtain⟨_,l,hl',el⟩:=tas x hx
   have v1:valV (A.A.po.map fun l=>(nk l.nm,V.ref l.adr)) (nk x.1)=some (.ref l.adr):=by
    rw[← el]
    exact vm_some (fun l:LetA=>nk l.nm) (fun l=>V.ref l.adr) (nd_comp (f:=LetA.nm) nk_inj lo.wf.nd) hl'
   have v2:valV (A.A.ta.map fun e=>(nk e.1,V.int e.2)) (nk x.1)=some (.int x.2):=vm_some (fun e:Nm3×Int=>nk e.1) (fun e=>V.int e.2) (nd_comp (f:=fun x:Nm3×Int=>x.1) nk_inj lo.wf.nt) hx
   have rg:=lo.wf.rg l hl'
   refine⟨_,rfl,_,rfl,_,rfl,ds,.ref l.adr,rfl,.inr ⟨_,nk x.1,b,.inl (s4 _ _ (s13 _ _ e1)),rfl,hb4,v1.symm⟩,l.adr,_,0,.int l.to,rfl,rfl,SqT.of (s4 _ _ (s3 _ _ (lo.c.held _ _ (lo.c.di.lets l hl')))),rfl,_,rfl,_,rfl,du,.int x.2,rfl,.inr ⟨_,nk x.1,b,.inr ⟨o,s4 _ _ hd3⟩,rfl,hb4,v2.symm⟩,a,ln,l.to,x.2,rfl,s4.seq (s3.seq ha),by omega,by rw[hl];omega,_,rfl,?_⟩
   have e:A.A.usedIn ln x=decide (x.2≤lnAt ln l.to):=by unfold DiA.usedIn;rw[← el,toOf_eq lo.wf.nd hl']
   rw[← e];exact hR
  ·have small1:∀ n∈(A.A.ta.filter (A.A.usedIn ln)).map (·.1),∃ e∈A.A.ta,e.1=n:=fun n hn'=>by
    obtain⟨e,he,rfl⟩:=List.mem_map.mp hn'
    exact⟨e,(List.mem_filter.mp he).1,rfl⟩
   have len1:((A.A.ta.filter (A.A.usedIn ln)).map (·.1)).length≤90:=by
    rw[List.length_map]
    exact Nat.le_trans (List.length_filter_le _ _) tal
   refine⟨_,rfl,acc,rfl,⟨_,SqL.of ea⟩,comp_nmL (fun n=>!sentIn ln n) (by rw[nl.len];omega) (SqL.of ea) nl rfl (fun b x H5 hx hb5 s5 R hR=>?_) fun acc2 ls2 H5 na2 s5 ea2 nl2=>?_⟩
   ·obtain⟨e,he,rfl⟩:=small1 x hx
    obtain⟨_,l,hl',el⟩:=tas e he
    have rg:=lo.wf.rg l hl'
    rw[el] at rg
    exact⟨_,rfl,_,rfl,a,b,ln,e.1,rfl,s5.seq (s4.seq (s3.seq ha)),hb5,by omega,by rw[hl];omega,_,rfl,hR⟩
   ·refine sort_nm (SqL.of ea2) nl2 ?_ (fun n hn'=>?_) ?_ fun l ls' ns' H' s6 nl6 e6 n6 asc pm=>k l ls' ns' H' (((s3.trans s4).trans s5).trans s6) (((s3.trans s4).trans s5).free nl6) e6 n6 asc pm
    ·have:=List.length_filter_le (fun n=>!sentIn ln n) ((A.A.ta.filter (A.A.usedIn ln)).map (·.1))
     omega
    ·obtain⟨e,he,rfl⟩:=small1 n (List.mem_filter.mp hn').1
     exact(tas e he).1
    ·exact(lo.wf.nt.sublist ((List.filter_sublist).map _)).sublist List.filter_sublist
def sp_cm (K:W.Frag) (t:Adr):Sp:=fun vs H Q _=>∃ G L A n a ln,vs=[.ref L.p,.ref a]∧Lo K t G H L A n∧n≤30∧SqL K H a (iV ln)∧ln.length=A.many∧∀ H',Same H H'→Q (.bl (A.A.brk ln).isEmpty) H'
theorem ok_cm (T:Txt K mg t):FnOk P w K mg base (CXr P w) 3 t.f_cm t.fd_cm ["loom","line"] (sp_cm K t):=by
 refine T.F_cm.okN sc_cm (fun vs H Q E h=>?_) (fun cdv A outer s H vs Q E hr h=>?_)
 ·obtain⟨G,L,A,n,a,ln,rfl,_⟩:=h;rfl
 ·obtain⟨G,L,A,n,a,ln,rfl,lo,hn,ha,hl,k⟩:=h
  refine⟨_,(pss_one (ps_ret (pe_notT (K:=K) (pe_call (ok_cc T) (hr.mono (by decide)) rfl T.mg_cc T.kp_cc T.b_cc .nil passr0 (pa_c (pv 0) (pa_c (pv 1) pa_nil)))))),?_⟩
  refine⟨_,rfl,_,rfl,G,L,A,n,a,ln,rfl,lo,hn,ha,hl,fun l ls ns H' s1 nl e1 nm _ pm=>⟨_,.inl ⟨ls,SqL.of e1,rfl⟩,?_⟩⟩
  have:(!(!ls.isEmpty))=(A.A.brk ln).isEmpty:=by
   rw[Bool.not_not]
   have h1:ls.length=(A.A.brk ln).length:=by rw[nm.len,pm.length_eq]
   cases h2:ls with
   | nil=>
    rw[h2] at h1
    have h4:A.A.brk ln=[]:=List.eq_nil_of_length_eq_zero h1.symm
    rw[h4]
    rfl
   | cons x r=>
    rw[h2] at h1
    cases h3:A.A.brk ln with
    | nil=>rw[h3] at h1;cases h1
    | cons _ _=>rfl
  rw[this]
  exact k H' s1
def DiA.crs (A:DiA) (ln:List Int):List Nm3:=((A.po.filter fun l=>sentIn ln l.nm).map (·.nm)).filter fun n=>decide (n∉A.ta.map (·.1)) || !decide ((((A.ta.find? fun e=>decide (e.1=n)).map (·.2)).getD 0)≤lnAt ln (A.toOf n))
def sp_cq (K:W.Frag) (t:Adr):Sp:=fun vs H Q _=>∃ G L A n a ln,vs=[.ref L.p,.ref a]∧Lo K t G H L A n∧n≤30∧SqL K H a (iV ln)∧ln.length=A.many ∧
 ∀ l ls ns H',Same H H'→H l=none→H' l=some (.lst ls)→NmL H' ls ns→AscN ns→ns.Perm (A.A.crs ln)→Q (.ref l) H'
theorem ok_cq (T:Txt K mg t):FnOk P w K mg base (CXr P w) 2 t.f_cq t.fd_cq ["loom","line"] (sp_cq K t):=by
 refine T.F_cq.okN sc_cq (fun vs H Q E h=>?_) (fun cdv A outer s H vs Q E hr h=>?_)
 ·obtain⟨G,L,A,n,a,ln,rfl,_⟩:=h;rfl
 ·obtain⟨G,L,A,n,a,ln,rfl,lo,hn,ha,hl,k⟩:=h
  refine⟨_,(pss_cons (ps_set (i:=2) sc_cq.nd rfl (Or.inr rfl) (pe_meth0 (pv 0) T.cl_Loom T.me_af (ok_af T) (hr.mono (by decide)) T.b_af .nil passr0))
   (pss_cons (ps_set (i:=3) sc_cq.nd rfl (Or.inr rfl) (pe_meth0 (pv 0) T.cl_Loom T.me_ag (ok_ag T) (hr.mono (by decide)) T.b_ag .nil passr0))
   (pss_cons (ps_setcomp ["loom","line","sent","uses","names","name"] 1 (i:=4) rfl sc_cq.nd rfl (Or.inl rfl) (pi_keys (pv 2)) (fun _ _ _ _ _=>⟨(pg_name (i:=5) (show List.Nodup (["loom","line","sent","uses","names","name"]:List Str) from by decide +kernel) rfl (Or.inl rfl)),(pts_one (pt_val (pe_call (ok_am T) (hr.mono (by decide)) rfl T.mg_am T.kp_am T.b_am .nil passr0 (pa_c (pv 1) (pa_c (pv 5) pa_nil))))),(pv 5)⟩))
   (pss_one (ps_ret (pe_callB (call_sort3 (K:=K)) rfl T.no_sorted b_sorted (pa_c (pe_comp ["loom","line","sent","uses","names","name"] 1 rfl (pi_listK (K:=K) (pv 4)) (fun _ _ _ _ _=>⟨(pg_name (i:=5) (show List.Nodup (["loom","line","sent","uses","names","name"]:List Str) from by decide +kernel) rfl (Or.inl rfl)),(pts_one (PW.pt (pw_or (pt_cmp (pc_dnotin (hu_of hr) (pv 5) (pv 3))) (pw_or1 (pt_not (pt_val (pe_call (ok_an T) (hr.mono (by decide)) rfl T.mg_an T.kp_an T.b_an .nil passr0 (pa_c (pv 1) (pa_c (pe_ix (ix_tupK (K:=K)) (pe_dget (hu_of hr) (pv 2) (pv 5) (fun _ _=>rfl)) pe_int (fun _ _=>rfl)) (pa_c (pe_dget (hu_of hr) (pv 3) (pv 5) (fun _ _=>rfl)) pa_nil)))))))))),(pv 5)⟩)) pa_nil))))))),?_⟩
  refine⟨_,rfl,L.p,L.dx,_,rfl,lo.c.self,rfl,G,L,A,n,rfl,lo,hn,fun ds H1 s1 nds e1=>?_⟩
  have lo1:=lo.same s1
  refine⟨_,rfl,L.p,L.dx,_,rfl,lo1.c.self,rfl,G,L,A,n,rfl,lo1,hn,fun du H2 s2 ndu e2=>?_⟩
  refine⟨_,rfl,ds,_,rfl,.inl ⟨s2 _ _ e1,fun o=>?_⟩⟩
  have bn:=lo.bn
  have dsu:du≠ds:=fun y=>by rw[y,e1] at ndu;cases ndu
  have s3:Same H (upd H2 ds (.frz o (.dT (A.A.po.map fun l=>(nk l.nm,V.ref l.adr))))):=fun c u e=>by
   rw[upd_ne (ne_of_none e nds)];exact s2 _ _ (s1 _ _ e)
  have hd3:upd H2 ds (.frz o (.dT (A.A.po.map fun l=>(nk l.nm,V.ref l.adr)))) ds=some (.frz o (.dT (A.A.po.map fun l=>(nk l.nm,V.ref l.adr)))):=upd_same
  have hu3:upd H2 ds (.frz o (.dT (A.A.po.map fun l=>(nk l.nm,V.ref l.adr)))) du=some (.dT (A.A.ta.map fun e=>(nk e.1,V.int e.2))):=by rw[upd_ne dsu];exact e2
  generalize upd H2 ds (.frz o (.dT (A.A.po.map fun l=>(nk l.nm,V.ref l.adr))))=H3 at s3 hd3 hu3 ⊢
  refine comp_nmD (f:=fun l:LetA=>l.nm) (g:=fun l=>V.ref l.adr) (fun l=>sentIn ln l.nm) (by omega) hd3 rfl (fun b x H4 hx hb4 s4 R hR=>?_) fun acc ls H4 na s4 ea nl=>?_
  ·have rg:=lo.wf.rg x hx
   exact⟨_,rfl,_,rfl,a,b,ln,x.nm,rfl,s4.seq (s3.seq ha),hb4,by omega,by rw[hl];omega,_,rfl,hR⟩
  ·have in1:∀ n∈(A.A.po.filter fun l=>sentIn ln l.nm).map (·.nm),∃ l∈A.A.po,l.nm=n:=fun n hn'=>by
    obtain⟨l,hl',rfl⟩:=List.mem_map.mp hn'
    exact⟨l,(List.mem_filter.mp hl').1,rfl⟩
   have len1:((A.A.po.filter fun l=>sentIn ln l.nm).map (·.nm)).length≤90:=by
    rw[List.length_map]
    have:=List.length_filter_le (fun l:LetA=>sentIn ln l.nm) A.A.po
    omega
   refine⟨_,rfl,acc,rfl,⟨_,SqL.of ea⟩,comp_nmL (fun n=>decide (n∉A.A.ta.map (·.1)) || !decide ((((A.A.ta.find? fun e=>decide (e.1=n)).map (·.2)).getD 0)≤lnAt ln (A.A.toOf n))) (by rw[nl.len];omega) (SqL.of ea) nl rfl (fun b x H5 hx hb5 s5 R hR=>?_) fun acc2 ls2 H5 na2 s5 ea2 nl2=>?_⟩
   ·obtain⟨l,hl',rfl⟩:=in1 x hx
    have rg:=lo.wf.rg l hl'
    have v1:valV (A.A.po.map fun l=>(nk l.nm,V.ref l.adr)) (nk l.nm)=some (.ref l.adr):=vm_some (fun l:LetA=>nk l.nm) (fun l=>V.ref l.adr) (nd_comp (f:=LetA.nm) nk_inj lo.wf.nd) hl'
    refine⟨_,rfl,_,rfl,du,_,rfl,.inr ⟨_,nk l.nm,b,.inl (s5 _ _ (s4 _ _ hu3)),rfl,hb5,rfl⟩,_,rfl,?_⟩
    rw[ta_isSome lo.wf.nt]
    by_cases z:l.nm∈A.A.ta.map (·.1)
    ·obtain⟨e,he,ez⟩:=List.mem_map.mp z
     have v2:valV (A.A.ta.map fun e=>(nk e.1,V.int e.2)) (nk l.nm)=some (.int e.2):=by
      rw[← ez]
      exact vm_some (fun e:Nm3×Int=>nk e.1) (fun e=>V.int e.2) (nd_comp (f:=fun x:Nm3×Int=>x.1) nk_inj lo.wf.nt) he
     have fe:((A.A.ta.find? fun e=>decide (e.1=l.nm)).map (·.2)).getD 0=e.2:=by
      cases q:A.A.ta.find? fun e=>decide (e.1=l.nm) with
      | none=>
       have:=List.find?_eq_none.mp q e he
       rw[ez] at this
       simp at this
      | some e'=>
       have h1:=List.mem_of_find?_eq_some q
       have h3:=List.find?_some q
       have h2:e'.1=l.nm:=of_decide_eq_true h3
       rw[map_inj' lo.wf.nt h1 he (h2.trans ez.symm)];rfl
     refine iteFe (by simpa using z) ⟨_,rfl,_,rfl,_,rfl,ds,.ref l.adr,rfl,.inr ⟨_,nk l.nm,b,.inr ⟨o,s5 _ _ (s4 _ _ hd3)⟩,rfl,hb5,v1.symm⟩,l.adr,_,0,.int l.to,rfl,rfl,SqT.of (s5 _ _ (s4 _ _ (s3 _ _ (lo.c.held _ _ (lo.c.di.lets l hl'))))),rfl,_,rfl,_,rfl,du,.int e.2,rfl,.inr ⟨_,nk l.nm,b,.inl (s5 _ _ (s4 _ _ hu3)),rfl,hb5,v2.symm⟩,a,ln,l.to,e.2,rfl,s5.seq (s4.seq (s3.seq ha)),by omega,by rw[hl];omega,_,rfl,?_⟩
     have pe:(decide (l.nm∉A.A.ta.map (·.1)) || !decide ((((A.A.ta.find? fun e=>decide (e.1=l.nm)).map (·.2)).getD 0)≤lnAt ln (A.A.toOf l.nm))) = !decide (e.2≤lnAt ln l.to):=by
      rw[fe,toOf_eq lo.wf.nd hl',decide_eq_false (fun y=>y z),Bool.false_or]
     rw[pe] at hR
     exact hR
    ·refine iteTe (by simpa using z) ?_
     rw[decide_eq_true z,Bool.true_or] at hR
     exact hR
   ·refine sort_nm (SqL.of ea2) nl2 ?_ (fun n hn'=>?_) ?_ fun l ls' ns' H' s6 nl6 e6 n6 asc pm=>k l ls' ns' H' (((s3.trans s4).trans s5).trans s6) (((s3.trans s4).trans s5).free nl6) e6 n6 asc pm
    ·refine Nat.lt_of_le_of_lt (List.length_filter_le _ _) ?_
     omega
    ·obtain⟨l,hl',rfl⟩:=in1 n (List.mem_filter.mp hn').1
     exact lo.small hn l hl'
    ·exact(lo.wf.nd.sublist ((List.filter_sublist).map _)).sublist List.filter_sublist
def joinL (a b:List Int):List Int:=(a.zip b).map fun p=>max p.1 p.2
def meetL (a b:List Int):List Int:=(a.zip b).map fun p=>min p.1 p.2
theorem zip_step {a b:List Int}{i:Nat}{x y:Int}(hx:a[i]? = some x) (hy:b[i]? = some y) (f:Int→Int→Int):((a.zip b).take (i+1)).map (fun p=>f p.1 p.2)=((a.zip b).take i).map (fun p=>f p.1 p.2)++[f x y]:=by
 have:(a.zip b)[i]? = some (x,y):=by
  rw[List.getElem?_zip_eq_some];exact⟨hx,hy⟩
 rw[List.take_add_one,this,List.map_append]
 rfl
def sp_cr (K:W.Frag):Sp:=fun vs H Q _=>∃ p q a b,vs=[.ref p,.ref q]∧SqL K H p (iV a)∧SqL K H q (iV b)∧a.length=b.length∧a.length≤100∧∀ l H',Same H H'→H l=none→H' l=some (.lst (iV (joinL a b)))→Q (.ref l) H'
theorem ok_cr (T:Txt K mg t):FnOk P w K mg base (CXr P w) 1 t.f_cr t.fd_cr ["one","other"] (sp_cr K):=by
 refine T.F_cr.okN sc_cr (fun vs H Q E h=>?_) (fun cdv A outer s H vs Q E hr h=>?_)
 ·obtain⟨p,q,a,b,rfl,_⟩:=h;rfl
 ·obtain⟨p,q,a,b,rfl,hp,hq,len,few,k⟩:=h
  refine⟨_,(pss_one (ps_ret (pe_comp ["one","other","pair"] 1 rfl (pi_zipN (K:=K) rfl T.no_zip (pa_c (pv 0) (pa_c (pv 1) pa_nil))) (fun _ _ _ _ _=>⟨(pg_name (i:=2) (show List.Nodup (["one","other","pair"]:List Str) from by decide +kernel) rfl (Or.inl rfl)),pts_nil,(pe_callB (call_maxP rfl (K:=K)) rfl T.no_max b_max (pa_c (pv 2) pa_nil))⟩)))),?_⟩
  refine⟨_,rfl,_,rfl,p,q,_,_,rfl,hp,hq,comp_zipN (xs:=iV a) (ys:=iV b) (by unfold iV;rw[List.length_map];omega) (by unfold iV;rw[List.length_map,List.length_map,len]) fun acc hacc=>⟨fun i σ2 zs H2=>zs=iV (((a.zip b).take i).map fun p=>max p.1 p.2)∧H2 acc=some (.lst zs)∧Same H H2∧∃ o,σ2=[some (.ref p),some (.ref q),o],⟨rfl,upd_same,Same.new hacc,_,rfl⟩,?_,?_,?_⟩⟩
  ·rintro i σ2 zs H2 hi ⟨rfl,_,s2,_⟩
   refine⟨s2.seq hp,s2.seq hq,?_⟩
   unfold iV
   rw[List.length_map,List.length_map,List.length_take];omega
  ·rintro i x y c σ2 zs H2 hi hx hy nc ⟨rfl,e2,s2,o,rfl⟩
   obtain⟨x',hx',rfl⟩:∃ x',a[i]? = some x'∧x=.int x':=by
    unfold iV at hx
    rw[List.getElem?_map] at hx
    cases e:a[i]? with
    | none=>rw[e] at hx;cases hx
    | some z=>rw[e] at hx;cases hx;exact⟨z,rfl,rfl⟩
   obtain⟨y',hy',rfl⟩:∃ y',b[i]? = some y'∧y=.int y':=by
    unfold iV at hy
    rw[List.getElem?_map] at hy
    cases e:b[i]? with
    | none=>rw[e] at hy;cases hy
    | some z=>rw[e] at hy;cases hy;exact⟨z,rfl,rfl⟩
   dsimp only[gName,tYes]
   have s3:Same H2 (upd H2 c (.tup [.int x',.int y'])):=Same.new nc
   refine iteT ⟨_,rfl,c,x',y',rfl,SqT.of upd_same,s3 _ _ e2,Nx.mk hi ⟨?_,upd_same,fun d u e=>?_,_,rfl⟩⟩
   ·rw[zip_step hx' hy' (fun u v=>max u v)]
    unfold iV
    rw[List.map_append];rfl
   ·rw[upd_ne (ne_of_none e hacc)];exact s3 _ _ (s2 _ _ e)
  ·rintro σ2 zs H2 ⟨rfl,e2,s2,o,rfl⟩
   have e3:(iV a).length=a.length:=by unfold iV;rw[List.length_map]
   rw[e3,List.take_of_length_le (by rw[List.length_zip];omega)] at e2
   exact k acc H2 s2 hacc e2
def sp_cs (K:W.Frag):Sp:=fun vs H Q _=>∃ p q a b,vs=[.ref p,.ref q]∧SqL K H p (iV a)∧SqL K H q (iV b)∧a.length=b.length∧a.length≤100∧∀ l H',Same H H'→H l=none→H' l=some (.lst (iV (meetL a b)))→Q (.ref l) H'
theorem ok_cs (T:Txt K mg t):FnOk P w K mg base (CXr P w) 1 t.f_cs t.fd_cs ["one","other"] (sp_cs K):=by
 refine T.F_cs.okN sc_cs (fun vs H Q E h=>?_) (fun cdv A outer s H vs Q E hr h=>?_)
 ·obtain⟨p,q,a,b,rfl,_⟩:=h;rfl
 ·obtain⟨p,q,a,b,rfl,hp,hq,len,few,k⟩:=h
  refine⟨_,(pss_one (ps_ret (pe_comp ["one","other","pair"] 1 rfl (pi_zipN (K:=K) rfl T.no_zip (pa_c (pv 0) (pa_c (pv 1) pa_nil))) (fun _ _ _ _ _=>⟨(pg_name (i:=2) (show List.Nodup (["one","other","pair"]:List Str) from by decide +kernel) rfl (Or.inl rfl)),pts_nil,(pe_callB (call_minP rfl (K:=K)) rfl T.no_min b_min (pa_c (pv 2) pa_nil))⟩)))),?_⟩
  refine⟨_,rfl,_,rfl,p,q,_,_,rfl,hp,hq,comp_zipN (xs:=iV a) (ys:=iV b) (by unfold iV;rw[List.length_map];omega) (by unfold iV;rw[List.length_map,List.length_map,len]) fun acc hacc=>⟨fun i σ2 zs H2=>zs=iV (((a.zip b).take i).map fun p=>min p.1 p.2)∧H2 acc=some (.lst zs)∧Same H H2∧∃ o,σ2=[some (.ref p),some (.ref q),o],⟨rfl,upd_same,Same.new hacc,_,rfl⟩,?_,?_,?_⟩⟩
  ·rintro i σ2 zs H2 hi ⟨rfl,_,s2,_⟩
   refine⟨s2.seq hp,s2.seq hq,?_⟩
   unfold iV
   rw[List.length_map,List.length_map,List.length_take];omega
  ·rintro i x y c σ2 zs H2 hi hx hy nc ⟨rfl,e2,s2,o,rfl⟩
   obtain⟨x',hx',rfl⟩:∃ x',a[i]? = some x'∧x=.int x':=by
    unfold iV at hx
    rw[List.getElem?_map] at hx
    cases e:a[i]? with
    | none=>rw[e] at hx;cases hx
    | some z=>rw[e] at hx;cases hx;exact⟨z,rfl,rfl⟩
   obtain⟨y',hy',rfl⟩:∃ y',b[i]? = some y'∧y=.int y':=by
    unfold iV at hy
    rw[List.getElem?_map] at hy
    cases e:b[i]? with
    | none=>rw[e] at hy;cases hy
    | some z=>rw[e] at hy;cases hy;exact⟨z,rfl,rfl⟩
   dsimp only[gName,tYes]
   have s3:Same H2 (upd H2 c (.tup [.int x',.int y'])):=Same.new nc
   refine iteT ⟨_,rfl,c,x',y',rfl,SqT.of upd_same,s3 _ _ e2,Nx.mk hi ⟨?_,upd_same,fun d u e=>?_,_,rfl⟩⟩
   ·rw[zip_step hx' hy' (fun u v=>min u v)]
    unfold iV
    rw[List.map_append];rfl
   ·rw[upd_ne (ne_of_none e hacc)];exact s3 _ _ (s2 _ _ e)
  ·rintro σ2 zs H2 ⟨rfl,e2,s2,o,rfl⟩
   have e3:(iV a).length=a.length:=by unfold iV;rw[List.length_map]
   rw[e3,List.take_of_length_le (by rw[List.length_zip];omega)] at e2
   exact k acc H2 s2 hacc e2
def sp_be (K:W.Frag) (t:Adr):Sp:=fun vs H Q _=>∃ (c:Int) (m:Nat),vs=[.int c,.int m]∧m≤5 ∧
 ∀ (l:Addr) (has:List Addr) (hbs:List HabA) (H':Hp),Same H H'→H l=none→H' l=some (.lst (has.map V.ref))→has.length=m→hbs.length=m→(∀ (i:Nat) ha hb,has[i]? = some ha→hbs[i]? = some hb→HabO t H' ha hb)→Q (.ref l) H'
theorem ok_be (T:Txt K mg t):FnOk P w K mg base (CXr P w) 4 t.f_be t.fd_be ["_law_cell","_law_many"] (sp_be K t):=by
 refine T.F_be.okN sc_be (fun vs H Q E h=>?_) (fun cdv A outer s H vs Q E hr h=>?_)
 ·obtain⟨c,m,rfl,_⟩:=h;rfl
 ·obtain⟨c,m,rfl,m1,k⟩:=h
  refine⟨_,(pss_cons (ps_set (i:=2) sc_be.nd rfl (Or.inl rfl) (pe_lst pa_nil))
   (pss_cons (ps_for PassesOwn.never rfl (pi_range1 rfl T.no_range (pa_c (pv 1) pa_nil)) (pg_name (i:=3) sc_be.nd rfl (Or.inl rfl))
    (pss_cons (ps_set (i:=4) sc_be.nd rfl (Or.inl rfl) (pe_call (ok_bo T) (hr.mono (by decide)) rfl T.mg_bo T.kp_bo T.b_bo .nil passr0 (pa_c (pv 0) (pa_c (pv 3) (pa_c pe_int pa_nil)))))
   (pss_one (ps_expr (pe_bmK (K:=K) PySem.F.plainAttrs_list PySem.F.slot_list_append PySem.F.type_list_append mt_append (pv 2) (pa_c (pe_ix (ix_listK (K:=K)) (pe_lst (pa_c (pe_makeO T.mk_Never rfl T.mg_Never) (pa_c (pe_makeO T.mk_Each rfl T.mg_Each) (pa_c (pe_make T.mk_Bundle (ok_ba T) (hr.mono (by decide)) rfl T.mg_Bundle T.b_ba .nil passr0 (pa_c (pe_op op_add pe_int (pe_op op_mod (pe_op op_fdiv (pv 4) pe_int) pe_int)) pa_nil)) pa_nil)))) (pe_op op_mod (pv 4) pe_int) (fun _ _=>rfl)) pa_nil))))))
   (pss_one (ps_ret (pv 2))))),?_⟩
  refine⟨by decide,fun l hl=>?_⟩
  refine⟨_,rfl,(m:Int),rfl,by omega,by omega,for_range (lo:=0)
   (fun i σ H2=>(∃ (has:List Addr) (hbs:List HabA),has.length=i∧hbs.length=i∧H2 l=some (.lst (has.map V.ref))∧Same H H2∧∀ (j:Nat) ha hb,has[j]? = some ha→hbs[j]? = some hb→ha≠l∧HabO t H2 ha hb)∧∃ o1 o2,σ=[some (.int c),some (.int m),some (.ref l),o1,o2])
   ⟨⟨[],[],rfl,rfl,upd_same,Same.new hl,(fun j ha hb e=>by simp at e)⟩,_,_,rfl⟩ ?_ ?_⟩
  ·rintro i σ H2 hi ⟨⟨has,hbs,l1,l2,el,s2,hh⟩,o1,o2,rfl⟩
   refine⟨_,rfl,_,rfl,c,_,24,rfl,by omega,by omega,by decide,by decide,fun d d0 d1=>?_⟩
   refine⟨_,rfl,.inl ⟨rfl,_,SqL.of el⟩,?_⟩
   have fin:∀ (H6:Hp) (q:Addr) (hb:HabA),Same H2 H6→H2 q=none→HabO t H6 q hb →
     ∃ (has':List Addr) (hbs':List HabA),has'.length=i+1∧hbs'.length=i+1∧upd H6 l (.lst (has.map V.ref++[.ref q])) l=some (.lst (has'.map V.ref))∧Same H (upd H6 l (.lst (has.map V.ref++[.ref q]))) ∧
      ∀ (j:Nat) ha hb,has'[j]? = some ha→hbs'[j]? = some hb→ha≠l∧HabO t (upd H6 l (.lst (has.map V.ref++[.ref q]))) ha hb:=fun H6 q hb s6 nq hq=>by
    have up:∀ {ha:Addr} {hb:HabA},ha≠l→HabO t H6 ha hb→HabO t (upd H6 l (.lst (has.map V.ref++[.ref q]))) ha hb:=fun {ha hb} n h=>by
     cases hb<;>exact let ⟨dx,z⟩:=h;⟨dx,by rw[upd_ne n];exact z⟩
    refine⟨has++[q],hbs++[hb],by simp[l1],by simp[l2],by rw[upd_same,List.map_append];rfl,fun c u e=>?_,fun j ha hb' e1 e2=>?_⟩
    ·rw[upd_ne (ne_of_none e hl)];exact s6 _ _ (s2 _ _ e)
    ·rcases Nat.lt_trichotomy j i with g|g|g
     ·rw[List.getElem?_append_left (by omega)] at e1 e2
      obtain⟨n,h⟩:=hh j ha hb' e1 e2
      exact⟨n,up n (h.same s6)⟩
     ·subst g
      rw[List.getElem?_append_right (by omega),l1,Nat.sub_self] at e1
      rw[List.getElem?_append_right (by omega),l2,Nat.sub_self] at e2
      have n:q≠l:=fun z=>by rw[z,el] at nq;cases nq
      cases e1;cases e2
      exact⟨n,up n hq⟩
     ·rw[List.getElem?_eq_none (by rw[List.length_append,List.length_singleton];omega)] at e1;cases e1
   intro q1 x1 n1 m1' w1 q2 x2 n2 m2 w2
   have t0:=Int.emod_nonneg (d/3) (b:=8) (by decide)
   have t1:=Int.emod_lt_of_pos (d/3) (b:=8) (by decide)
   refine⟨_,rfl,_,_,rfl,rfl,⟨by decide,by decide⟩,_,_,rfl,rfl,by show (0:Int)<8;decide,_,_,rfl,rfl,fun q3 x3 n3 m3 w3=>⟨q3,x3,_,rfl,upd_same,fun _ _=>⟨rfl,by show 3≤sizeLine;decide,fun b nb=>?_⟩,fun z=>absurd ⟨by omega,by omega⟩ z⟩⟩
   have fr:∀ {q:Addr} {H1:Hp},Same H2 H1→H1 q=none→H2 q=none:=fun {q H1} s z=>by
    cases e:H2 q with
    | none=>rfl
    | some u=>rw[s _ _ e] at z;cases z
   have s1:=Same.ins (o:=.ins t.c_Never x1 []) n1 m1'
   have s2':=Same.ins (o:=.ins t.c_Each x2 []) n2 m2
   have s3:=Same.ins (o:=.ins t.c_Bundle x3 []) n3 m3
   generalize e1:upd (upd H2 x1 (HO.own q1)) q1 (HO.ins t.c_Never x1 [])=J1 at *
   generalize e2:upd (upd J1 x2 (HO.own q2)) q2 (HO.ins t.c_Each x2 [])=J2 at *
   generalize e3:upd (upd J2 x3 (HO.own q3)) q3 (HO.ins t.c_Bundle x3 [])=J3 at *
   have s4:Same J2 (upd J3 q3 (.ins t.c_Bundle x3 (putF "size" (.int (1+d/3%8)) []))):=fun c u e=>by
    rw[upd_ne (ne_of_none e n3)];exact s3 _ _ e
   have s5:=Same.new (o:=.lst [.ref q1,.ref q2,.ref q3]) nb
   have sa:Same H2 _:=s1.trans (s2'.trans (s4.trans s5))
   have cs:d%3=0∨d%3=1∨d%3=2:=by omega
   have la:has.length<sizeLine:=Nat.lt_of_le_of_lt (show has.length≤5 by rw[Int.toNat_natCast] at hi;omega) (by decide)
   have la':(has.map V.ref).length<sizeLine:=by rw[List.length_map];exact la
   rcases cs with e|e|e
   ·exact⟨_,rfl,_,_,rfl,rfl,by show (0:Int)<3;decide,b,_,_,.ref q1,rfl,rfl,SqL.of upd_same,(by rw[e];rfl),l,_,.ref q1,rfl,rfl,sa _ _ el,la',fin _ q1 .never sa n1 ⟨x1,(s2'.trans (s4.trans s5)) _ _ (by rw[← e1];exact upd_same)⟩,_,_,rfl⟩
   ·exact⟨_,rfl,_,_,rfl,rfl,by show (0:Int)<3;decide,b,_,_,.ref q2,rfl,rfl,SqL.of upd_same,(by rw[e];rfl),l,_,.ref q2,rfl,rfl,sa _ _ el,la',fin _ q2 .each sa (fr s1 n2) ⟨x2,(s4.trans s5) _ _ (by rw[← e2];exact upd_same)⟩,_,_,rfl⟩
   ·exact⟨_,rfl,_,_,rfl,rfl,by show (0:Int)<3;decide,b,_,_,.ref q3,rfl,rfl,SqL.of upd_same,(by rw[e];rfl),l,_,.ref q3,rfl,rfl,sa _ _ el,la',fin _ q3 (.bundle (1+d/3%8)) sa (fr (s1.trans s2') n3) ⟨x3,s5 _ _ upd_same⟩,_,_,rfl⟩
  ·rintro σ H2 ⟨⟨has,hbs,l1,l2,el,s2,hh⟩,o1,o2,rfl⟩
   rw[Int.toNat_natCast] at l1 l2
   exact⟨_,rfl,k l has hbs H2 s2 hl el l1 l2 fun j ha hb e1 e2=>(hh j ha hb e1 e2).2⟩
def DeedO (A:LoA) (H:Hp) (v:V):Prop:=∃ b,v=.ref b∧((∃ (j:Nat),j<A.many∧H b=some (.tup [.str "own",.int j]))∨(∃ (j:Nat),j<A.many∧H b=some (.tup [.str "write",.int j])) ∨
 ∃ (j:Nat) (c:Addr) (l:LetA),j<A.many∧H b=some (.tup [.str "use",.int j,.ref c])∧H c=some (.tup (nV l.nm))∧l∈A.A.po∧l.nm∉A.A.ta.map (·.1)∧l.to=j∧(A.ord=true→∀ l'∈A.A.po,l'.nm∉A.A.ta.map (·.1)→l'.nm.1=l.nm.1→l'.to=l.to→cd3 l.nm≤cd3 l'.nm))
theorem DeedO.keep {A:LoA}{H H':Hp}{v:V}(s:∀ b xs,H b=some (.tup xs)→H' b=some (.tup xs)) (h:DeedO A H v):DeedO A H' v:=by
 obtain⟨b,e,h⟩:=h
 refine⟨b,e,?_⟩
 rcases h with ⟨j,h1,h2⟩|⟨j,h1,h2⟩|⟨j,c,l,h1,h2,h3,h4⟩
 ·exact .inl ⟨j,h1,s _ _ h2⟩
 ·exact .inr (.inl ⟨j,h1,s _ _ h2⟩)
 ·exact .inr (.inr ⟨j,c,l,h1,s _ _ h2,s _ _ h3,h4⟩)
def DeedsP (A:LoA) (L:LoL) (H4:Hp) (l ds wd:Addr) (ns:List Nm3) (i:Nat) (σ:St) (H:Hp):Prop:=∃ fs kvs o4 o5 o6,H l=some (.lst fs)∧fs.length≤i∧(∀ v∈fs,DeedO A H v)∧H wd=some (.dT kvs)∧kvs.length≤i ∧
 (∀ j,j<i→∀ x∈A.A.po,ns[j]? = some x.nm→(valV kvs (wk (x.nm.1,x.to))).isSome=true)∧(∀ c u,c≠l→c≠wd→H4 c=some u→H c=some u)∧σ=[some (.ref L.p),some (.ref l),some (.ref ds),some (.ref wd),o4,o5,o6]
def sp_bq (K:W.Frag) (t:Adr):Sp:=fun vs H Q _=>∃ G L A n,vs=[.ref L.p]∧Lo K t G H L A n∧n≤30∧∀ l ds H',Same H H'→H l=none→H' l=some (.lst ds)→0<ds.length→ds.length≤100→(∀ v∈ds,DeedO A H' v)→Q (.ref l) H'
theorem ok_bq (T:Txt K mg t):FnOk P w K mg base (CXr P w) 2 t.f_bq t.fd_bq ["_law_loom_here"] (sp_bq K t):=by
 refine T.F_bq.okN sc_bq (fun vs H Q E h=>?_) (fun cdv A outer s H vs Q E hr h=>?_)
 ·obtain⟨G,L,A,n,rfl,_⟩:=h;rfl
 ·obtain⟨G,L,A,n,rfl,lo,hn,k⟩:=h
  refine⟨_,(pss_cons (ps_set (i:=1) sc_bq.nd rfl (Or.inl rfl) (pe_lst pa_nil))
   (pss_cons (ps_set (i:=2) sc_bq.nd rfl (Or.inl rfl) (pe_meth0 (pv 0) T.cl_Loom T.me_af (ok_af T) (hr.mono (by decide)) T.b_af .nil passr0))
   (pss_cons (ps_set (i:=3) sc_bq.nd rfl (Or.inl rfl) pe_dnewT)
   (pss_cons (ps_for PassesOwn.never rfl (pi_listK (K:=K) (pe_meth0 (pv 0) T.cl_Loom T.me_ca (ok_ca T) (hr.mono (by decide)) T.b_ca .nil passr0)) (pg_name (i:=4) sc_bq.nd rfl (Or.inl rfl))
    (pss_cons (ps_set (i:=5) sc_bq.nd rfl (Or.inl rfl) (pe_tup (pa_c (pe_ix (ix_tupK (K:=K)) (pv 4) pe_int (fun _ _=>rfl)) (pa_c (pe_ix (ix_tupK (K:=K)) (pe_dget (hu_of hr) (pv 2) (pv 4) (fun _ _=>rfl)) pe_int (fun _ _=>rfl)) pa_nil))))
   (pss_cons (ps_if (PW.pt (pw_or (pt_not (pt_val (pe_fldK (K:=K) (pv 0) rfl))) (pw_or1 (pt_cmp (pc_dnotin (hu_of hr) (pv 5) (pv 3))))))
    (pss_one (ps_expr (pe_bmK (K:=K) PySem.F.plainAttrs_list PySem.F.slot_list_append PySem.F.type_list_append mt_append (pv 1) (pa_c (pe_tup (pa_c pe_str (pa_c (pe_ix (ix_tupK (K:=K)) (pv 5) pe_int (fun _ _=>rfl)) (pa_c (pv 4) pa_nil)))) pa_nil))))
    pss_nil)
   (pss_one (ps_dput (hu_of hr) (pv 3) (pv 5) pe_bl rfl)))))
   (pss_cons (ps_for PassesOwn.never rfl (pi_range1 rfl T.no_range (pa_c (pe_fldK (K:=K) (pv 0) rfl) pa_nil)) (pg_name (i:=6) sc_bq.nd rfl (Or.inl rfl))
    (pss_cons (ps_expr (pe_bmK (K:=K) PySem.F.plainAttrs_list PySem.F.slot_list_append PySem.F.type_list_append mt_append (pv 1) (pa_c (pe_tup (pa_c pe_str (pa_c (pv 6) pa_nil))) pa_nil)))
   (pss_one (ps_expr (pe_bmK (K:=K) PySem.F.plainAttrs_list PySem.F.slot_list_append PySem.F.type_list_append mt_append (pv 1) (pa_c (pe_tup (pa_c pe_str (pa_c (pv 6) pa_nil))) pa_nil))))))
   (pss_one (ps_ret (pv 1)))))))),?_⟩
  refine⟨by decide,fun l hl=>?_⟩
  have s1:=Same.new (o:=.lst []) hl
  have lo1:=lo.same s1
  refine⟨_,rfl,L.p,L.dx,_,rfl,lo1.c.self,rfl,G,L,A,n,rfl,lo1,hn,fun ds H2 s2 nds e2 wd nwd=>?_⟩
  have el2:=s2 _ _ (upd_same (H:=H) (a:=l) (o:=.lst []))
  have s13:=s1.trans s2
  generalize upd H l (.lst [])=H1 at s1 lo1 s2 nds
  have s3:=Same.new (o:=.dT []) nwd
  have s03:=s13.trans s3
  have lo3:=lo.same s03
  refine⟨_,rfl,L.p,L.dx,_,rfl,lo3.c.self,rfl,G,L,A,n,rfl,lo3,hn,fun r ls ns H4 s4 nr er nl as pm=>?_⟩
  have s04:=s03.trans s4
  have el4:=(s3.trans s4) _ _ el2
  have ew4:=s4 _ _ (upd_same (H:=H2) (a:=wd) (o:=.dT []))
  have ed4:=(s3.trans s4) _ _ e2
  have lw:l≠wd:=fun z=>by rw[z,ew4] at el4;cases el4
  have rl:r≠l:=fun z=>by rw[z,(s3 _ _ el2)] at nr;cases nr
  have rw':r≠wd:=fun z=>by rw[z,upd_same] at nr;cases nr
  have dl:ds≠l:=fun z=>by rw[z,el4] at ed4;cases ed4
  have dw:ds≠wd:=fun z=>by rw[z,nwd] at e2;cases e2
  have lo4:=lo.same s04
  have nsl:ns.length≤90:=by
   rw[pm.length_eq,List.length_map]
   have:=List.length_filter_le (fun l:LetA=>decide (l.nm∉A.A.ta.map (·.1))) A.A.po
   have:=lo.bn
   unfold DiA.free;omega
  have lsl:=nl.len
  have pl:∀ {c:Addr},c=l∨c=wd→H c=none:=fun {c} z=>by
   rcases z with rfl|rfl
   ·exact hl
   ·exact s13.free nwd
  have frame:∀ {H5:Hp},(∀ c u,c≠l→c≠wd→H4 c=some u→H5 c=some u)→Same H H5:=fun {H5} h c u e=>h c u (ne_of_none e hl) (ne_of_none e (s13.free nwd)) (s04 _ _ e)
  refine⟨r,rfl,⟨_,SqL.of er⟩,for_list (xs:=ls) (DeedsP A L H4 l ds wd ns) ⟨[],[],_,_,_,el4,Nat.le_refl _,(fun v hv=>by cases hv),ew4,Nat.le_refl _,(fun j hj=>absurd hj (Nat.not_lt_zero _)),fun c u _ _ e=>e,rfl⟩ ?_ ?_ ?_⟩
  ·rintro i σ2 H5 _ ⟨fs,kvs,o4,o5,o6,_,_,_,_,_,_,fr,_⟩
   exact SqL.of (fr _ _ rl rw' er)
  ·rintro i x σ2 H5 hx ⟨fs,kvs,o4,o5,o6,f1,f2,f3,f4,f5,f6,fr,rfl⟩
   have i90:i<90:=by have:=(List.getElem?_eq_some_iff.mp hx).1;omega
   obtain⟨n0,b,rfl,hb⟩:∃ n0,IsNm H4 x n0:=⟨_,nl.all x (List.mem_of_getElem? hx)⟩
   have hn0:ns[i]? = some n0:=by
    rw[← nl.eq,List.getElem?_map,hx]
    exact congrArg some (IsNm.of ⟨b,rfl,hb⟩)
   obtain⟨l0,hl0,rfl⟩:=List.mem_map.mp (pm.mem_iff.mp (List.mem_of_getElem? hn0))
   obtain⟨hp0,ht0⟩:=List.mem_filter.mp hl0
   have ht0:l0.nm∉A.A.ta.map (·.1):=of_decide_eq_true ht0
   have v1:valV (A.A.po.map fun l=>(nk l.nm,V.ref l.adr)) (nk l0.nm)=some (.ref l0.adr):=vm_some (fun l:LetA=>nk l.nm) (fun l=>V.ref l.adr) (nd_comp (f:=LetA.nm) nk_inj lo.wf.nd) hp0
   have rg:=lo.wf.rg l0 hp0
   have tup5:∀ {c xs},H4 c=some (.tup xs)→H5 c=some (.tup xs):=fun {c xs} e=>fr _ _ (fun z=>by rw[z,el4] at e;cases e) (fun z=>by rw[z,ew4] at e;cases e) e
   have hb5:=tup5 hb
   have ha5:=tup5 (s04 _ _ (lo.c.held _ _ (lo.c.di.lets l0 hp0)))
   refine⟨_,rfl,b,_,0,.int l0.nm.1,rfl,rfl,SqT.of hb5,atI_zero,_,rfl,_,rfl,ds,.ref l0.adr,rfl,.inr ⟨_,nk l0.nm,b,.inl (fr _ _ dl dw ed4),rfl,hb5,v1.symm⟩,l0.adr,_,0,.int l0.to,rfl,rfl,SqT.of ha5,atI_zero,by show 2≤sizeLine;decide,fun kb hkb=>?_⟩
   have s6:=Same.new (o:=.tup [.int l0.nm.1,.int l0.to]) hkb
   have hb6:=s6 _ _ hb5
   have g1:=s6 _ _ f1
   have g3:∀ v∈fs,DeedO A _ v:=fun v hv=>(f3 v hv).keep fun c xs e=>s6 _ _ e
   have g4:=s6 _ _ f4
   have gk:=upd_same (H:=H5) (a:=kb) (o:=.tup [.int l0.nm.1,.int l0.to])
   have g7:∀ c u,c≠l→c≠wd→H4 c=some u→upd H5 kb (.tup [.int l0.nm.1,.int l0.to]) c=some u:=fun c u n1 n2 e=>s6 _ _ (fr c u n1 n2 e)
   generalize upd H5 kb (.tup [.int l0.nm.1,.int l0.to])=H6 at s6 hb6 g1 g3 g4 gk g7 ⊢
   have fin:∀ (H7:Hp) (fs':List V),H7 l=some (.lst fs')→fs'.length≤i+1→(∀ v∈fs',DeedO A H7 v)→H7 wd=some (.dT kvs)→(∀ c u,c≠l→c≠wd→H4 c=some u→H7 c=some u) →
     DeedsP A L H4 l ds wd ns (i+1) [some (.ref L.p),some (.ref l),some (.ref ds),some (.ref wd),some (.ref b),some (.ref kb),o6] (upd H7 wd (.dT (putK kvs (wk (l0.nm.1,l0.to)) (.bl true)))):=fun H7 fs' a1 a2 a3 a4 a5=>by
    refine⟨fs',_,_,_,_,by rw[upd_ne lw];exact a1,a2,fun v hv=>(a3 v hv).keep fun c xs e=>by rw[upd_ne (fun z=>by rw[z,a4] at e;cases e)];exact e,upd_same,Nat.le_trans (length_putK _ _ _) (by omega),fun j hj x hx ej=>?_,fun c u n1 n2 e=>by rw[upd_ne n2];exact a5 c u n1 n2 e,rfl⟩
    rw[valV_put]
    by_cases z:wk (x.nm.1,x.to)=wk (l0.nm.1,l0.to)
    ·rw[if_pos z];rfl
    ·rw[if_neg z]
     rcases Nat.lt_succ_iff_lt_or_eq.mp hj with q|q
     ·exact f6 j q x hx ej
     ·rw[q,hn0] at ej
      exact absurd (by rw[nm_unique lo.wf.nd hx hp0 (Option.some.inj ej).symm]) z
   have kl:kvs.length<sizeLine:=small1000 (by omega)
   have noUse:DeedsP A L H4 l ds wd ns (i+1) [some (.ref L.p),some (.ref l),some (.ref ds),some (.ref wd),some (.ref b),some (.ref kb),o6] (upd H6 wd (.dT (putK kvs (wk (l0.nm.1,l0.to)) (.bl true)))):=fin H6 fs g1 (by omega) g3 g4 g7
   have use:∀ ub,H6 ub=none→(A.ord=true→valV kvs (wk (l0.nm.1,l0.to))=none)→∀ H7,H7=upd (upd H6 ub (.tup [.str "use",.int l0.to,.ref b])) l (.lst (fs++[.ref ub]))→(H7 wd=some (.dT kvs)∧H7 kb=some (.tup [.int l0.nm.1,.int l0.to]))∧DeedsP A L H4 l ds wd ns (i+1) [some (.ref L.p),some (.ref l),some (.ref ds),some (.ref wd),some (.ref b),some (.ref kb),o6] (upd H7 wd (.dT (putK kvs (wk (l0.nm.1,l0.to)) (.bl true)))):=fun ub nub hv H7 e7=>by
    have s7:=Same.new (o:=.tup [.str "use",.int l0.to,.ref b]) nub
    have tp:∀ {c xs},upd H6 ub (.tup [.str "use",.int l0.to,.ref b]) c=some (.tup xs)→H7 c=some (.tup xs):=fun {c xs} e=>by
     rw[e7,upd_ne (fun z=>by rw[z,s7 _ _ g1] at e;cases e)];exact e
    have w7:H7 wd=some (.dT kvs):=by rw[e7,upd_ne (Ne.symm lw)];exact s7 _ _ g4
    refine⟨⟨w7,tp (s7 _ _ gk)⟩,fin H7 _ (by rw[e7];exact upd_same) (by rw[List.length_append,List.length_singleton];omega) (fun v hv'=>?_) w7 fun c u n1 n2 e=>by rw[e7,upd_ne n1];exact s7 _ _ (g7 c u n1 n2 e)⟩
    rcases List.mem_append.mp hv' with z|z
    ·exact(g3 v z).keep fun c xs e=>tp (s7 _ _ e)
    ·rw[List.mem_singleton] at z
     subst z
     refine⟨ub,rfl,.inr (.inr ⟨l0.to.toNat,b,l0,by omega,?_,tp (s7 _ _ hb6),hp0,ht0,by omega,fun ho l' hl' nt' e1 e2=>?_⟩)⟩
     ·rw[Int.toNat_of_nonneg rg.2.2.2.2.2.2.1];exact tp upd_same
     ·have hv:=hv ho
      have m':l'.nm∈ns:=pm.mem_iff.mpr (List.mem_map_of_mem (List.mem_filter.mpr ⟨hl',by simpa using nt'⟩))
      obtain⟨j,hj⟩:=List.getElem?_of_mem m'
      rcases Nat.lt_trichotomy j i with q|q|q
      ·have:=f6 j q l' hl' hj
       rw[e1,e2,hv] at this;cases this
      ·rw[q,hn0] at hj
       rw[Option.some.inj hj];exact Int.le_refl _
      ·obtain⟨b1,c1⟩:=List.getElem?_eq_some_iff.mp hn0
       obtain⟨b2,c2⟩:=List.getElem?_eq_some_iff.mp hj
       have:=List.pairwise_iff_getElem.mp as i j b1 b2 q
       rw[c1,c2] at this
       omega
   refine⟨_,rfl,L.p,_,L.dx,_,_,rfl,s6 _ _ (frame fr _ _ lo.c.self),T.cl_Loom,T.na_ay,rfl,A.ord,rfl,ite2 (fun z=>iteT ?_) fun z=>?_⟩
   ·refine⟨_,rfl,.inl ⟨rfl,_,SqL.of g1⟩,_,rfl,kb,_,1,.int l0.to,rfl,rfl,SqT.of gk,rfl,_,rfl,by show 3≤sizeLine;decide,fun ub nub=>⟨l,fs,.ref ub,rfl,rfl,Same.new nub _ _ g1,small1000 (by omega),?_⟩⟩
    obtain⟨⟨u1,u2⟩,u3⟩:=use ub nub (fun h=>by rw[h] at z;cases z) _ rfl
    exact⟨_,rfl,_,rfl,wd,_,rfl,.inr ⟨kvs,wk (l0.nm.1,l0.to),kb,u1,rfl,u2,kl,rfl⟩,u3⟩
   ·refine⟨_,rfl,_,rfl,wd,_,rfl,.inr ⟨kvs,wk (l0.nm.1,l0.to),kb,.inl g4,rfl,gk,rfl⟩,_,rfl,?_⟩
    cases ev:valV kvs (wk (l0.nm.1,l0.to)) with
    | some v=>exact iteF ⟨_,rfl,_,rfl,wd,_,rfl,.inr ⟨kvs,wk (l0.nm.1,l0.to),kb,g4,rfl,gk,kl,rfl⟩,noUse⟩
    | none=>
     refine iteT ⟨_,rfl,.inl ⟨rfl,_,SqL.of g1⟩,_,rfl,kb,_,1,.int l0.to,rfl,rfl,SqT.of gk,rfl,_,rfl,by show 3≤sizeLine;decide,fun ub nub=>⟨l,fs,.ref ub,rfl,rfl,Same.new nub _ _ g1,small1000 (by omega),?_⟩⟩
     obtain⟨⟨u1,u2⟩,u3⟩:=use ub nub (fun h=>ev) _ rfl
     exact⟨_,rfl,_,rfl,wd,_,rfl,.inr ⟨kvs,wk (l0.nm.1,l0.to),kb,u1,rfl,u2,kl,rfl⟩,u3⟩
  ·rintro σ2 H5 ⟨fs,kvs,o4,o5,o6,f1,f2,f3,f4,f5,f6,fr,rfl⟩
   have m2:=lo.m2
   refine⟨_,rfl,L.p,_,L.dx,_,_,rfl,frame fr _ _ lo.c.self,T.cl_Loom,T.na_cg,rfl,(A.many:Int),rfl,by omega,by omega,for_range (lo:=0)
    (fun i σ3 H6=>∃ fs' o6,H6 l=some (.lst fs')∧(i≠0→0<fs'.length)∧fs'.length≤90+2*i∧(∀ v∈fs',DeedO A H6 v)∧Same H H6∧σ3=[some (.ref L.p),some (.ref l),some (.ref ds),some (.ref wd),o4,o5,o6])
    ⟨fs,_,f1,fun z=>absurd rfl z,by omega,f3,frame fr,rfl⟩ ?_ ?_⟩
   ·rintro i σ3 H6 hi ⟨fs',o6',a1,a2,a3,a4,a5,rfl⟩
    rw[Int.toNat_natCast] at hi
    refine⟨_,rfl,.inl ⟨rfl,_,SqL.of a1⟩,_,rfl,by show 2≤sizeLine;decide,fun b1 nb1=>⟨l,fs',.ref b1,rfl,rfl,Same.new nb1 _ _ a1,small1000 (by omega),?_⟩⟩
    have s7:=Same.new (o:=.tup [.str "own",.int (0+i)]) nb1
    have t7:∀ c xs,upd H6 b1 (.tup [.str "own",.int (0+i)]) c=some (.tup xs)→upd (upd H6 b1 (.tup [.str "own",.int (0+i)])) l (.lst (fs'++[.ref b1])) c=some (.tup xs):=fun c xs e=>by
     rw[upd_ne (fun z=>by rw[z,s7 _ _ a1] at e;cases e)];exact e
    have o7:∀ v∈fs'++[.ref b1],DeedO A (upd (upd H6 b1 (.tup [.str "own",.int (0+i)])) l (.lst (fs'++[.ref b1]))) v:=fun v hv=>by
     rcases List.mem_append.mp hv with z|z
     ·exact(a4 v z).keep fun c xs e=>t7 _ _ (s7 _ _ e)
     ·rw[List.mem_singleton] at z
      subst z
      exact⟨b1,rfl,.inl ⟨i,hi,t7 _ _ (by rw[upd_same,Int.zero_add])⟩⟩
    have l7:upd (upd H6 b1 (.tup [.str "own",.int (0+i)])) l (.lst (fs'++[.ref b1])) l=some (.lst (fs'++[.ref b1])):=upd_same
    have sm7:Same H (upd (upd H6 b1 (.tup [.str "own",.int (0+i)])) l (.lst (fs'++[.ref b1]))):=fun c u e=>by
     rw[upd_ne (ne_of_none e hl)];exact s7 _ _ (a5 _ _ e)
    generalize upd (upd H6 b1 (.tup [.str "own",.int (0+i)])) l (.lst (fs'++[.ref b1]))=H7 at o7 l7 sm7 ⊢
    have le7:(fs'++[V.ref b1]).length=fs'.length+1:=by simp
    refine⟨_,rfl,.inl ⟨rfl,_,SqL.of l7⟩,_,rfl,by show 2≤sizeLine;decide,fun b2 nb2=>⟨l,_,.ref b2,rfl,rfl,Same.new nb2 _ _ l7,small1000 (by omega),?_⟩⟩
    have s8:=Same.new (o:=.tup [.str "write",.int (0+i)]) nb2
    have t8:∀ c xs,upd H7 b2 (.tup [.str "write",.int (0+i)]) c=some (.tup xs)→upd (upd H7 b2 (.tup [.str "write",.int (0+i)])) l (.lst ((fs'++[.ref b1])++[.ref b2])) c=some (.tup xs):=fun c xs e=>by
     rw[upd_ne (fun z=>by rw[z,s8 _ _ l7] at e;cases e)];exact e
    refine⟨_,_,upd_same,fun _=>by simp,by rw[List.length_append,le7,List.length_singleton];omega,fun v hv=>?_,fun c u e=>?_,rfl⟩
    ·rcases List.mem_append.mp hv with z|z
     ·exact(o7 v z).keep fun c xs e=>t8 _ _ (s8 _ _ e)
     ·rw[List.mem_singleton] at z
      subst z
      exact⟨b2,rfl,.inr (.inl ⟨i,hi,t8 _ _ (by rw[upd_same,Int.zero_add])⟩)⟩
    ·rw[upd_ne (ne_of_none e hl)];exact s8 _ _ (sm7 _ _ e)
   ·rintro σ3 H6 ⟨fs',o6',a1,a2,a3,a4,a5,rfl⟩
    rw[Int.toNat_natCast] at a2 a3
    exact⟨_,rfl,k l fs' H6 a5 hl a1 (a2 (by omega)) (by omega) a4⟩
theorem but_next {S1 S2:List Addr}{H H1 H2:Hp}(b1:But S1 H H1) (b2:But S2 H1 H2) (f:∀ b∈S2,b∈S1∨H b=none):But S1 H H2:=fun c u n e=>
 b2 c u (fun z=>(f c z).elim n (fun z'=>by rw[z'] at e;cases e)) (b1 c u n e)
theorem own_next {S1 S2 S3:List Addr}{H H1:Hp}(b1:But S1 H H1) (f:∀ b∈S2,b∈S1∨H b=none) (g:∀ b∈S3,b∈S2∨H1 b=none):∀ b∈S3,b∈S1∨H b=none:=fun b hb=>by
 rcases g b hb with z|z
 ·exact f b z
 ·by_cases y:b∈S1
  ·exact .inl y
  ·refine .inr ?_
   cases e:H b with
   | none=>rfl
   | some u=>rw[b1 b u y e] at z;cases z
def sp_br (K:W.Frag) (t:Adr):Sp:=fun vs H Q _=>∃ G L A,∃ c:Int,∃ m:Nat,vs=[.ref L.p,.int c,.int m]∧Lo K t G H L A 0∧m≤30∧∀ G' H' A',But (L.own A) H H'→Lo K t G' H' L A' m→A'.many=A.many→Q .non H'
theorem ok_br (T:Txt K mg t):FnOk P w K mg base (CXr P w) 7 t.f_br t.fd_br ["_law_loom_here","_law_cell","_law_size"] (sp_br K t):=by
 refine T.F_br.okN sc_br (fun vs H Q E h=>?_) (fun cdv A outer s H vs Q E hr h=>?_)
 ·obtain⟨G,L,A,c,m,rfl,_⟩:=h;rfl
 ·obtain⟨G,L,A,c,m,rfl,lo,hm,k⟩:=h
  refine⟨_,(pss_one (ps_for PassesOwn.never rfl (pi_range1 rfl T.no_range (pa_c (pv 2) pa_nil)) (pg_name (i:=3) sc_br.nd rfl (Or.inl rfl))
    (pss_cons (ps_set (i:=4) sc_br.nd rfl (Or.inl rfl) (pe_call (ok_bq T) (hr.mono (by decide)) rfl T.mg_bq T.kp_bq T.b_bq .nil passr0 (pa_c (pv 0) pa_nil)))
   (pss_cons (ps_set (i:=5) sc_br.nd rfl (Or.inl rfl) (pe_ix (ix_listK (K:=K)) (pv 4) (pe_op op_mod (pe_call (ok_bo T) (hr.mono (by decide)) rfl T.mg_bo T.kp_bo T.b_bo .nil passr0 (pa_c (pv 1) (pa_c (pv 3) (pa_c pe_int pa_nil)))) (pe_callB (call_lenK (K:=K)) rfl T.no_len b_len (pa_c (pv 4) pa_nil))) (fun _ _=>rfl)))
   (pss_one (ps_if (pt_cmpR op_eq (pe_ix (ix_tupK (K:=K)) (pv 5) pe_int (fun _ _=>rfl)) pe_str (nomark _))
    (pss_one (ps_expr (pe_meth (pv 0) T.cl_Loom T.me_cl (ok_cl T) (hr.mono (by decide)) T.b_cl .nil passr0 (pa_c (pe_ix (ix_tupK (K:=K)) (pv 5) pe_int (fun _ _=>rfl)) (pa_c (pe_ix (ix_tupK (K:=K)) (pv 5) pe_int (fun _ _=>rfl)) pa_nil)))))
    (pss_one (ps_if (pt_cmpR op_eq (pe_ix (ix_tupK (K:=K)) (pv 5) pe_int (fun _ _=>rfl)) pe_str (nomark _))
    (pss_one (ps_expr (pe_meth (pv 0) T.cl_Loom T.me_ck (ok_ck T) (hr.mono (by decide)) T.b_ck .nil passr0 (pa_c (pe_ix (ix_tupK (K:=K)) (pv 5) pe_int (fun _ _=>rfl)) pa_nil))))
    (pss_one (ps_expr (pe_meth (pv 0) T.cl_Loom T.me_bp (ok_bp T) (hr.mono (by decide)) T.b_bp .nil passr0 (pa_c (pe_ix (ix_tupK (K:=K)) (pv 5) pe_int (fun _ _=>rfl)) pa_nil)))))))))))),?_⟩
  refine⟨_,rfl,(m:Int),rfl,by omega,by omega,for_range (lo:=0)
   (fun i σ H2=>∃ G2 A2 o3 o4 o5,But (L.own A) H H2∧Lo K t G2 H2 L A2 i∧A2.many=A.many∧(∀ b∈L.own A2,b∈L.own A∨H b=none)∧σ=[some (.ref L.p),some (.int c),some (.int m),o3,o4,o5])
   ⟨G,A,_,_,_,But.of (Same.refl _),lo,rfl,fun b hb=>.inl hb,rfl⟩ ?_ ?_⟩
  ·rintro i σ H2 hi ⟨G2,A2,o3,o4,o5,bt,lo2,e2,ow,rfl⟩
   rw[Int.toNat_natCast] at hi
   refine⟨_,rfl,G2,L,A2,i,rfl,lo2,by omega,fun l ds H3 s3 nl el d0 d1 al=>?_⟩
   have q0:(0:Int)<(ds.length:Int):=by omega
   refine⟨_,rfl,_,rfl,_,rfl,c,_,120,rfl,by omega,by omega,by decide,by decide,fun d x0 x1=>⟨_,rfl,l,_,rfl,.inl (SqL.of el),_,_,rfl,rfl,q0,?_⟩⟩
   have y0:=Int.emod_nonneg d (b:=(ds.length:Int)) (by omega)
   have y1:=Int.emod_lt_of_pos d q0
   obtain⟨v,hv⟩:∃ v,ds[(d%(ds.length:Int)).toNat]? = some v:=⟨ds[(d%(ds.length:Int)).toNat]'(by omega),List.getElem?_eq_getElem _⟩
   obtain⟨b,rfl,hd⟩:=al v (List.mem_of_getElem? hv)
   have at0:atI ds (d%(ds.length:Int))=some (.ref b):=by
    have e:d%(ds.length:Int)=(((d%(ds.length:Int)).toNat:Nat):Int):=by omega
    rw[e];exact atI_nat hv
   have bt3:But (L.own A) H H3:=fun c' u n e=>s3 _ _ (bt c' u n e)
   have lo3:=lo2.same s3
   have ow3:∀ b'∈L.own A2,b'∈L.own A∨H b'=none:=ow
   rcases hd with ⟨j,j1,hb⟩|⟨j,j1,hb⟩|⟨j,cc,l0,j1,hb,hc,p1,p2,p3,p4⟩
   ·refine⟨l,_,_,_,rfl,rfl,SqL.of el,at0,_,rfl,b,_,0,.str "own",rfl,rfl,SqT.of hb,atI_zero,rfl,_,rfl,iteFe (by decide) ⟨_,rfl,b,_,0,.str "own",rfl,rfl,SqT.of hb,atI_zero,rfl,_,rfl,iteTe (by decide) ?_⟩⟩
    refine⟨_,rfl,L.p,L.dx,_,rfl,lo3.c.self,rfl,_,rfl,b,_,1,.int j,rfl,rfl,SqT.of hb,rfl,G2,L,A2,i,j,rfl,lo3,by omega,j1,fun G' H' A' b' lo' m' _ w'=>?_⟩
    exact⟨G',A',_,_,_,but_next bt3 b' ow,lo',by rw[m',e2],own_next bt3 ow w',rfl⟩
   ·refine⟨l,_,_,_,rfl,rfl,SqL.of el,at0,_,rfl,b,_,0,.str "write",rfl,rfl,SqT.of hb,atI_zero,rfl,_,rfl,iteFe (by decide) ⟨_,rfl,b,_,0,.str "write",rfl,rfl,SqT.of hb,atI_zero,rfl,_,rfl,iteFe (by decide) ?_⟩⟩
    refine⟨_,rfl,L.p,L.dx,_,rfl,lo3.c.self,rfl,_,rfl,b,_,1,.int j,rfl,rfl,SqT.of hb,rfl,G2,L,A2,i,j,rfl,lo3,by omega,j1,fun G' H' A' b' lo' m' _ w'=>?_⟩
    exact⟨G',A',_,_,_,but_next bt3 b' ow,lo',by rw[m',e2],own_next bt3 ow w',rfl⟩
   ·refine⟨l,_,_,_,rfl,rfl,SqL.of el,at0,_,rfl,b,_,0,.str "use",rfl,rfl,SqT.of hb,atI_zero,rfl,_,rfl,iteTe (by decide) ?_⟩
    refine⟨_,rfl,L.p,L.dx,_,rfl,lo3.c.self,rfl,_,rfl,b,_,1,.int j,rfl,rfl,SqT.of hb,rfl,_,rfl,b,_,2,.ref cc,rfl,rfl,SqT.of hb,rfl,G2,L,A2,i,j,cc,l0,rfl,lo3,by omega,j1,hc,p1,p2,p3,p4,fun G' H' A' b' lo' m' _ w'=>?_⟩
    exact⟨G',A',_,_,_,but_next bt3 b' ow,lo',by rw[m',e2],own_next bt3 ow w',rfl⟩
  ·rintro σ H2 ⟨G2,A2,o3,o4,o5,bt,lo2,e2,ow,rfl⟩
   rw[Int.toNat_natCast] at lo2
   exact k G2 H2 A2 bt lo2 e2
def sp_cd (K:W.Frag) (t:Adr):Sp:=fun vs H Q _=>∃ a ns,vs=[.ref a]∧SqL K H a (iV ns)∧TabT H t.tb_cd (lamPos s_ap) "_law_loom.<locals>.<lambda>" ∧
 ∀ G H' L A n,n≤30→Lo K t G H' L A n→SqL K H' a (iV ns)→Q (.ref L.p) H'
theorem ok_cd (T:Txt K mg t) (Tb:Tabs mg base t):FnOk P w K mg base (CXr P w) 8 t.f_cd t.fd_cd ["_law_script"] (sp_cd K t):=by
 refine T.F_cd.okM T.cde_cd sc_cd (fun vs H Q E h=>?_) (fun A outer s H vs Q E hr h=>?_)
 ·obtain⟨a,ns,rfl,_⟩:=h;rfl
 ·obtain⟨a,ns,rfl,ha,tab,k⟩:=h
  refine⟨_,(pm_cons (ps_set (i:=1) sc_cd.nd rfl (Or.inl rfl) (pe_call (ok_au T) (hr.mono (by decide)) rfl T.mg_au T.kp_au T.b_au .nil passr0 (pa_c (pv 0) (pa_c pe_int pa_nil))))
   (pm_cons (ps_set (i:=2) sc_cd.nd rfl (Or.inr rfl) (pe_call (ok_au T) (hr.mono (by decide)) rfl T.mg_au T.kp_au T.b_au .nil passr0 (pa_c (pv 0) (pa_c pe_int pa_nil))))
   (pm_cons (ps_set (i:=3) sc_cd.nd rfl (Or.inr rfl) (pe_op op_add pe_int (pe_op op_mod (pv 1) pe_int)))
   (pm_lam s_ap (F:=["_law_cell","_law_many"]) (ix:=[2,3]) (i:=4) (qual:="_law_loom.<locals>.<lambda>") rfl Tb.tb_cd rfl sc_cd.nd rfl rfl (fun _=>rfl) (hix_of rfl) (by decide) fr_cd sc_ap.fre sc_ap.isf
   (pm_body (pss_cons (ps_set (i:=5) sc_cd.nd rfl (Or.inl rfl) (pe_call (ok_be T) (hr.mono (by decide)) rfl T.mg_be T.kp_be T.b_be .nil passr0 (pa_c (pe_call (ok_au T) (hr.mono (by decide)) rfl T.mg_au T.kp_au T.b_au .nil passr0 (pa_c (pv 0) (pa_c pe_int pa_nil))) (pa_c (pv 3) pa_nil))))
   (pss_cons (ps_set (i:=6) sc_cd.nd rfl (Or.inl rfl) (pe_make T.mk_Loom (ok_cb T) (hr.mono (by decide)) rfl T.mg_Loom T.b_cb .nil passr0 (pa_c (pv 4) (pa_c (pe_comp ["_law_script","_law_first","_law_cell","_law_many","_law_does","_law_habits_here","_law_loom_here","_law_k"] 1 rfl (pi_range1 rfl T.no_range (pa_c (pv 3) pa_nil)) (fun _ _ _ _ _=>⟨(pg_name (i:=7) (show List.Nodup (["_law_script","_law_first","_law_cell","_law_many","_law_does","_law_habits_here","_law_loom_here","_law_k"]:List Str) from by decide +kernel) rfl (Or.inl rfl)),pts_nil,pe_int⟩)) (pa_c (pv 5) (pa_c (pe_cmpR op_eq (pe_op op_mod (pe_op op_fdiv (pv 1) pe_int) pe_int) pe_int (nomark _)) pa_nil))))))
   (pss_cons (ps_expr (pe_call (ok_br T) (hr.mono (by decide)) rfl T.mg_br T.kp_br T.b_br .nil passr0 (pa_c (pv 6) (pa_c (pe_call (ok_au T) (hr.mono (by decide)) rfl T.mg_au T.kp_au T.b_au .nil passr0 (pa_c (pv 0) (pa_c pe_int pa_nil))) (pa_c (pe_op op_mod (pe_op op_fdiv (pv 1) pe_int) pe_int) pa_nil)))))
   (pss_one (ps_ret (pv 6))))))))))),?_⟩
  refine⟨_,rfl,a,ns,0,rfl,ha,by decide,fun c0=>⟨_,rfl,a,ns,2,rfl,ha,by decide,fun c2=>⟨_,rfl,_,_,rfl,rfl,by show (0:Int)<4;decide,_,_,rfl,rfl,?_⟩⟩⟩
  have x0:=Int.emod_nonneg c0 (b:=4) (by decide)
  have x1:=Int.emod_lt_of_pos c0 (b:=4) (by decide)
  refine⟨tab,[.int c2,.int (2+c0%4)],rfl,fun j i e=>?_,fun f H1 nf st tab1 clo=>?_⟩
  ·match j,e with
   | 0,e=>cases e;exact⟨_,rfl,rfl⟩
   | 1,e=>cases e;exact⟨_,rfl,rfl⟩
   | _+2,e=>cases e
  have ha1:SqL K H1 a (iV ns):=by
   have ne:∀ {u},H a=some u→(∀ ps,u≠.tbl ps)→a≠t.tb_cd:=fun {u} e nt z=>by
    obtain⟨ps,y⟩:=tab.get
    rw[z,y] at e;exact nt ps (Option.some.inj e).symm
   rcases ha with (h|⟨o,h⟩)|h
   ·exact .inl (.inl (st _ _ (ne h (fun ps z=>by cases z)) h))
   ·exact .inl (.inr ⟨o,st _ _ (ne h (fun ps z=>by cases z)) h⟩)
   ·exact .inr h
  obtain⟨m,hm⟩:∃ m:Nat,2+c0%4=(m:Int):=⟨(2+c0%4).toNat,by omega⟩
  rw[hm] at clo
  refine⟨_,rfl,a,ns,1,rfl,ha1,by decide,fun c1=>⟨_,rfl,c1,m,by show [V.int c1,V.int (2+c0%4)]=_;rw[hm],by omega,fun lh has hbs H2 s2 nlh elh len1 len2 hab=>?_⟩⟩
  have ha2:=s2.seq ha1
  refine⟨_,rfl,_,rfl,2+c0%4,rfl,by omega,by omega,comp_range (n:=(2+c0%4).toNat) (by omega) fun acc hacc=>⟨fun i σ2 ys H3=>ys=List.replicate i (V.int 0)∧H3 acc=some (.lst ys)∧Same H2 H3,⟨rfl,upd_same,Same.new hacc⟩,?_,?_,?_⟩⟩
  ·rintro i σ2 ys H3 hi ⟨rfl,_,_⟩
   rw[List.length_replicate];exact Nat.le_refl _
  ·rintro i σ2 ys H3 hi ⟨rfl,e3,s3⟩
   dsimp only[gName,tYes]
   refine iteT ⟨e3,Nx.mk hi ⟨?_,upd_same,fun c u e=>?_⟩⟩
   ·rw[List.replicate_succ']
   ·rw[upd_ne (ne_of_none e hacc)];exact s3 _ _ e
  ·rintro σ2 ys H3 ⟨rfl,e3,s3⟩
   have em:(2+c0%4).toNat=m:=by omega
   rw[em] at e3
   have ha3:=s3.seq ha2
   refine⟨_,rfl,_,rfl,_,_,rfl,rfl,⟨by decide,by decide⟩,_,_,rfl,rfl,by show (0:Int)<2;decide,rfl,fun x dx nx ndx nex=>?_⟩
   have s4:=Same.ins (o:=.ins t.c_Loom dx []) nx ndx
   refine⟨H3,x,dx,f,acc,lh,m,has,hbs,_,c2,rfl,upd_same,s4,nx,SqL.of (s4 _ _ e3),SqL.of (s4 _ _ (s3 _ _ elh)),len1,len2,fun i h' hb z1 z2=>(hab i h' hb z1 z2).same s3,clo.same fun b o u e=>s3 _ _ (s2 _ _ e),by omega,by omega,fun H5 L ep ow kp lo5=>⟨rfl,?_⟩⟩
   subst ep
   have ha5:SqL K H5 a (iV ns):=by
    have ne:∀ {u},H3 a=some u→a≠L.p:=fun {u} e=>ne_of_none e nx
    rcases ha3 with (h|⟨o,h⟩)|h
    ·exact .inl (.inl (kp _ _ (ne h) (s4 _ _ h)))
    ·exact .inl (.inr ⟨o,kp _ _ (ne h) (s4 _ _ h)⟩)
    ·exact .inr h
   have na:a∉L.own (newA m (decide (V.int (c0/4%2)=V.int 1)) c2 hbs)∨∀ H',SqL K H' a (iV ns):=by
    rcases ha3 with (h|⟨o,h⟩)|h
    ·refine .inl fun z=>?_
     rcases ow a z with y|y
     ·exact ne_of_none h nx y
     ·rw[s4 _ _ h] at y;cases y
    ·refine .inl fun z=>?_
     rcases ow a z with y|y
     ·exact ne_of_none h nx y
     ·rw[s4 _ _ h] at y;cases y
    ·exact .inr fun H'=>.inr h
   have y0:=Int.emod_nonneg (c0/8) (b:=31) (by decide)
   have y1:=Int.emod_lt_of_pos (c0/8) (b:=31) (by decide)
   refine⟨_,rfl,_,rfl,a,ns,3,rfl,ha5,by decide,fun c3=>⟨_,rfl,_,_,rfl,rfl,⟨by decide,by decide⟩,_,_,rfl,rfl,by show (0:Int)<31;decide,H3,L,_,c3,(c0/8%31).toNat,by show [V.ref L.p,V.int c3,V.int (c0/8%31)]=_;rw[Int.toNat_of_nonneg y0],lo5,by omega,fun G' H6 A' bt lo6 me=>⟨_,rfl,k G' H6 L A' _ (by omega) lo6 ?_⟩⟩⟩
   rcases na with z|z
   ·exact but_sqL bt z ha5
   ·exact z H6
def sp_ce (K:W.Frag) (t:Adr):Sp:=fun vs H Q _=>∃ G L A n,∃ c:Int,vs=[.ref L.p,.int c]∧Lo K t G H L A n∧n≤30∧∀ l ln H',Same H H'→H l=none→H' l=some (.lst (iV ln))→ln.length=A.many→Q (.ref l) H'
theorem ok_ce (T:Txt K mg t):FnOk P w K mg base (CXr P w) 3 t.f_ce t.fd_ce ["_law_loom_here","_law_cell"] (sp_ce K t):=by
 refine T.F_ce.okN sc_ce (fun vs H Q E h=>?_) (fun cdv A outer s H vs Q E hr h=>?_)
 ·obtain⟨G,L,A,n,c,rfl,_⟩:=h;rfl
 ·obtain⟨G,L,A,n,c,rfl,lo,hn,k⟩:=h
  refine⟨_,(pss_cons (ps_set (i:=2) sc_ce.nd rfl (Or.inr rfl) (pe_meth0 (pv 0) T.cl_Loom T.me_bd (ok_bd T) (hr.mono (by decide)) T.b_bd .nil passr0))
   (pss_one (ps_ret (pe_comp ["_law_loom_here","_law_cell","_law_places","_law_hand"] 1 rfl (pi_range1 rfl T.no_range (pa_c (pe_fldK (K:=K) (pv 0) rfl) pa_nil)) (fun _ _ _ _ _=>⟨(pg_name (i:=3) (show List.Nodup (["_law_loom_here","_law_cell","_law_places","_law_hand"]:List Str) from by decide +kernel) rfl (Or.inl rfl)),pts_nil,(pe_op op_mod (pe_call (ok_bo T) (hr.mono (by decide)) rfl T.mg_bo T.kp_bo T.b_bo .nil passr0 (pa_c (pv 1) (pa_c (pv 3) (pa_c pe_int pa_nil)))) (pe_op op_add (pe_ix (ix_listK (K:=K)) (pv 2) (pv 3) (fun _ _=>rfl)) pe_int))⟩))))),?_⟩
  have m2:=lo.m2
  refine⟨_,rfl,L.p,L.dx,_,rfl,lo.c.self,rfl,G,L,A,n,rfl,lo,fun lp H1 s1 nlp elp=>?_⟩
  refine⟨_,rfl,L.p,_,L.dx,_,_,rfl,s1 _ _ lo.c.self,T.cl_Loom,T.na_cg,rfl,(A.many:Int),rfl,by omega,by omega,comp_range (n:=A.many) (by omega) fun acc hacc=>⟨fun i σ2 ys H3=>(∃ ln,ys=iV ln∧ln.length=i)∧H3 acc=some (.lst ys)∧Same H1 H3∧∃ o,σ2=[some (.ref L.p),some (.int c),some (.ref lp),o],⟨⟨[],rfl,rfl⟩,upd_same,Same.new hacc,_,rfl⟩,?_,?_,?_⟩⟩
  ·rintro i σ2 ys H3 hi ⟨⟨ln,rfl,len⟩,_,_⟩
   unfold iV;rw[List.length_map];omega
  ·rintro i σ2 ys H3 hi ⟨⟨ln,rfl,len⟩,e3,s3,o,rfl⟩
   dsimp only[gName,tYes]
   have hT:((A.ths.map fun T=>(T.evs.length:Int))[i]?)=some ((A.ths[i]'(by rw[lo.c.len2];exact hi)).evs.length:Int):=by
    rw[List.getElem?_map,List.getElem?_eq_getElem (by rw[lo.c.len2];exact hi)];rfl
   have at0:atI (iV (A.ths.map fun T=>(T.evs.length:Int))) (0+(i:Int))=some (.int ((A.ths[i]'(by rw[lo.c.len2];exact hi)).evs.length:Int)):=by
    rw[Int.zero_add]
    refine atI_nat ?_
    unfold iV
    rw[List.getElem?_map,hT];rfl
   refine iteT ⟨_,rfl,_,rfl,c,_,840,rfl,by omega,by omega,by decide,by decide,fun d d0 d1=>⟨_,rfl,_,rfl,lp,_,_,_,rfl,rfl,SqL.of (s3 _ _ elp),at0,_,_,rfl,rfl,_,_,rfl,rfl,?_,e3,Nx.mk hi ⟨⟨ln++[d%((A.ths[i]'(by rw[lo.c.len2];exact hi)).evs.length+1)],?_,by simp[len]⟩,upd_same,fun c' u e=>?_,_,rfl⟩⟩⟩
   ·show (0:Int)<_;omega
   ·unfold iV;rw[List.map_append];rfl
   ·rw[upd_ne (ne_of_none e hacc)];exact s3 _ _ e
  ·rintro σ2 ys H3 ⟨⟨ln,rfl,len⟩,e3,s3,o,rfl⟩
   exact k acc ln H3 (s1.trans s3) (s1.free hacc) e3 len
theorem fm_step {α:Type}{xs:List α}{i:Nat}{x:α}(hx:xs[i]? = some x) (p:α→Bool) (f:α→Nm3):((xs.take (i+1)).filter p).map f=((xs.take i).filter p).map f++(if p x=true then [f x] else []):=by
 rw[List.take_add_one,hx,List.filter_append,List.map_append]
 congr 1
 show List.map f (List.filter p [x])=_
 rw[List.filter_cons]
 cases p x<;>rfl
theorem brk_eq (A:DiA) (ln:List Int):A.brk ln=(A.ta.filter fun e=>A.usedIn ln e && !sentIn ln e.1).map (·.1):=by
 unfold DiA.brk
 rw[List.filter_map,List.filter_filter]
 congr 1
 refine List.filter_congr fun e _=>?_
 rw[Bool.and_comm];rfl
def sp_bf (K:W.Frag) (t:Adr):Sp:=sp_cc K t
theorem ok_bf (T:Txt K mg t):FnOk P w K mg base (CXr P w) 2 t.f_bf t.fd_bf ["_law_loom_here","_law_line_here"] (sp_bf K t):=by
 refine T.F_bf.okN sc_bf (fun vs H Q E h=>?_) (fun cdv A outer s H vs Q E hr h=>?_)
 ·obtain⟨G,L,A,n,a,ln,rfl,_⟩:=h;rfl
 ·obtain⟨G,L,A,n,a,ln,rfl,lo,hn,ha,hl,k⟩:=h
  refine⟨_,(pss_cons (ps_set (i:=2) sc_bf.nd rfl (Or.inl rfl) (pe_meth0 (pv 0) T.cl_Loom T.me_af (ok_af T) (hr.mono (by decide)) T.b_af .nil passr0))
   (pss_cons (ps_set (i:=3) sc_bf.nd rfl (Or.inl rfl) (pe_lst pa_nil))
   (pss_cons (ps_for PassesOwn.never rfl (pi_items (pe_meth0 (pv 0) T.cl_Loom T.me_ag (ok_ag T) (hr.mono (by decide)) T.b_ag .nil passr0)) (pg_tupK (K:=K) rfl (pgs_cons (pg_name (i:=4) sc_bf.nd rfl (Or.inl rfl)) (pgs_cons (pg_name (i:=5) sc_bf.nd rfl (Or.inl rfl)) pgs_nil)))
    (pss_one (ps_if (PW.pt (pw_and (pt_cmpR op_le (pv 5) (pe_ix (ix_listK (K:=K)) (pv 1) (pe_ix (ix_tupK (K:=K)) (pe_dget (hu_of hr) (pv 2) (pv 4) (fun _ _=>rfl)) pe_int (fun _ _=>rfl)) (fun _ _=>rfl)) (nomark _)) (pw_and1 (pt_cmpR op_lt (pe_ix (ix_listK (K:=K)) (pv 1) (pe_ix (ix_tupK (K:=K)) (pv 4) pe_int (fun _ _=>rfl)) (fun _ _=>rfl)) (pe_ix (ix_tupK (K:=K)) (pv 4) pe_int (fun _ _=>rfl)) (nomark _)))))
    (pss_one (ps_expr (pe_bmK (K:=K) PySem.F.plainAttrs_list PySem.F.slot_list_append PySem.F.type_list_append mt_append (pv 3) (pa_c (pv 4) pa_nil))))
    pss_nil)))
   (pss_one (ps_ret (pe_callB (call_sort3 (K:=K)) rfl T.no_sorted b_sorted (pa_c (pv 3) pa_nil))))))),?_⟩
  refine⟨_,rfl,L.p,L.dx,_,rfl,lo.c.self,rfl,G,L,A,n,rfl,lo,hn,fun ds H1 s1 nds e1=>?_⟩
  have lo1:=lo.same s1
  refine⟨by decide,fun fl nfl=>?_⟩
  have s2:=Same.new (o:=.lst []) nfl
  have ef2:=upd_same (H:=H1) (a:=fl) (o:=.lst [])
  have e12:=s2 _ _ e1
  have lo2:=lo1.same s2
  have s02:=s1.trans s2
  have nf0:H fl=none:=s1.free nfl
  generalize upd H1 fl (.lst [])=H2 at s2 ef2 e12 lo2 s02 ⊢
  refine⟨_,rfl,L.p,L.dx,_,rfl,lo2.c.self,rfl,G,L,A,n,rfl,lo2,hn,fun du H3 s3 ndu e3=>⟨du,_,rfl,.inl ⟨e3,fun o=>?_⟩⟩⟩
  obtain⟨tal,tas⟩:=lo.ta hn
  have s4:Same H2 (upd H3 du (.frz o (.dT (A.A.ta.map fun e=>(nk e.1,V.int e.2))))):=fun c u e=>by
   rw[upd_ne (ne_of_none e ndu)];exact s3 _ _ e
  have hd4:=upd_same (H:=H3) (a:=du) (o:=.frz o (.dT (A.A.ta.map fun e=>(nk e.1,V.int e.2))))
  generalize upd H3 du (.frz o (.dT (A.A.ta.map fun e=>(nk e.1,V.int e.2))))=H4 at s4 hd4 ⊢
  have s04:=s02.trans s4
  have df:du≠fl:=fun z=>by rw[z,ef2] at ndu;cases ndu
  have sf:ds≠fl:=fun z=>by rw[z,ef2] at e12;cases e12
  have mt:(A.A.ta.map fun e=>(nk e.1,V.int e.2)).length=A.A.ta.length:=List.length_map _
  refine for_items (kvs:=A.A.ta.map fun e=>(nk e.1,V.int e.2)) (fun i σ H5=>(∃ ys ns,H5 fl=some (.lst ys)∧NmL H5 ys ns∧ns=((A.A.ta.take i).filter fun e=>A.A.usedIn ln e && !sentIn ln e.1).map (·.1))∧(∀ c u,c≠fl→H4 c=some u→H5 c=some u)∧∃ o4 o5,σ=[some (.ref L.p),some (.ref a),some (.ref ds),some (.ref fl),o4,o5])
   ⟨⟨[],[],s4 _ _ ef2,.nil,rfl⟩,fun _ _ _ e=>e,_,_,rfl⟩ ?_ ?_ ?_
  ·rintro i σ H5 _ ⟨_,fr,_⟩
   exact fr _ _ df hd4
  ·rintro i p b kk v σ H5 hx np hb ⟨⟨ys,ns,f1,f2,f3⟩,fr,o4,o5,rfl⟩
   obtain⟨x,hxx,rfl,rfl⟩:∃ x,A.A.ta[i]? = some x∧kk=nk x.1∧v=.int x.2:=by
    rw[List.getElem?_map] at hx
    cases e:A.A.ta[i]? with
    | none=>rw[e] at hx;cases hx
    | some x=>rw[e] at hx;cases hx;exact⟨x,rfl,rfl,rfl⟩
   have i90:i<90:=by have:=(List.getElem?_eq_some_iff.mp hxx).1;omega
   have xm:=List.mem_of_getElem? hxx
   obtain⟨_,l,hl',el⟩:=tas x xm
   have v1:valV (A.A.po.map fun l=>(nk l.nm,V.ref l.adr)) (nk x.1)=some (.ref l.adr):=by
    rw[← el]
    exact vm_some (fun l:LetA=>nk l.nm) (fun l=>V.ref l.adr) (nd_comp (f:=LetA.nm) nk_inj lo.wf.nd) hl'
   have rg:=lo.wf.rg l hl'
   have s6:=Same.new (o:=.tup [.ref b,.int x.2]) np
   have pp:=upd_same (H:=H5) (a:=p) (o:=.tup [.ref b,.int x.2])
   have hb6:=s6 _ _ hb
   have f16:=s6 _ _ f1
   have fr6:∀ c u,c≠fl→H4 c=some u→upd H5 p (.tup [.ref b,.int x.2]) c=some u:=fun c u nc e=>s6 _ _ (fr c u nc e)
   have f26:=f2.same s6
   generalize upd H5 p (.tup [.ref b,.int x.2])=H6 at s6 pp hb6 f16 fr6 f26 ⊢
   have s06:Same H H6:=fun c u e=>fr6 c u (ne_of_none e nf0) (s04 _ _ e)
   have hb6':H6 b=some (.tup (nV x.1)):=hb6
   have isn:IsNm H6 (.ref b) x.1:=⟨b,rfl,hb6'⟩
   have ysl:ys.length≤i:=by
    rw[f2.len,f3,List.length_map]
    exact Nat.le_trans (List.length_filter_le _ _) (by rw[List.length_take];omega)
   have u1:A.A.usedIn ln x=decide (x.2≤lnAt ln l.to):=by unfold DiA.usedIn;rw[← el,toOf_eq lo.wf.nd hl']
   have step:=fm_step hxx (fun e=>A.A.usedIn ln e && !sentIn ln e.1) (·.1)
   rw[el] at rg
   refine⟨p,_,rfl,SqT.of pp,rfl,_,_,rfl,_,_,rfl,rfl,?_⟩
   refine⟨_,rfl,_,rfl,_,rfl,_,rfl,ds,.ref l.adr,rfl,.inr ⟨_,nk x.1,b,.inl (fr6 _ _ sf (s4 _ _ e12)),rfl,hb6,v1.symm⟩,l.adr,_,0,.int l.to,rfl,rfl,SqT.of (s06 _ _ (lo.c.held _ _ (lo.c.di.lets l hl'))),rfl,a,_,_,_,rfl,rfl,s06.seq ha,lnAt_at (by omega) (by omega),_,_,rfl,rfl,_,rfl,ite2 (fun z=>?_) fun z=>?_⟩
   ·refine⟨_,rfl,_,rfl,b,_,0,.int x.1.1,rfl,rfl,SqT.of hb6',rfl,a,_,_,_,rfl,rfl,s06.seq ha,lnAt_at (by omega) (by omega),_,rfl,b,_,1,.int x.1.2.1,rfl,rfl,SqT.of hb6',rfl,_,_,rfl,rfl,_,rfl,ite2 (fun y=>?_) fun y=>?_⟩
    ·refine⟨_,rfl,.inl ⟨rfl,_,SqL.of f16⟩,_,rfl,fl,ys,.ref b,rfl,rfl,f16,small1000 (by omega),⟨_,_,upd_same,(f26.snoc isn).keep fun c xs e=>by rw[upd_ne (fun q=>by rw[q,f16] at e;cases e)];exact e,?_⟩,fun c u nc e=>by rw[upd_ne nc];exact fr6 c u nc e,_,_,rfl⟩
     rw[step,f3,if_pos]
     have y:=of_decide_eq_true y
     rw[u1,z]
     unfold sentIn
     simp only[Bool.true_and,Bool.not_eq_true',decide_eq_false_iff_not]
     omega
    ·refine⟨⟨ys,ns,f16,f26,?_⟩,fr6,_,_,rfl⟩
     rw[step,f3,if_neg,List.append_nil]
     rw[u1,z]
     unfold sentIn
     have y:¬ (lnAt ln x.1.1<x.1.2.1):=fun q=>y (decide_eq_true q)
     simp only[Bool.true_and,Bool.not_eq_true',decide_eq_false_iff_not]
     omega
   ·refine⟨⟨ys,ns,f16,f26,?_⟩,fr6,_,_,rfl⟩
    rw[step,f3,if_neg,List.append_nil]
    rw[u1,eq_false_of_ne_true z]
    simp
  ·rintro σ H5 ⟨⟨ys,ns,f1,f2,f3⟩,fr,o4,o5,rfl⟩
   rw[mt,List.take_length,← brk_eq] at f3
   have bl:(A.A.brk ln).length≤90:=by
    rw[brk_eq,List.length_map]
    exact Nat.le_trans (List.length_filter_le _ _) tal
   refine⟨_,rfl,sort_nm (SqL.of f1) f2 (by rw[f3];omega) (fun n hn'=>?_) ?_ fun l ls' ns' H6 s6 nl6 e6 nm6 as6 pm6=>k l ls' ns' H6 ?_ ?_ e6 nm6 as6 (by rw[f3] at pm6;exact pm6)⟩
   ·rw[f3,brk_eq] at hn'
    obtain⟨e,he,rfl⟩:=List.mem_map.mp hn'
    exact(tas e (List.mem_filter.mp he).1).1
   ·rw[f3,brk_eq]
    exact lo.wf.nt.sublist ((List.filter_sublist).map _)
   ·exact fun c u e=>s6 _ _ (fr c u (ne_of_none e nf0) (s04 _ _ e))
   ·cases e:H l with
    | none=>rfl
    | some u=>rw[fr l u (ne_of_none e nf0) (s04 _ _ e)] at nl6;cases nl6
def DiA.late (A:DiA) (ln:List Int) (n:Nm3):Bool:=decide (n∉A.ta.map (·.1)) || !decide ((((A.ta.find? fun e=>decide (e.1=n)).map (·.2)).getD 0)≤lnAt ln (A.toOf n))
theorem crs_eq (A:DiA) (ln:List Int):A.crs ln=(A.po.filter fun l=>sentIn ln l.nm && A.late ln l.nm).map (·.nm):=by
 unfold DiA.crs
 rw[List.filter_map,List.filter_filter]
 congr 1
 refine List.filter_congr fun e _=>?_
 rw[Bool.and_comm];rfl
theorem late_no {A:DiA}{ln:List Int}{n:Nm3}(h:n∉A.ta.map (·.1)):A.late ln n=true:=by
 unfold DiA.late;rw[decide_eq_true h,Bool.true_or]
theorem late_yes {m:Int}{c:Int→Int}{A:DiA}(w:WfD m c A) {ln:List Int}{l:LetA}{e:Nm3×Int}(hl:l∈A.po) (he:e∈A.ta) (ez:e.1=l.nm):A.late ln l.nm = !decide (e.2≤lnAt ln l.to):=by
 have fe:((A.ta.find? fun e=>decide (e.1=l.nm)).map (·.2)).getD 0=e.2:=by
  cases q:A.ta.find? fun e=>decide (e.1=l.nm) with
  | none=>
   have:=List.find?_eq_none.mp q e he
   rw[ez] at this
   simp at this
  | some e'=>
   have h1:=List.mem_of_find?_eq_some q
   have h3:=List.find?_some q
   have h2:e'.1=l.nm:=of_decide_eq_true h3
   rw[map_inj' w.nt h1 he (h2.trans ez.symm)];rfl
 unfold DiA.late
 rw[fe,toOf_eq w.nd hl,decide_eq_false (fun y=>y (by rw[← ez];exact List.mem_map_of_mem he)),Bool.false_or]
def sp_aq (K:W.Frag) (t:Adr):Sp:=sp_cq K t
theorem ok_aq (T:Txt K mg t):FnOk P w K mg base (CXr P w) 2 t.f_aq t.fd_aq ["_law_loom_here","_law_line_here"] (sp_aq K t):=by
 refine T.F_aq.okN sc_aq (fun vs H Q E h=>?_) (fun cdv A outer s H vs Q E hr h=>?_)
 ·obtain⟨G,L,A,n,a,ln,rfl,_⟩:=h;rfl
 ·obtain⟨G,L,A,n,a,ln,rfl,lo,hn,ha,hl,k⟩:=h
  refine⟨_,(pss_cons (ps_set (i:=2) sc_aq.nd rfl (Or.inl rfl) (pe_meth0 (pv 0) T.cl_Loom T.me_ag (ok_ag T) (hr.mono (by decide)) T.b_ag .nil passr0))
   (pss_cons (ps_set (i:=3) sc_aq.nd rfl (Or.inl rfl) (pe_lst pa_nil))
   (pss_cons (ps_for PassesOwn.never rfl (pi_items (pe_meth0 (pv 0) T.cl_Loom T.me_af (ok_af T) (hr.mono (by decide)) T.b_af .nil passr0)) (pg_tupK (K:=K) rfl (pgs_cons (pg_name (i:=4) sc_aq.nd rfl (Or.inl rfl)) (pgs_cons (pg_name (i:=5) sc_aq.nd rfl (Or.inl rfl)) pgs_nil)))
    (pss_one (ps_if (PW.pt (pw_and (pt_cmpR op_le (pe_ix (ix_tupK (K:=K)) (pv 4) pe_int (fun _ _=>rfl)) (pe_ix (ix_listK (K:=K)) (pv 1) (pe_ix (ix_tupK (K:=K)) (pv 4) pe_int (fun _ _=>rfl)) (fun _ _=>rfl)) (nomark _)) (pw_and1 (pt_cmpR op_gt (pe_dget2 (hu_of hr) (pv 2) (pv 4) (pe_op op_add (pe_ix (ix_listK (K:=K)) (pv 1) (pe_ix (ix_tupK (K:=K)) (pv 5) pe_int (fun _ _=>rfl)) (fun _ _=>rfl)) pe_int) ⟨rfl,rfl,rfl,rfl⟩) (pe_ix (ix_listK (K:=K)) (pv 1) (pe_ix (ix_tupK (K:=K)) (pv 5) pe_int (fun _ _=>rfl)) (fun _ _=>rfl)) (nomark _)))))
    (pss_one (ps_expr (pe_bmK (K:=K) PySem.F.plainAttrs_list PySem.F.slot_list_append PySem.F.type_list_append mt_append (pv 3) (pa_c (pv 4) pa_nil))))
    pss_nil)))
   (pss_one (ps_ret (pe_callB (call_sort3 (K:=K)) rfl T.no_sorted b_sorted (pa_c (pv 3) pa_nil))))))),?_⟩
  refine⟨_,rfl,L.p,L.dx,_,rfl,lo.c.self,rfl,G,L,A,n,rfl,lo,hn,fun ds H1 s1 nds e1=>?_⟩
  have lo1:=lo.same s1
  refine⟨by decide,fun fl nfl=>?_⟩
  have s2:=Same.new (o:=.lst []) nfl
  have ef2:=upd_same (H:=H1) (a:=fl) (o:=.lst [])
  have e12:=s2 _ _ e1
  have lo2:=lo1.same s2
  have s02:=s1.trans s2
  have nf0:H fl=none:=s1.free nfl
  generalize upd H1 fl (.lst [])=H2 at s2 ef2 e12 lo2 s02 ⊢
  refine⟨_,rfl,L.p,L.dx,_,rfl,lo2.c.self,rfl,G,L,A,n,rfl,lo2,hn,fun du H3 s3 ndu e3=>⟨du,_,rfl,.inl ⟨e3,fun o=>?_⟩⟩⟩
  have bn:=lo.bn
  have s4:Same H2 (upd H3 du (.frz o (.dT (A.A.po.map fun l=>(nk l.nm,V.ref l.adr))))):=fun c u e=>by
   rw[upd_ne (ne_of_none e ndu)];exact s3 _ _ e
  have hd4:=upd_same (H:=H3) (a:=du) (o:=.frz o (.dT (A.A.po.map fun l=>(nk l.nm,V.ref l.adr))))
  generalize upd H3 du (.frz o (.dT (A.A.po.map fun l=>(nk l.nm,V.ref l.adr))))=H4 at s4 hd4 ⊢
  have s04:=s02.trans s4
  have df:du≠fl:=fun z=>by rw[z,ef2] at ndu;cases ndu
  have sf:ds≠fl:=fun z=>by rw[z,ef2] at e12;cases e12
  have mt:(A.A.po.map fun l=>(nk l.nm,V.ref l.adr)).length=A.A.po.length:=List.length_map _
  refine for_items (kvs:=A.A.po.map fun l=>(nk l.nm,V.ref l.adr)) (fun i σ H5=>(∃ ys ns,H5 fl=some (.lst ys)∧NmL H5 ys ns∧ns=((A.A.po.take i).filter fun l=>sentIn ln l.nm && A.A.late ln l.nm).map (·.nm))∧(∀ c u,c≠fl→H4 c=some u→H5 c=some u)∧∃ o4 o5,σ=[some (.ref L.p),some (.ref a),some (.ref ds),some (.ref fl),o4,o5])
   ⟨⟨[],[],s4 _ _ ef2,.nil,rfl⟩,fun _ _ _ e=>e,_,_,rfl⟩ ?_ ?_ ?_
  ·rintro i σ H5 _ ⟨_,fr,_⟩
   exact fr _ _ df hd4
  ·rintro i p b kk v σ H5 hx np hb ⟨⟨ys,ns,f1,f2,f3⟩,fr,o4,o5,rfl⟩
   obtain⟨l,hxx,rfl,rfl⟩:∃ l,A.A.po[i]? = some l∧kk=nk l.nm∧v=.ref l.adr:=by
    rw[List.getElem?_map] at hx
    cases e:A.A.po[i]? with
    | none=>rw[e] at hx;cases hx
    | some x=>rw[e] at hx;cases hx;exact⟨x,rfl,rfl,rfl⟩
   have i90:i<90:=by have:=(List.getElem?_eq_some_iff.mp hxx).1;omega
   have hl':=List.mem_of_getElem? hxx
   have rg:=lo.wf.rg l hl'
   have s6:=Same.new (o:=.tup [.ref b,.ref l.adr]) np
   have pp:=upd_same (H:=H5) (a:=p) (o:=.tup [.ref b,.ref l.adr])
   have hb6:=s6 _ _ hb
   have f16:=s6 _ _ f1
   have fr6:∀ c u,c≠fl→H4 c=some u→upd H5 p (.tup [.ref b,.ref l.adr]) c=some u:=fun c u nc e=>s6 _ _ (fr c u nc e)
   have f26:=f2.same s6
   generalize upd H5 p (.tup [.ref b,.ref l.adr])=H6 at s6 pp hb6 f16 fr6 f26 ⊢
   have s06:Same H H6:=fun c u e=>fr6 c u (ne_of_none e nf0) (s04 _ _ e)
   have hb6':H6 b=some (.tup (nV l.nm)):=hb6
   have isn:IsNm H6 (.ref b) l.nm:=⟨b,rfl,hb6'⟩
   have ysl:ys.length≤i:=by
    rw[f2.len,f3,List.length_map]
    exact Nat.le_trans (List.length_filter_le _ _) (by rw[List.length_take];omega)
   have step:=fm_step hxx (fun l=>sentIn ln l.nm && A.A.late ln l.nm) (·.nm)
   have lad:=SqT.of (K:=K) (s06 _ _ (lo.c.held _ _ (lo.c.di.lets l hl')))
   have used6:=fr6 _ _ sf (s4 _ _ e12)
   refine⟨p,_,rfl,SqT.of pp,rfl,_,_,rfl,_,_,rfl,rfl,?_⟩
   refine⟨_,rfl,b,_,1,.int l.nm.2.1,rfl,rfl,SqT.of hb6',rfl,_,rfl,_,rfl,b,_,0,.int l.nm.1,rfl,rfl,SqT.of hb6',rfl,a,_,_,_,rfl,rfl,s06.seq ha,lnAt_at (by omega) (by omega),_,_,rfl,rfl,_,rfl,ite2 (fun z=>?_) fun z=>?_⟩
   ·have gt:∃ r:Option V,DGet H6 ds (.ref b) r∧∃ v:Int,r.getD (.int (lnAt ln l.to+1))=.int v∧A.A.late ln l.nm=decide (lnAt ln l.to<v):=by
     by_cases y:l.nm∈A.A.ta.map (·.1)
     ·obtain⟨e,he,ez⟩:=List.mem_map.mp y
      have v2:valV (A.A.ta.map fun e=>(nk e.1,V.int e.2)) (nk l.nm)=some (.int e.2):=by
       rw[← ez]
       exact vm_some (fun e:Nm3×Int=>nk e.1) (fun e=>V.int e.2) (nd_comp (f:=fun x:Nm3×Int=>x.1) nk_inj lo.wf.nt) he
      refine⟨_,.inr ⟨_,nk l.nm,b,.inl used6,rfl,hb6,v2.symm⟩,e.2,rfl,?_⟩
      rw[late_yes lo.wf hl' he ez,← decide_not]
      exact decide_eq_decide.mpr ⟨fun q=>by omega,fun q=>by omega⟩
     ·have v2:valV (A.A.ta.map fun e=>(nk e.1,V.int e.2)) (nk l.nm)=none:=vm_none (fun e:Nm3×Int=>nk e.1) (fun e=>V.int e.2) fun e he q=>y (by rw[← nk_inj _ _ q];exact List.mem_map_of_mem he)
      refine⟨_,.inr ⟨_,nk l.nm,b,.inl used6,rfl,hb6,v2.symm⟩,lnAt ln l.to+1,rfl,?_⟩
      rw[late_no y,decide_eq_true (by omega)]
    obtain⟨r,hr',v,hv,lt⟩:=gt
    have hl3:sentIn ln l.nm=true:=z
    refine⟨_,rfl,ds,rfl,.inr ⟨_,.inl used6⟩,_,rfl,_,rfl,_,rfl,l.adr,_,0,.int l.to,rfl,rfl,lad,rfl,a,_,_,_,rfl,rfl,s06.seq ha,lnAt_at (by omega) (by omega),_,_,rfl,rfl,r,hr',?_⟩
    rw[show (r.getD (V.int (lnAt ln l.to+1)))=.int v from hv]
    refine⟨_,rfl,_,rfl,l.adr,_,0,.int l.to,rfl,rfl,lad,rfl,a,_,_,_,rfl,rfl,s06.seq ha,lnAt_at (by omega) (by omega),_,_,rfl,rfl,_,rfl,ite2 (fun y=>?_) fun y=>?_⟩
    ·refine⟨_,rfl,.inl ⟨rfl,_,SqL.of f16⟩,_,rfl,fl,ys,.ref b,rfl,rfl,f16,small1000 (by omega),⟨_,_,upd_same,(f26.snoc isn).keep fun c xs e=>by rw[upd_ne (fun q=>by rw[q,f16] at e;cases e)];exact e,?_⟩,fun c u nc e=>by rw[upd_ne nc];exact fr6 c u nc e,_,_,rfl⟩
     rw[step,f3,if_pos]
     rw[hl3,Bool.true_and,lt];exact y
    ·refine⟨⟨ys,ns,f16,f26,?_⟩,fr6,_,_,rfl⟩
     rw[step,f3,if_neg,List.append_nil]
     rw[hl3,Bool.true_and,lt];exact y
   ·refine⟨⟨ys,ns,f16,f26,?_⟩,fr6,_,_,rfl⟩
    rw[step,f3,if_neg,List.append_nil]
    have z:sentIn ln l.nm=false:=eq_false_of_ne_true z
    rw[z];simp
  ·rintro σ H5 ⟨⟨ys,ns,f1,f2,f3⟩,fr,o4,o5,rfl⟩
   rw[mt,List.take_length,← crs_eq] at f3
   have bl:(A.A.crs ln).length≤90:=by
    rw[crs_eq,List.length_map]
    exact Nat.le_trans (List.length_filter_le _ _) (by omega)
   refine⟨_,rfl,sort_nm (SqL.of f1) f2 (by rw[f3];omega) (fun n hn'=>?_) ?_ fun l ls' ns' H6 s6 nl6 e6 nm6 as6 pm6=>k l ls' ns' H6 ?_ ?_ e6 nm6 as6 (by rw[f3] at pm6;exact pm6)⟩
   ·rw[f3,crs_eq] at hn'
    obtain⟨l,he,rfl⟩:=List.mem_map.mp hn'
    exact lo.small hn l (List.mem_filter.mp he).1
   ·rw[f3,crs_eq]
    exact lo.wf.nd.sublist ((List.filter_sublist).map _)
   ·exact fun c u e=>s6 _ _ (fr c u (ne_of_none e nf0) (s04 _ _ e))
   ·cases e:H l with
    | none=>rfl
    | some u=>rw[fr l u (ne_of_none e nf0) (s04 _ _ e)] at nl6;cases nl6
def nmD (n:Nm3):PyData:=.tuple [.int n.1,.int n.2.1,.int n.2.2]
theorem ok_names {ns:List Nm3}:okD 3 (.list (ns.map nmD)):=.list (n:=2) fun d hd=>by
 obtain⟨n,_,rfl⟩:=List.mem_map.mp hd
 refine .tuple (n:=1) fun d hd=>?_
 simp only[List.mem_cons,List.not_mem_nil,or_false] at hd
 rcases hd with rfl|rfl|rfl<;>exact .int
theorem eqv_empty {ns:List Nm3}:PyData.eqv (.list (ns.map nmD)) (.list [])=ns.isEmpty:=by
 cases ns with
 | nil=>exact(ok_names (ns:=[])).self
 | cons n r=>rfl
theorem NmL.rpD {H:Hp}{ls:List V}{ns:List Nm3}(h:NmL H ls ns):RpAll K H ls (ns.map nmD):=h.rp
def sp_bs (K:W.Frag) (t:Adr):Sp:=fun vs H Q _=>∃ G L A n a ln,vs=[.ref L.p,.ref a]∧Lo K t G H L A n∧n≤30∧SqL K H a (iV ln)∧ln.length=A.many∧∀ H',Same H H'→Q (.bl true) H'
theorem ok_bs (T:Txt K mg t):FnOk P w K mg base (CXr P w) 4 t.f_bs t.fd_bs ["_law_loom_here","_law_line_here"] (sp_bs K t):=by
 refine T.F_bs.okN sc_bs (fun vs H Q E h=>?_) (fun cdv A outer s H vs Q E hr h=>?_)
 ·obtain⟨G,L,A,n,a,ln,rfl,_⟩:=h;rfl
 ·obtain⟨G,L,A,n,a,ln,rfl,lo,hn,ha,hl,k⟩:=h
  refine⟨_,(pss_cons (ps_set (i:=2) sc_bs.nd rfl (Or.inl rfl) (pe_callTy (call_listK (K:=K)) rfl T.no_list b_list (pa_c (pv 1) pa_nil)))
   (pss_cons (ps_set (i:=3) sc_bs.nd rfl (Or.inl rfl) (pe_call (ok_cc T) (hr.mono (by decide)) rfl T.mg_cc T.kp_cc T.b_cc .nil passr0 (pa_c (pv 0) (pa_c (pv 2) pa_nil))))
   (pss_cons (ps_set (i:=4) sc_bs.nd rfl (Or.inl rfl) (pe_call (ok_bf T) (hr.mono (by decide)) rfl T.mg_bf T.kp_bf T.b_bf .nil passr0 (pa_c (pv 0) (pa_c (pv 1) pa_nil))))
   (pss_cons (ps_set (i:=5) sc_bs.nd rfl (Or.inl rfl) (pe_call (ok_cm T) (hr.mono (by decide)) rfl T.mg_cm T.kp_cm T.b_cm .nil passr0 (pa_c (pv 0) (pa_c (pv 2) pa_nil))))
   (pss_cons (ps_if (PW.pt (pw_or (pt_not (pt_val (pe_callB (call_isinstK (K:=K)) rfl T.no_isinstance b_isinstance (pa_c (pv 3) (pa_c (pe_bltn (v:=.ty "list") rfl T.no_list b_list rfl) pa_nil))))) (pw_or (pt_cmpR (op_neDK (K:=K) hr.units) (pv 3) (pv 4) (nomark _)) (pw_or (pt_not (pt_val (pe_callB (call_isinstK (K:=K)) rfl T.no_isinstance b_isinstance (pa_c (pv 5) (pa_c (pe_bltn (v:=.ty "bool") rfl T.no_bool b_bool rfl) pa_nil))))) (pw_or1 (pt_cmpR op_ne (pv 5) (pe_cmpR (op_eqDK (K:=K) hr.units) (pv 4) (pe_lst pa_nil) (nomark _)) (nomark _)))))))
    (pss_one (ps_ret pe_bl))
    pss_nil)
   (pss_cons (ps_set (i:=6) sc_bs.nd rfl (Or.inl rfl) (pe_call (ok_cq T) (hr.mono (by decide)) rfl T.mg_cq T.kp_cq T.b_cq .nil passr0 (pa_c (pv 0) (pa_c (pv 2) pa_nil))))
   (pss_cons (ps_if (PW.pt (pw_or (pt_not (pt_val (pe_callB (call_isinstK (K:=K)) rfl T.no_isinstance b_isinstance (pa_c (pv 6) (pa_c (pe_bltn (v:=.ty "list") rfl T.no_list b_list rfl) pa_nil))))) (pw_or (pt_cmpR (op_neDK (K:=K) hr.units) (pv 6) (pe_call (ok_aq T) (hr.mono (by decide)) rfl T.mg_aq T.kp_aq T.b_aq .nil passr0 (pa_c (pv 0) (pa_c (pv 1) pa_nil))) (nomark _)) (pw_or1 (pt_cmpR (op_neDK (K:=K) hr.units) (pv 2) (pv 1) (nomark _))))))
    (pss_one (ps_ret pe_bl))
    pss_nil)
   (pss_cons (ps_expr (pe_bmK (K:=K) PySem.F.plainAttrs_list PySem.F.slot_list_append PySem.F.type_list_append mt_append (pv 3) (pa_c (pe_tup (pa_c pe_int (pa_c pe_int (pa_c pe_int pa_nil)))) pa_nil)))
   (pss_cons (ps_expr (pe_bm0K (K:=K) PySem.F.plainAttrs_list PySem.F.slot_list_clear PySem.F.type_list_clear mt_clear (pv 6)))
   (pss_one (ps_ret (pe_and (pe_cmpR (op_eqDK (K:=K) hr.units) (pe_call (ok_cc T) (hr.mono (by decide)) rfl T.mg_cc T.kp_cc T.b_cc .nil passr0 (pa_c (pv 0) (pa_c (pv 2) pa_nil))) (pv 4) (nomark _)) (pe_one (pe_cmpR (op_eqDK (K:=K) hr.units) (pe_call (ok_cq T) (hr.mono (by decide)) rfl T.mg_cq T.kp_cq T.b_cq .nil passr0 (pa_c (pv 0) (pa_c (pv 2) pa_nil))) (pe_call (ok_aq T) (hr.mono (by decide)) rfl T.mg_aq T.kp_aq T.b_aq .nil passr0 (pa_c (pv 0) (pa_c (pv 1) pa_nil))) (nomark _))))))))))))))),?_⟩
  have okl:okD 3 (PyData.list (ln.map PyData.int)):=.list (n:=2) okD_ints
  refine⟨_,rfl,a,iV ln,rfl,.inl ha,fun lh nlh=>?_⟩
  have s1:=Same.new (o:=.lst (iV ln)) nlh
  have eh1:=upd_same (H:=H) (a:=lh) (o:=.lst (iV ln))
  generalize upd H lh (.lst (iV ln))=H1 at s1 eh1 ⊢
  refine⟨_,rfl,_,rfl,G,L,A,n,lh,ln,rfl,lo.same s1,hn,SqL.of eh1,hl,fun lf ls1 ns1 H2 s2 nlf elf nm1 as1 pm1=>?_⟩
  have s02:=s1.trans s2
  refine⟨_,rfl,_,rfl,G,L,A,n,a,ln,rfl,lo.same s02,hn,s02.seq ha,hl,fun ld ls2 ns2 H3 s3 nld eld nm2 as2 pm2=>?_⟩
  have s03:=s02.trans s3
  obtain rfl:ns1=ns2:=asc_eq as1 as2 (pm1.trans pm2.symm)
  have s13:=s2.trans s3
  refine⟨_,rfl,_,rfl,G,L,A,n,lh,ln,rfl,lo.same s03,hn,SqL.of (s13 _ _ eh1),hl,fun H4 s4=>?_⟩
  have s04:=s03.trans s4
  have emp:(A.A.brk ln).isEmpty=ns1.isEmpty:=by
   cases e1:ns1 with
   | nil=>rw[e1] at pm1;rw[pm1.symm.eq_nil]
   | cons x r=>
    cases e2:A.A.brk ln with
    | nil=>rw[e1,e2] at pm1;exact absurd pm1.eq_nil (by simp)
    | cons _ _=>rfl
  have elf4:=(s3.trans s4) _ _ elf
  have eld4:=s4 _ _ eld
  have eh4:=(s13.trans s4) _ _ eh1
  have nm14:=nm1.same (s3.trans s4)
  have nm24:=nm2.same s4
  rw[emp]
  refine⟨_,rfl,_,_,.plain (.lst elf4),kitOne_self _ _,_,rfl,iteF ⟨_,rfl,_,rfl,_,_,.lst (SqL.of elf4) nm14.rpD,.lst (SqL.of eld4) nm24.rpD,ok_names.shaped (by decide),ok_names.shaped (by decide),_,rfl,iteFe (by rw[if_pos rfl,ok_names.self];rfl) ?_⟩⟩
  refine⟨_,rfl,_,_,.plain (.bl _),kitOne_self _ _,_,rfl,iteF ⟨_,rfl,_,rfl,by decide,fun le nle=>⟨_,_,.lst (SqL.of (Same.new nle _ _ eld4)) (nm24.same (Same.new nle)).rpD,.lst (SqL.of upd_same) .nil,ok_names.shaped (by decide),(ok_names (ns:=[])).shaped (by decide),rfl,_,rfl,iteFe ?_ ?_⟩⟩⟩
  ·rw[if_neg (by simp),eqv_empty];simp
  have s5:=Same.new (o:=.lst []) nle
  have s05:=s04.trans s5
  have elf5:=s5 _ _ elf4
  have eld5:=s5 _ _ eld4
  have eh5:=s5 _ _ eh4
  have nm25:=nm24.same s5
  generalize upd H4 le (.lst [])=H5 at s5 s05 elf5 eld5 eh5 nm25 ⊢
  refine⟨_,rfl,_,rfl,G,L,A,n,lh,ln,rfl,lo.same s05,hn,SqL.of eh5,hl,fun lr ls3 ns3 H6 s6 nlr elr nm3 as3 pm3=>?_⟩
  have s06:=s05.trans s6
  refine⟨_,rfl,_,_,.plain (.lst elr),kitOne_self _ _,_,rfl,iteF ⟨_,rfl,_,rfl,_,rfl,G,L,A,n,a,ln,rfl,lo.same s06,hn,s06.seq ha,hl,fun lc ls4 ns4 H7 s7 nlc elc nm4 as4 pm4=>?_⟩⟩
  obtain rfl:ns3=ns4:=asc_eq as3 as4 (pm3.trans pm4.symm)
  have s07:=s06.trans s7
  have elr7:=s7 _ _ elr
  have eh7:=(s6.trans s7) _ _ eh5
  have elf7:=(s6.trans s7) _ _ elf5
  have eld7:=(s6.trans s7) _ _ eld5
  have nm27:=nm25.same (s6.trans s7)
  refine⟨_,_,.lst (SqL.of elr7) (nm3.same s7).rpD,.lst (SqL.of elc) nm4.rpD,ok_names.shaped (by decide),ok_names.shaped (by decide),_,rfl,iteFe (by rw[if_pos rfl,ok_names.self];rfl) ?_⟩
  refine⟨_,rfl,_,rfl,_,_,.lst (SqL.of eh7) rp_ints,.lst (s07.seq ha) rp_ints,okl.shaped (by decide),okl.shaped (by decide),_,rfl,iteFe (by rw[if_pos rfl,okl.self];rfl) ?_⟩
  have fl1:ns1.length≤90:=by
   rw[pm1.length_eq,brk_eq,List.length_map]
   exact Nat.le_trans (List.length_filter_le _ _) (lo.ta hn).1
  have l1l:=nm1.len
  refine⟨_,rfl,.inl ⟨rfl,_,SqL.of elf7⟩,by show 3≤sizeLine;decide,fun tz ntz=>⟨lf,ls1,.ref tz,rfl,rfl,Same.new ntz _ _ elf7,small1000 (by omega),?_⟩⟩
  have nf0:H lf=none:=s1.free nlf
  have nr0:H lr=none:=s05.free nlr
  have ldf:ld≠lf:=fun z=>by rw[z,elf] at nld;cases nld
  have lhf:lh≠lf:=fun z=>by rw[← z,eh1] at nlf;cases nlf
  have lrf:lr≠lf:=fun z=>by rw[z,elf5] at nlr;cases nlr
  have lhr:lh≠lr:=fun z=>by rw[← z,eh5] at nlr;cases nlr
  have ldr:ld≠lr:=fun z=>by rw[← z,eld5] at nlr;cases nlr
  have s8:=Same.new (o:=.tup [.int 0,.int 0,.int 0]) ntz
  refine⟨_,rfl,.inl ⟨rfl,_,SqL.of (xs:=ls3) ?_⟩,lr,ls3,rfl,rfl,?_,?_⟩
  ·rw[upd_ne lrf];exact s8 _ _ elr7
  ·rw[upd_ne lrf];exact s8 _ _ elr7
  have s09:Same H (upd (upd (upd H7 tz (.tup [.int 0,.int 0,.int 0])) lf (.lst (ls1++[.ref tz]))) lr (.lst [])):=fun c u e=>by
   rw[upd_ne (ne_of_none e nr0),upd_ne (ne_of_none e nf0)];exact s8 _ _ (s07 _ _ e)
  have eh9:upd (upd (upd H7 tz (.tup [.int 0,.int 0,.int 0])) lf (.lst (ls1++[.ref tz]))) lr (.lst []) lh=some (.lst (iV ln)):=by
   rw[upd_ne lhr,upd_ne lhf];exact s8 _ _ eh7
  have eld9:upd (upd (upd H7 tz (.tup [.int 0,.int 0,.int 0])) lf (.lst (ls1++[.ref tz]))) lr (.lst []) ld=some (.lst ls2):=by
   rw[upd_ne ldr,upd_ne ldf];exact s8 _ _ eld7
  have nm29:NmL (upd (upd (upd H7 tz (.tup [.int 0,.int 0,.int 0])) lf (.lst (ls1++[.ref tz]))) lr (.lst [])) ls2 ns1:=nm27.keep fun c xs e=>by
   rw[upd_ne (fun z=>by rw[z,elr7] at e;cases e),upd_ne (fun z=>by rw[z,elf7] at e;cases e)];exact s8 _ _ e
  generalize upd (upd (upd H7 tz (.tup [.int 0,.int 0,.int 0])) lf (.lst (ls1++[.ref tz]))) lr (.lst [])=H9 at s09 eh9 eld9 nm29 ⊢
  refine⟨_,rfl,_,rfl,G,L,A,n,lh,ln,rfl,lo.same s09,hn,SqL.of eh9,hl,fun lx ls5 ns5 H10 s10 nlx elx nm5 as5 pm5=>?_⟩
  obtain rfl:ns1=ns5:=asc_eq as1 as5 (pm1.trans pm5.symm)
  have s010:=s09.trans s10
  refine⟨_,rfl,_,_,.lst (SqL.of elx) nm5.rpD,.lst (SqL.of (s10 _ _ eld9)) (nm29.same s10).rpD,ok_names.shaped (by decide),ok_names.shaped (by decide),_,rfl,iteTe (by rw[if_neg (by simp),ok_names.self]) ?_⟩
  refine⟨_,rfl,_,rfl,G,L,A,n,lh,ln,rfl,lo.same s010,hn,SqL.of (s10 _ _ eh9),hl,fun ly ls6 ns6 H11 s11 nly ely nm6 as6 pm6=>?_⟩
  have s011:=s010.trans s11
  refine⟨_,rfl,_,rfl,G,L,A,n,a,ln,rfl,lo.same s011,hn,s011.seq ha,hl,fun lz ls7 ns7 H12 s12 nlz elz nm7 as7 pm7=>?_⟩
  obtain rfl:ns6=ns7:=asc_eq as6 as7 (pm6.trans pm7.symm)
  refine⟨_,_,.lst (SqL.of (s12 _ _ ely)) (nm6.same s12).rpD,.lst (SqL.of elz) nm7.rpD,ok_names.shaped (by decide),ok_names.shaped (by decide),?_⟩
  rw[if_neg (by simp),ok_names.self]
  exact k H12 (s011.trans s12)
theorem brk_nil {A:DiA}{ln:List Int}:A.brk ln=[]↔∀ e∈A.ta,e.2≤lnAt ln (A.toOf e.1)→e.1.2.1≤lnAt ln e.1.1:=by
 unfold DiA.brk
 rw[List.filter_eq_nil_iff]
 constructor
 ·intro h e he hu
  have:=h e.1 (List.mem_map_of_mem (List.mem_filter.mpr ⟨he,decide_eq_true hu⟩))
  simpa [sentIn] using this
 ·intro h n hn
  obtain⟨e,he,rfl⟩:=List.mem_map.mp hn
  obtain⟨h1,h2⟩:=List.mem_filter.mp he
  have:=h e h1 (of_decide_eq_true h2)
  simp[sentIn,this]
theorem lnAt_zip {a b:List Int}{h:Int}(f:Int→Int→Int) (len:a.length=b.length) (h0:0≤h) (h1:h<a.length):lnAt ((a.zip b).map fun p=>f p.1 p.2) h=f (lnAt a h) (lnAt b h):=by
 obtain⟨i,rfl⟩:=Int.eq_ofNat_of_zero_le h0
 have i1:i<a.length:=by omega
 have i2:i<b.length:=by omega
 have e:(a.zip b)[i]? = some (a[i],b[i]):=by
  rw[List.getElem?_zip_eq_some];exact⟨List.getElem?_eq_getElem i1,List.getElem?_eq_getElem i2⟩
 unfold lnAt
 rw[Int.toNat_natCast,List.getElem?_map,e,List.getElem?_eq_getElem i1,List.getElem?_eq_getElem i2]
 rfl
theorem len_zip {a b:List Int}(f:Int→Int→Int) (len:a.length=b.length):((a.zip b).map fun p=>f p.1 p.2).length=a.length:=by
 rw[List.length_map,List.length_zip];omega
theorem brk_join {m:Int}{c:Int→Int}{A:DiA}(w:WfD m c A) {a b:List Int}(la:a.length=m) (len:a.length=b.length) (ha:A.brk a=[]) (hb:A.brk b=[]):A.brk (joinL a b)=[]∧A.brk (meetL a b)=[]:=by
 rw[brk_nil] at ha hb
 rw[brk_nil,brk_nil]
 refine⟨fun e he hu=>?_,fun e he hu=>?_⟩ <;>
 ·obtain⟨l,hl,el,_⟩:=w.tp e he
  have r:=w.rg l hl
  have t:A.toOf e.1=l.to:=by rw[← el];exact toOf_eq w.nd hl
  have x:=ha e he
  have y:=hb e he
  rw[t] at hu x y
  first
   | unfold joinL at hu ⊢;rw[lnAt_zip max len (by omega) (by omega)] at hu;rw[lnAt_zip max len (by rw[← el];omega) (by rw[← el];omega)]
   | unfold meetL at hu ⊢;rw[lnAt_zip min len (by omega) (by omega)] at hu;rw[lnAt_zip min len (by rw[← el];omega) (by rw[← el];omega)]
  omega
theorem brk_places {m:Int}{ths:List ThA}{A:DiA}(w:WfD m (cnt ths) A):A.brk (ths.map fun T=>(T.evs.length:Int))=[]:=by
 rw[brk_nil]
 intro e he _
 obtain⟨l,hl,el,_⟩:=w.tp e he
 have r:=(w.rg l hl).2.2.2.1
 have q:lnAt (ths.map fun T=>(T.evs.length:Int)) l.nm.1=cnt ths l.nm.1:=by
  unfold lnAt cnt
  rw[List.getElem?_map]
  cases ths[l.nm.1.toNat]? <;> rfl
 rw[← el,q];exact r
def spLaw (K:W.Frag) (ts:List Addr):Sp:=fun vs H Q _=>∃ a ns,vs=[.ref a]∧SqL K H a (iV ns)∧ns.length≤63∧(∀ P∈ts,H P=some (.tbl #[]))∧∀ H,Q (.bl true) H
theorem ok_law (T:Txt K mg t) (Tb:Tabs mg base t):FnOk P w K mg base (CXr P w) 9 t.f_law t.fd_law ["_law_script"] (spLaw K t.ts):=by
 refine T.F_law.okN sc_law (fun vs H Q E h=>?_) (fun cdv A outer s H vs Q E hr h=>?_)
 ·obtain⟨a,ns,rfl,_⟩:=h;rfl
 ·obtain⟨a,ns,rfl,hS,len,hT,k⟩:=h
  refine⟨_,(pss_cons (ps_set (i:=1) sc_law.nd rfl (Or.inl rfl) (pe_call (ok_cd T Tb) (hr.mono (by decide)) rfl T.mg_cd T.kp_cd T.b_cd .nil passr0 (pa_c (pv 0) pa_nil)))
   (pss_cons (ps_set (i:=2) sc_law.nd rfl (Or.inl rfl) (pe_call (ok_ce T) (hr.mono (by decide)) rfl T.mg_ce T.kp_ce T.b_ce .nil passr0 (pa_c (pv 1) (pa_c (pe_call (ok_au T) (hr.mono (by decide)) rfl T.mg_au T.kp_au T.b_au .nil passr0 (pa_c (pv 0) (pa_c pe_int pa_nil))) pa_nil))))
   (pss_cons (ps_set (i:=3) sc_law.nd rfl (Or.inl rfl) (pe_call (ok_ce T) (hr.mono (by decide)) rfl T.mg_ce T.kp_ce T.b_ce .nil passr0 (pa_c (pv 1) (pa_c (pe_call (ok_au T) (hr.mono (by decide)) rfl T.mg_au T.kp_au T.b_au .nil passr0 (pa_c (pv 0) (pa_c pe_int pa_nil))) pa_nil))))
   (pss_cons (ps_set (i:=4) sc_law.nd rfl (Or.inl rfl) (pe_lst (pa_c (pe_callTy (call_listK (K:=K)) rfl T.no_list b_list (pa_c (pv 2) pa_nil)) (pa_c (pe_callTy (call_listK (K:=K)) rfl T.no_list b_list (pa_c (pv 3) pa_nil)) pa_nil))))
   (pss_cons (ps_expr (pe_bmK (K:=K) PySem.F.plainAttrs_list PySem.F.slot_list_append PySem.F.type_list_append mt_append (pe_call (ok_cr T) (hr.mono (by decide)) rfl T.mg_cr T.kp_cr T.b_cr .nil passr0 (pa_c (pe_ix (ix_listK (K:=K)) (pv 4) pe_int (fun _ _=>rfl)) (pa_c (pe_ix (ix_listK (K:=K)) (pv 4) pe_int (fun _ _=>rfl)) pa_nil))) (pa_c pe_int pa_nil)))
   (pss_cons (ps_expr (pe_bm0K (K:=K) PySem.F.plainAttrs_list PySem.F.slot_list_clear PySem.F.type_list_clear mt_clear (pe_call (ok_cs T) (hr.mono (by decide)) rfl T.mg_cs T.kp_cs T.b_cs .nil passr0 (pa_c (pe_ix (ix_listK (K:=K)) (pv 4) pe_int (fun _ _=>rfl)) (pa_c (pe_ix (ix_listK (K:=K)) (pv 4) pe_int (fun _ _=>rfl)) pa_nil)))))
   (pss_cons (ps_if (pt_cmpR (op_neDK (K:=K) hr.units) (pv 4) (pe_lst (pa_c (pv 2) (pa_c (pv 3) pa_nil))) (nomark _))
    (pss_one (ps_ret pe_bl))
    pss_nil)
   (pss_cons (ps_set (i:=5) sc_law.nd rfl (Or.inl rfl) (pe_call (ok_cr T) (hr.mono (by decide)) rfl T.mg_cr T.kp_cr T.b_cr .nil passr0 (pa_c (pe_ix (ix_listK (K:=K)) (pv 4) pe_int (fun _ _=>rfl)) (pa_c (pe_ix (ix_listK (K:=K)) (pv 4) pe_int (fun _ _=>rfl)) pa_nil))))
   (pss_cons (ps_set (i:=6) sc_law.nd rfl (Or.inl rfl) (pe_call (ok_cs T) (hr.mono (by decide)) rfl T.mg_cs T.kp_cs T.b_cs .nil passr0 (pa_c (pe_ix (ix_listK (K:=K)) (pv 4) pe_int (fun _ _=>rfl)) (pa_c (pe_ix (ix_listK (K:=K)) (pv 4) pe_int (fun _ _=>rfl)) pa_nil))))
   (pss_cons (ps_for PassesOwn.never rfl (pi_range1 rfl T.no_range (pa_c (pe_fldK (K:=K) (pv 1) rfl) pa_nil)) (pg_name (i:=7) sc_law.nd rfl (Or.inl rfl))
    (pss_one (ps_if (PW.pt (pw_or (pt_cmpR op_ne (pe_ix (ix_listK (K:=K)) (pv 5) (pv 7) (fun _ _=>rfl)) (pe_callB (call_max2 rfl) rfl T.no_max b_max (pa_c (pe_ix (ix_listK (K:=K)) (pv 2) (pv 7) (fun _ _=>rfl)) (pa_c (pe_ix (ix_listK (K:=K)) (pv 3) (pv 7) (fun _ _=>rfl)) pa_nil))) (nomark _)) (pw_or1 (pt_cmpR op_ne (pe_ix (ix_listK (K:=K)) (pv 6) (pv 7) (fun _ _=>rfl)) (pe_callB (call_min2 rfl) rfl T.no_min b_min (pa_c (pe_ix (ix_listK (K:=K)) (pv 2) (pv 7) (fun _ _=>rfl)) (pa_c (pe_ix (ix_listK (K:=K)) (pv 3) (pv 7) (fun _ _=>rfl)) pa_nil))) (nomark _)))))
    (pss_one (ps_ret pe_bl))
    pss_nil)))
   (pss_cons (ps_if (PW.pt (pw_or (pt_cmpR op_ne (pe_callB (call_lenK (K:=K)) rfl T.no_len b_len (pa_c (pv 5) pa_nil)) (pe_fldK (K:=K) (pv 1) rfl) (nomark _)) (pw_or1 (pt_cmpR op_ne (pe_callB (call_lenK (K:=K)) rfl T.no_len b_len (pa_c (pv 6) pa_nil)) (pe_fldK (K:=K) (pv 1) rfl) (nomark _)))))
    (pss_one (ps_ret pe_bl))
    pss_nil)
   (pss_cons (ps_for PassesOwn.never rfl (pi_listK (K:=K) (pe_lst (pa_c (pv 2) (pa_c (pv 3) (pa_c (pv 5) (pa_c (pv 6) (pa_c (pe_meth0 (pv 1) T.cl_Loom T.me_bd (ok_bd T) (hr.mono (by decide)) T.b_bd .nil passr0) (pa_c (pe_comp ["_law_script","_law_loom_here","_law_one","_law_other","_law_handed","_law_more","_law_less","~_law_k","_law_line_here","_law_k"] 1 rfl (pi_range1 rfl T.no_range (pa_c (pe_fldK (K:=K) (pv 1) rfl) pa_nil)) (fun _ _ _ _ _=>⟨(pg_name (i:=9) (show List.Nodup (["_law_script","_law_loom_here","_law_one","_law_other","_law_handed","_law_more","_law_less","~_law_k","_law_line_here","_law_k"]:List Str) from by decide +kernel) rfl (Or.inl rfl)),pts_nil,pe_int⟩)) pa_nil)))))))) (pg_name (i:=8) sc_law.nd rfl (Or.inl rfl))
    (pss_one (ps_if (pt_not (pt_val (pe_call (ok_bs T) (hr.mono (by decide)) rfl T.mg_bs T.kp_bs T.b_bs .nil passr0 (pa_c (pv 1) (pa_c (pv 8) pa_nil)))))
    (pss_one (ps_ret pe_bl))
    pss_nil)))
   (pss_cons (ps_if (PW.pt (pw_and (pt_cmpR (op_eqDK (K:=K) hr.units) (pe_call (ok_bf T) (hr.mono (by decide)) rfl T.mg_bf T.kp_bf T.b_bf .nil passr0 (pa_c (pv 1) (pa_c (pv 2) pa_nil))) (pe_lst pa_nil) (nomark _)) (pw_and1 (pt_cmpR (op_eqDK (K:=K) hr.units) (pe_call (ok_bf T) (hr.mono (by decide)) rfl T.mg_bf T.kp_bf T.b_bf .nil passr0 (pa_c (pv 1) (pa_c (pv 3) pa_nil))) (pe_lst pa_nil) (nomark _)))))
    (pss_one (ps_ret (pe_and (pe_cmpR op_isB (pe_call (ok_cm T) (hr.mono (by decide)) rfl T.mg_cm T.kp_cm T.b_cm .nil passr0 (pa_c (pv 1) (pa_c (pv 5) pa_nil))) pe_bl (nomark _)) (pe_one (pe_cmpR op_isB (pe_call (ok_cm T) (hr.mono (by decide)) rfl T.mg_cm T.kp_cm T.b_cm .nil passr0 (pa_c (pv 1) (pa_c (pv 6) pa_nil))) pe_bl (nomark _))))))
    pss_nil)
   (pss_one (ps_ret (pe_cmpR op_isB (pe_call (ok_cm T) (hr.mono (by decide)) rfl T.mg_cm T.kp_cm T.b_cm .nil passr0 (pa_c (pv 1) (pa_c (pe_meth0 (pv 1) T.cl_Loom T.me_bd (ok_bd T) (hr.mono (by decide)) T.b_bd .nil passr0) pa_nil))) pe_bl (nomark _))))))))))))))))),?_⟩
  refine⟨_,rfl,a,ns,rfl,hS,.inl (hT _ T.tin_cd),fun G H1 L A n hn lo ha1=>?_⟩
  have m2:=lo.m2
  refine⟨_,rfl,_,rfl,a,ns,4,rfl,ha1,by decide,fun c4=>⟨G,L,A,n,c4,rfl,lo,hn,fun l1 ln1 H2 s2 nl1 el1 len1=>?_⟩⟩
  refine⟨_,rfl,_,rfl,a,ns,5,rfl,s2.seq ha1,by decide,fun c5=>⟨G,L,A,n,c5,rfl,lo.same s2,hn,fun l2 ln2 H3 s3 nl2 el2 len2=>?_⟩⟩
  have el13:=s3 _ _ el1
  have lo3:=(lo.same s2).same s3
  refine⟨_,rfl,l1,iV ln1,rfl,.inl (SqL.of el13),fun h1 nh1=>?_⟩
  have s4:=Same.new (o:=.lst (iV ln1)) nh1
  have eh1:=upd_same (H:=H3) (a:=h1) (o:=.lst (iV ln1))
  generalize upd H3 h1 (.lst (iV ln1))=H4 at s4 eh1 ⊢
  refine⟨_,rfl,l2,iV ln2,rfl,.inl (SqL.of (s4 _ _ el2)),fun h2 nh2=>?_⟩
  have s5:=Same.new (o:=.lst (iV ln2)) nh2
  have eh2:=upd_same (H:=H4) (a:=h2) (o:=.lst (iV ln2))
  generalize upd H4 h2 (.lst (iV ln2))=H5 at s5 eh2 ⊢
  refine⟨by show 2≤sizeLine;decide,fun hd nhd=>?_⟩
  have s6:=Same.new (o:=.lst [.ref h1,.ref h2]) nhd
  have ehd:=upd_same (H:=H5) (a:=hd) (o:=.lst [.ref h1,.ref h2])
  generalize upd H5 hd (.lst [.ref h1,.ref h2])=H6 at s6 ehd ⊢
  have s36:=(s4.trans s5).trans s6
  have eh16:=(s5.trans s6) _ _ eh1
  have eh26:=s6 _ _ eh2
  have jl:(joinL ln1 ln2).length=A.many:=by unfold joinL;rw[len_zip max (by omega)];exact len1
  have ml:(meetL ln1 ln2).length=A.many:=by unfold meetL;rw[len_zip min (by omega)];exact len1
  refine⟨_,rfl,hd,_,0,.ref h1,rfl,rfl,SqL.of ehd,rfl,_,rfl,hd,_,1,.ref h2,rfl,rfl,SqL.of ehd,rfl,h1,h2,ln1,ln2,rfl,SqL.of eh16,SqL.of eh26,by omega,by omega,fun lj H7 s7 nlj elj=>?_⟩
  refine⟨.inl ⟨rfl,_,SqL.of elj⟩,lj,_,.int 7,rfl,rfl,elj,small1000 (by unfold iV;rw[List.length_map,jl];omega),?_⟩
  have s68:Same H6 (upd H7 lj (.lst (iV (joinL ln1 ln2)++[.int 7]))):=fun c u e=>by
   rw[upd_ne (ne_of_none e nlj)];exact s7 _ _ e
  generalize upd H7 lj (.lst (iV (joinL ln1 ln2)++[.int 7]))=H8 at s68 ⊢
  have ehd8:=s68 _ _ ehd
  refine⟨_,rfl,hd,_,0,.ref h1,rfl,rfl,SqL.of ehd8,rfl,_,rfl,hd,_,1,.ref h2,rfl,rfl,SqL.of ehd8,rfl,h1,h2,ln1,ln2,rfl,SqL.of (s68 _ _ eh16),SqL.of (s68 _ _ eh26),by omega,by omega,fun lm H9 s9 nlm elm=>?_⟩
  refine⟨.inl ⟨rfl,_,SqL.of elm⟩,lm,_,rfl,rfl,elm,?_⟩
  have s80:Same H8 (upd H9 lm (.lst [])):=fun c u e=>by
   rw[upd_ne (ne_of_none e nlm)];exact s9 _ _ e
  have s60:=s68.trans s80
  generalize upd H9 lm (.lst [])=H10 at s60 ⊢
  clear s80 s68 ehd8 s9 elm nlm s7 elj nlj
  have s30:=s36.trans s60
  have ok2:okD 3 (PyData.list [PyData.list (ln1.map PyData.int),PyData.list (ln2.map PyData.int)]):=.list (n:=2) fun d hd=>by
   simp only[List.mem_cons,List.not_mem_nil,or_false] at hd
   rcases hd with rfl|rfl<;>exact .list (n:=1) okD_ints
  have eh10:=s60 _ _ eh16
  have eh20:=s60 _ _ eh26
  have ehd0:=s60 _ _ ehd
  have e10:=s30 _ _ el13
  have e20:=s30 _ _ el2
  have lo10:=lo3.same s30
  refine⟨_,rfl,_,rfl,_,rfl,by show 2≤sizeLine;decide,fun le nle=>?_⟩
  have s11:=Same.new (o:=.lst [.ref l1,.ref l2]) nle
  have ele:=upd_same (H:=H10) (a:=le) (o:=.lst [.ref l1,.ref l2])
  generalize upd H10 le (.lst [.ref l1,.ref l2])=H11 at s11 ele ⊢
  have ehd1:=s11 _ _ ehd0
  refine⟨_,_,.lst (SqL.of ehd1) (.cons (.lst (SqL.of (s11 _ _ eh10)) rp_ints) (.cons (.lst (SqL.of (s11 _ _ eh20)) rp_ints) .nil)),.lst (SqL.of ele) (.cons (.lst (SqL.of (s11 _ _ e10)) rp_ints) (.cons (.lst (SqL.of (s11 _ _ e20)) rp_ints) .nil)),ok2.shaped (by decide),ok2.shaped (by decide),_,rfl,iteFe (by rw[if_pos rfl,ok2.self];rfl) ?_⟩
  refine⟨_,rfl,hd,_,0,.ref h1,rfl,rfl,SqL.of ehd1,rfl,_,rfl,hd,_,1,.ref h2,rfl,rfl,SqL.of ehd1,rfl,h1,h2,ln1,ln2,rfl,SqL.of (s11 _ _ eh10),SqL.of (s11 _ _ eh20),by omega,by omega,fun l5 H12 s12 nl5 el5=>?_⟩
  have ehd2:=s12 _ _ ehd1
  have s02:=s11.trans s12
  refine⟨_,rfl,hd,_,0,.ref h1,rfl,rfl,SqL.of ehd2,rfl,_,rfl,hd,_,1,.ref h2,rfl,rfl,SqL.of ehd2,rfl,h1,h2,ln1,ln2,rfl,SqL.of (s02 _ _ eh10),SqL.of (s02 _ _ eh20),by omega,by omega,fun l6 H13 s13 nl6 el6=>?_⟩
  have s03:=s02.trans s13
  have e13:=s03 _ _ e10
  have e23:=s03 _ _ e20
  have e53:=s13 _ _ el5
  have lo13:=lo10.same s03
  clear ehd2 s02 s12 nl5 ehd1 ele s11 nle s60 eh26 eh16
  refine⟨_,rfl,L.p,_,L.dx,_,_,rfl,lo13.c.self,T.cl_Loom,T.na_cg,rfl,(A.many:Int),rfl,by omega,by omega,for_range (lo:=0) (fun i σ H'=>H'=H13∧∃ o,σ=[some (.ref a),some (.ref L.p),some (.ref l1),some (.ref l2),some (.ref hd),some (.ref l5),some (.ref l6),o,none]) ⟨rfl,_,rfl⟩ ?_ ?_⟩
  ·rintro i σ H' hi ⟨rfl,o,rfl⟩
   have hi':i<A.many:=by omega
   have a1:=lnAt_at (ln:=ln1) (h:=0+(i:Int)) (by omega) (by omega)
   have a2:=lnAt_at (ln:=ln2) (h:=0+(i:Int)) (by omega) (by omega)
   have a5:=lnAt_at (ln:=joinL ln1 ln2) (h:=0+(i:Int)) (by omega) (by omega)
   have a6:=lnAt_at (ln:=meetL ln1 ln2) (h:=0+(i:Int)) (by omega) (by omega)
   have b5:lnAt (joinL ln1 ln2) (0+(i:Int))=max (lnAt ln1 (0+(i:Int))) (lnAt ln2 (0+(i:Int))):=lnAt_zip max (by omega) (by omega) (by omega)
   have b6:lnAt (meetL ln1 ln2) (0+(i:Int))=min (lnAt ln1 (0+(i:Int))) (lnAt ln2 (0+(i:Int))):=lnAt_zip min (by omega) (by omega) (by omega)
   rw[b5] at a5
   rw[b6] at a6
   refine⟨_,rfl,_,rfl,l5,_,_,_,rfl,rfl,SqL.of e53,a5,_,rfl,_,rfl,l1,_,_,_,rfl,rfl,SqL.of e13,a1,_,rfl,_,rfl,l2,_,_,_,rfl,rfl,SqL.of e23,a2,_,_,rfl,rfl,_,rfl,iteFe ?_ ?_⟩
   ·rw[dec_int];simp;split<;>omega
   refine⟨_,rfl,_,rfl,l6,_,_,_,rfl,rfl,SqL.of el6,a6,_,rfl,_,rfl,l1,_,_,_,rfl,rfl,SqL.of e13,a1,_,rfl,_,rfl,l2,_,_,_,rfl,rfl,SqL.of e23,a2,_,_,rfl,rfl,_,rfl,iteFe ?_ ?_⟩
   ·rw[dec_int];simp;split<;>omega
   exact⟨rfl,_,rfl⟩
  ·rintro σ H' ⟨rfl,o,rfl⟩
   have lvl:∀ {l:List Int},l.length=A.many→(iV l).length=A.many:=fun {l} h=>by unfold iV;rw[List.length_map];exact h
   refine⟨_,rfl,l5,_,rfl,.inl (SqL.of e53),_,rfl,L.p,_,L.dx,_,_,rfl,lo13.c.self,T.cl_Loom,T.na_cg,rfl,rfl,_,rfl,iteFe (by rw[lvl jl];simp) ?_⟩
   refine⟨_,rfl,l6,_,rfl,.inl (SqL.of el6),_,rfl,L.p,_,L.dx,_,_,rfl,lo13.c.self,T.cl_Loom,T.na_cg,rfl,rfl,_,rfl,iteFe (by rw[lvl ml];simp) ?_⟩
   refine⟨_,rfl,_,rfl,_,rfl,_,rfl,_,rfl,L.p,L.dx,_,rfl,lo13.c.self,rfl,G,L,A,n,rfl,lo13,fun lp H14 s14 nlp elp=>?_⟩
   have pl:(A.ths.map fun T=>(T.evs.length:Int)).length=A.many:=by rw[List.length_map];exact lo.c.len2
   refine⟨_,rfl,L.p,_,L.dx,_,_,rfl,s14 _ _ lo13.c.self,T.cl_Loom,T.na_cg,rfl,(A.many:Int),rfl,by omega,by omega,comp_range (n:=A.many) (by omega) fun acc hacc=>⟨fun i σ2 ys H3=>ys=iV (List.replicate i 0)∧H3 acc=some (.lst ys)∧Same H14 H3,⟨rfl,upd_same,Same.new hacc⟩,?_,?_,?_⟩⟩
   ·rintro i σ2 ys H3 hi ⟨rfl,_,_⟩
    unfold iV;rw[List.length_map,List.length_replicate];exact Nat.le_refl _
   ·rintro i σ2 ys H3 hi ⟨rfl,e3,s3⟩
    dsimp only[gName,tYes]
    refine iteT ⟨e3,Nx.mk hi ⟨?_,upd_same,fun c u e=>?_⟩⟩
    ·unfold iV;rw[List.replicate_succ',List.map_append];rfl
    ·rw[upd_ne (ne_of_none e hacc)];exact s3 _ _ e
   rintro σ2 ys H15 ⟨rfl,e15,s15⟩
   refine⟨by show 6≤sizeLine;decide,fun lall nall=>?_⟩
   have s16:=Same.new (o:=.lst [.ref l1,.ref l2,.ref l5,.ref l6,.ref lp,.ref acc]) nall
   have ea:=upd_same (H:=H15) (a:=lall) (o:=.lst [.ref l1,.ref l2,.ref l5,.ref l6,.ref lp,.ref acc])
   generalize upd H15 lall (.lst [.ref l1,.ref l2,.ref l5,.ref l6,.ref lp,.ref acc])=H16 at s16 ea ⊢
   have s36':=(s14.trans s15).trans s16
   have lo16:=lo13.same s36'
   have all:∀ x∈[V.ref l1,.ref l2,.ref l5,.ref l6,.ref lp,.ref acc],∃ b ln,x=.ref b∧H16 b=some (.lst (iV ln))∧ln.length=A.many:=fun x hx=>by
    simp only[List.mem_cons,List.not_mem_nil,or_false] at hx
    rcases hx with rfl|rfl|rfl|rfl|rfl|rfl
    ·exact⟨_,_,rfl,s36' _ _ e13,len1⟩
    ·exact⟨_,_,rfl,s36' _ _ e23,len2⟩
    ·exact⟨_,_,rfl,s36' _ _ e53,jl⟩
    ·exact⟨_,_,rfl,s36' _ _ el6,ml⟩
    ·exact⟨_,_,rfl,(s15.trans s16) _ _ elp,pl⟩
    ·exact⟨_,_,rfl,s16 _ _ e15,List.length_replicate⟩
   refine⟨lall,rfl,⟨_,SqL.of ea⟩,for_list (xs:=[V.ref l1,.ref l2,.ref l5,.ref l6,.ref lp,.ref acc]) (fun i σ H'=>Same H16 H'∧∃ o',σ=[some (.ref a),some (.ref L.p),some (.ref l1),some (.ref l2),some (.ref hd),some (.ref l5),some (.ref l6),o,o']) ⟨.refl _,_,rfl⟩ ?_ ?_ ?_⟩
   ·rintro i σ H' _ ⟨s',_⟩
    exact SqL.of (s' _ _ ea)
   ·rintro i x σ H' hx ⟨s',o',rfl⟩
    obtain⟨b,ln,rfl,eb,hl⟩:=all x (List.mem_of_getElem? hx)
    exact⟨_,rfl,_,rfl,G,L,A,n,b,ln,rfl,lo16.same s',hn,SqL.of (s' _ _ eb),hl,fun H'' s''=>⟨_,rfl,iteFe rfl ⟨s'.trans s'',_,rfl⟩⟩⟩
   ·rintro σ H17 ⟨s17,o',rfl⟩
    have s317:=s36'.trans s17
    have lo17:=lo16.same s17
    have brk0:∀ {ns:List Nm3} {ln:List Int},ns.Perm (A.A.brk ln)→(if false=true then !PyData.eqv (.list (ns.map nmD)) (.list []) else PyData.eqv (.list (ns.map nmD)) (.list []))=true→A.A.brk ln=[]:=fun {ns ln} pm z=>by
     rw[if_neg (by simp),eqv_empty,List.isEmpty_iff] at z
     rw[z] at pm
     exact pm.symm.eq_nil
    refine⟨_,rfl,_,rfl,G,L,A,n,l1,ln1,rfl,lo17,hn,SqL.of (s317 _ _ e13),len1,fun lb ls ns1 H18 s18 nlb elb nm as pm=>⟨by show 0≤sizeLine;decide,fun le nle=>⟨_,_,.lst (SqL.of (Same.new nle _ _ elb)) (nm.same (Same.new nle)).rpD,.lst (SqL.of upd_same) .nil,ok_names.shaped (by decide),(ok_names (ns:=[])).shaped (by decide),_,rfl,ite2 (fun z1=>?_) fun z1=>?_⟩⟩⟩
    ·have s19:=s18.trans (Same.new (o:=.lst []) nle)
     generalize upd H18 le (.lst [])=H19 at s19 ⊢
     have s319:=s317.trans s19
     have lo19:=lo17.same s19
     refine⟨_,rfl,_,rfl,G,L,A,n,l2,ln2,rfl,lo19,hn,SqL.of (s319 _ _ e23),len2,fun lb2 ls2 ns2 H20 s20 nlb2 elb2 nm2 as2 pm2=>⟨by show 0≤sizeLine;decide,fun le2 nle2=>⟨_,_,.lst (SqL.of (Same.new nle2 _ _ elb2)) (nm2.same (Same.new nle2)).rpD,.lst (SqL.of upd_same) .nil,ok_names.shaped (by decide),(ok_names (ns:=[])).shaped (by decide),_,rfl,ite2 (fun z2=>?_) fun z2=>?_⟩⟩⟩
     ·have s21:=s20.trans (Same.new (o:=.lst []) nle2)
      generalize upd H20 le2 (.lst [])=H21 at s21 ⊢
      have s321:=s319.trans s21
      have lo21:=lo19.same s21
      obtain⟨bj,bm⟩:=brk_join lo.wf (by rw[len1]) (by omega) (brk0 pm z1) (brk0 pm2 z2)
      refine⟨_,rfl,_,rfl,G,L,A,n,l5,_,rfl,lo21,hn,SqL.of (s321 _ _ e53),jl,fun H22 s22=>⟨_,_,rfl,rfl,_,rfl,iteTe (by rw[bj];rfl) ⟨_,rfl,_,rfl,G,L,A,n,l6,_,rfl,lo21.same s22,hn,SqL.of (s22 _ _ (s321 _ _ el6)),ml,fun H23 s23=>⟨_,_,rfl,rfl,?_⟩⟩⟩⟩
      rw[bm];exact k _
     ·have s21:=s20.trans (Same.new (o:=.lst []) nle2)
      generalize upd H20 le2 (.lst [])=H21 at s21 ⊢
      have lo21:=lo19.same s21
      refine⟨_,rfl,_,rfl,L.p,L.dx,_,rfl,lo21.c.self,rfl,G,L,A,n,rfl,lo21,fun lq H22 s22 nlq elq=>⟨G,L,A,n,lq,_,rfl,lo21.same s22,hn,SqL.of elq,pl,fun H23 s23=>⟨_,_,rfl,rfl,?_⟩⟩⟩
      rw[brk_places lo.wf];exact k _
    ·have s19:=s18.trans (Same.new (o:=.lst []) nle)
     generalize upd H18 le (.lst [])=H19 at s19 ⊢
     have lo19:=lo17.same s19
     refine iteFe rfl ?_
     refine⟨_,rfl,_,rfl,L.p,L.dx,_,rfl,lo19.c.self,rfl,G,L,A,n,rfl,lo19,fun lq H22 s22 nlq elq=>⟨G,L,A,n,lq,_,rfl,lo19.same s22,hn,SqL.of elq,pl,fun H23 s23=>⟨_,_,rfl,rfl,?_⟩⟩⟩
     rw[brk_places lo.wf];exact k _
end
set_option maxHeartbeats 0 in
set_option autoImplicit true in
theorem txt_mk {K:W.Frag}{h:Heap}{mg:Str→Option Value}{c_Bundle c_Each c_Event c_Loom c_Never c_NoPoint c_NoSize c_Thread f_am f_an f_cc f_cm f_cq f_cr f_cs f_ci f_ad f_ab f_ae f_ba f_ac f_aa f_bn f_co f_bb f_bc f_bx f_ar f_al f_ah f_ai f_cp f_cb f_ck f_cl f_bp f_bd f_ca f_af f_ag f_aj f_as f_av f_ao f_bz f_au f_bo f_cj f_be f_bq f_br f_cd f_ce f_bf f_aq f_bs f_law cdA_cd tbA_cd fa:Addr}{ts:List Addr}(kin:K.In h) (G:h.Ns mainGlobals mg) (hfa:mg "law" = some (.ref fa))
  {oq_cd:Value}{oe_cd:Option Addr}{vq_cd:Array Value}{sq_cd:Array (Option Value)}
  {tk_mv_SMALLEST_SIZE:Tok}
  {tk_mv_GREATEST_SIZE:Tok}
  (aC_Bundle:W.nsIn K mainGlobals "Bundle" = some (some (.ref c_Bundle)))
  (aC_Each:W.nsIn K mainGlobals "Each" = some (some (.ref c_Each)))
  (aC_Event:W.nsIn K mainGlobals "Event" = some (some (.ref c_Event)))
  (aC_Loom:W.nsIn K mainGlobals "Loom" = some (some (.ref c_Loom)))
  (aC_Never:W.nsIn K mainGlobals "Never" = some (some (.ref c_Never)))
  (aC_NoPoint:W.nsIn K mainGlobals "NoPoint" = some (some (.ref c_NoPoint)))
  (aC_NoSize:W.nsIn K mainGlobals "NoSize" = some (some (.ref c_NoSize)))
  (aC_Thread:W.nsIn K mainGlobals "Thread" = some (some (.ref c_Thread)))
  (aD_am:W.nsIn K mainGlobals "is_sent_within" = some (some (.ref f_am)))
  (lk_am:K.lookup f_am=some ⟨oc_am,od_am,.func (W.fnOf "is_sent_within" "is_sent_within" (defArgs s_am) (defBody s_am) (defScope s_am) .none kV_am dc_am pm_am an_am cd_am ct_am),sl_am⟩)
  (cd__am:W.codeIn K cd_am "is_sent_within" = true)
  (kp__am:W.keepIn K (.ref f_am)=true)
  (aD_an:W.nsIn K mainGlobals "is_used_within" = some (some (.ref f_an)))
  (lk_an:K.lookup f_an=some ⟨oc_an,od_an,.func (W.fnOf "is_used_within" "is_used_within" (defArgs s_an) (defBody s_an) (defScope s_an) .none kV_an dc_an pm_an an_an cd_an ct_an),sl_an⟩)
  (cd__an:W.codeIn K cd_an "is_used_within" = true)
  (kp__an:W.keepIn K (.ref f_an)=true)
  (aD_cc:W.nsIn K mainGlobals "broken_by" = some (some (.ref f_cc)))
  (lk_cc:K.lookup f_cc=some ⟨oc_cc,od_cc,.func (W.fnOf "broken_by" "broken_by" (defArgs s_cc) (defBody s_cc) (defScope s_cc) .none kV_cc dc_cc pm_cc an_cc cd_cc ct_cc),sl_cc⟩)
  (cd__cc:W.codeIn K cd_cc "broken_by" = true)
  (kp__cc:W.keepIn K (.ref f_cc)=true)
  (aD_cm:W.nsIn K mainGlobals "is_sound" = some (some (.ref f_cm)))
  (lk_cm:K.lookup f_cm=some ⟨oc_cm,od_cm,.func (W.fnOf "is_sound" "is_sound" (defArgs s_cm) (defBody s_cm) (defScope s_cm) .none kV_cm dc_cm pm_cm an_cm cd_cm ct_cm),sl_cm⟩)
  (cd__cm:W.codeIn K cd_cm "is_sound" = true)
  (kp__cm:W.keepIn K (.ref f_cm)=true)
  (aD_cq:W.nsIn K mainGlobals "on_road" = some (some (.ref f_cq)))
  (lk_cq:K.lookup f_cq=some ⟨oc_cq,od_cq,.func (W.fnOf "on_road" "on_road" (defArgs s_cq) (defBody s_cq) (defScope s_cq) .none kV_cq dc_cq pm_cq an_cq cd_cq ct_cq),sl_cq⟩)
  (cd__cq:W.codeIn K cd_cq "on_road" = true)
  (kp__cq:W.keepIn K (.ref f_cq)=true)
  (aD_cr:W.nsIn K mainGlobals "joined" = some (some (.ref f_cr)))
  (lk_cr:K.lookup f_cr=some ⟨oc_cr,od_cr,.func (W.fnOf "joined" "joined" (defArgs s_cr) (defBody s_cr) (defScope s_cr) .none kV_cr dc_cr pm_cr an_cr cd_cr ct_cr),sl_cr⟩)
  (cd__cr:W.codeIn K cd_cr "joined" = true)
  (kp__cr:W.keepIn K (.ref f_cr)=true)
  (aD_cs:W.nsIn K mainGlobals "met_of" = some (some (.ref f_cs)))
  (lk_cs:K.lookup f_cs=some ⟨oc_cs,od_cs,.func (W.fnOf "met_of" "met_of" (defArgs s_cs) (defBody s_cs) (defScope s_cs) .none kV_cs dc_cs pm_cs an_cs cd_cs ct_cs),sl_cs⟩)
  (cd__cs:W.codeIn K cd_cs "met_of" = true)
  (kp__cs:W.keepIn K (.ref f_cs)=true)
  (aD_ci:W.nsIn K mainGlobals "is_whole" = some (some (.ref f_ci)))
  (lk_ci:K.lookup f_ci=some ⟨oc_ci,od_ci,.func (W.fnOf "is_whole" "is_whole" (defArgs s_ci) (defBody s_ci) (defScope s_ci) .none kV_ci dc_ci pm_ci an_ci cd_ci ct_ci),sl_ci⟩)
  (cd__ci:W.codeIn K cd_ci "is_whole" = true)
  (kp__ci:W.keepIn K (.ref f_ci)=true)
  (aD_ad:W.findIn K (.ref c_Never) "down_by_deed" = some (some (.ref f_ad)))
  (lk_ad:K.lookup f_ad=some ⟨oc_ad,od_ad,.func (W.fnOf "down_by_deed" "Habit.down_by_deed" (defArgs s_ad) (defBody s_ad) (defScope s_ad) .none kV_ad dc_ad pm_ad an_ad cd_ad ct_ad),sl_ad⟩)
  (cd__ad:W.codeIn K cd_ad "Habit.down_by_deed" = true)
  (kp__ad:W.keepIn K (.ref f_ad)=true)
  (aD_ab:W.findIn K (.ref c_Each) "down_by_writing" = some (some (.ref f_ab)))
  (lk_ab:K.lookup f_ab=some ⟨oc_ab,od_ab,.func (W.fnOf "down_by_writing" "Habit.down_by_writing" (defArgs s_ab) (defBody s_ab) (defScope s_ab) .none kV_ab dc_ab pm_ab an_ab cd_ab ct_ab),sl_ab⟩)
  (cd__ab:W.codeIn K cd_ab "Habit.down_by_writing" = true)
  (kp__ab:W.keepIn K (.ref f_ab)=true)
  (aD_ae:W.findIn K (.ref c_Each) "down_by_deed" = some (some (.ref f_ae)))
  (lk_ae:K.lookup f_ae=some ⟨oc_ae,od_ae,.func (W.fnOf "down_by_deed" "Each.down_by_deed" (defArgs s_ae) (defBody s_ae) (defScope s_ae) .none kV_ae dc_ae pm_ae an_ae cd_ae ct_ae),sl_ae⟩)
  (cd__ae:W.codeIn K cd_ae "Each.down_by_deed" = true)
  (kp__ae:W.keepIn K (.ref f_ae)=true)
  (aD_ba:W.findIn K (.ref c_Bundle) "__init__" = some (some (.ref f_ba)))
  (lk_ba:K.lookup f_ba=some ⟨oc_ba,od_ba,.func (W.fnOf "__init__" "Bundle.__init__" (defArgs s_ba) (defBody s_ba) (defScope s_ba) .none kV_ba dc_ba pm_ba an_ba cd_ba ct_ba),sl_ba⟩)
  (cd__ba:W.codeIn K cd_ba "Bundle.__init__" = true)
  (kp__ba:W.keepIn K (.ref f_ba)=true)
  (aD_ac:W.findIn K (.ref c_Bundle) "down_by_deed" = some (some (.ref f_ac)))
  (lk_ac:K.lookup f_ac=some ⟨oc_ac,od_ac,.func (W.fnOf "down_by_deed" "Bundle.down_by_deed" (defArgs s_ac) (defBody s_ac) (defScope s_ac) .none kV_ac dc_ac pm_ac an_ac cd_ac ct_ac),sl_ac⟩)
  (cd__ac:W.codeIn K cd_ac "Bundle.down_by_deed" = true)
  (kp__ac:W.keepIn K (.ref f_ac)=true)
  (aD_aa:W.findIn K (.ref c_Bundle) "down_by_writing" = some (some (.ref f_aa)))
  (lk_aa:K.lookup f_aa=some ⟨oc_aa,od_aa,.func (W.fnOf "down_by_writing" "Bundle.down_by_writing" (defArgs s_aa) (defBody s_aa) (defScope s_aa) .none kV_aa dc_aa pm_aa an_aa cd_aa ct_aa),sl_aa⟩)
  (cd__aa:W.codeIn K cd_aa "Bundle.down_by_writing" = true)
  (kp__aa:W.keepIn K (.ref f_aa)=true)
  (aD_bn:W.findIn K (.ref c_Event) "__init__" = some (some (.ref f_bn)))
  (lk_bn:K.lookup f_bn=some ⟨oc_bn,od_bn,.func (W.fnOf "__init__" "Event.__init__" (defArgs s_bn) (defBody s_bn) (defScope s_bn) .none kV_bn dc_bn pm_bn an_bn cd_bn ct_bn),sl_bn⟩)
  (cd__bn:W.codeIn K cd_bn "Event.__init__" = true)
  (kp__bn:W.keepIn K (.ref f_bn)=true)
  (aD_co:W.nsIn K mainGlobals "copy_of" = some (some (.ref f_co)))
  (lk_co:K.lookup f_co=some ⟨oc_co,od_co,.func (W.fnOf "copy_of" "copy_of" (defArgs s_co) (defBody s_co) (defScope s_co) .none kV_co dc_co pm_co an_co cd_co ct_co),sl_co⟩)
  (cd__co:W.codeIn K cd_co "copy_of" = true)
  (kp__co:W.keepIn K (.ref f_co)=true)
  (aD_bb:W.findIn K (.ref c_Thread) "__init__" = some (some (.ref f_bb)))
  (lk_bb:K.lookup f_bb=some ⟨oc_bb,od_bb,.func (W.fnOf "__init__" "Thread.__init__" (defArgs s_bb) (defBody s_bb) (defScope s_bb) .none kV_bb dc_bb pm_bb an_bb cd_bb ct_bb),sl_bb⟩)
  (cd__bb:W.codeIn K cd_bb "Thread.__init__" = true)
  (kp__bb:W.keepIn K (.ref f_bb)=true)
  (aD_bc:W.findIn K (.ref c_Thread) "here" = some (some (.ref f_bc)))
  (lk_bc:K.lookup f_bc=some ⟨oc_bc,od_bc,.func (W.fnOf "here" "Thread.here" (defArgs s_bc) (defBody s_bc) (defScope s_bc) .none kV_bc dc_bc pm_bc an_bc cd_bc ct_bc),sl_bc⟩)
  (cd__bc:W.codeIn K cd_bc "Thread.here" = true)
  (kp__bc:W.keepIn K (.ref f_bc)=true)
  (aD_bx:W.findIn K (.ref c_Thread) "do" = some (some (.ref f_bx)))
  (lk_bx:K.lookup f_bx=some ⟨oc_bx,od_bx,.func (W.fnOf "do" "Thread.do" (defArgs s_bx) (defBody s_bx) (defScope s_bx) .none kV_bx dc_bx pm_bx an_bx cd_bx ct_bx),sl_bx⟩)
  (cd__bx:W.codeIn K cd_bx "Thread.do" = true)
  (kp__bx:W.keepIn K (.ref f_bx)=true)
  (aD_ar:W.findIn K (.ref c_Thread) "write" = some (some (.ref f_ar)))
  (lk_ar:K.lookup f_ar=some ⟨oc_ar,od_ar,.func (W.fnOf "write" "Thread.write" (defArgs s_ar) (defBody s_ar) (defScope s_ar) .none kV_ar dc_ar pm_ar an_ar cd_ar ct_ar),sl_ar⟩)
  (cd__ar:W.codeIn K cd_ar "Thread.write" = true)
  (kp__ar:W.keepIn K (.ref f_ar)=true)
  (aD_al:W.findIn K (.ref c_Thread) "is_here" = some (some (.ref f_al)))
  (lk_al:K.lookup f_al=some ⟨oc_al,od_al,.func (W.fnOf "is_here" "Thread.is_here" (defArgs s_al) (defBody s_al) (defScope s_al) .none kV_al dc_al pm_al an_al cd_al ct_al),sl_al⟩)
  (cd__al:W.codeIn K cd_al "Thread.is_here" = true)
  (kp__al:W.keepIn K (.ref f_al)=true)
  (aD_ah:W.findIn K (.ref c_Thread) "is_point" = some (some (.ref f_ah)))
  (lk_ah:K.lookup f_ah=some ⟨oc_ah,od_ah,.func (W.fnOf "is_point" "Thread.is_point" (defArgs s_ah) (defBody s_ah) (defScope s_ah) .none kV_ah dc_ah pm_ah an_ah cd_ah ct_ah),sl_ah⟩)
  (cd__ah:W.codeIn K cd_ah "Thread.is_point" = true)
  (kp__ah:W.keepIn K (.ref f_ah)=true)
  (aD_ai:W.findIn K (.ref c_Thread) "state_at" = some (some (.ref f_ai)))
  (lk_ai:K.lookup f_ai=some ⟨oc_ai,od_ai,.func (W.fnOf "state_at" "Thread.state_at" (defArgs s_ai) (defBody s_ai) (defScope s_ai) .none kV_ai dc_ai pm_ai an_ai cd_ai ct_ai),sl_ai⟩)
  (cd__ai:W.codeIn K cd_ai "Thread.state_at" = true)
  (kp__ai:W.keepIn K (.ref f_ai)=true)
  (aD_cp:W.nsIn K mainGlobals "is_name" = some (some (.ref f_cp)))
  (lk_cp:K.lookup f_cp=some ⟨oc_cp,od_cp,.func (W.fnOf "is_name" "is_name" (defArgs s_cp) (defBody s_cp) (defScope s_cp) .none kV_cp dc_cp pm_cp an_cp cd_cp ct_cp),sl_cp⟩)
  (cd__cp:W.codeIn K cd_cp "is_name" = true)
  (kp__cp:W.keepIn K (.ref f_cp)=true)
  (aD_cb:W.findIn K (.ref c_Loom) "__init__" = some (some (.ref f_cb)))
  (lk_cb:K.lookup f_cb=some ⟨oc_cb,od_cb,.func (W.fnOf "__init__" "Loom.__init__" (defArgs s_cb) (defBody s_cb) (defScope s_cb) .none kV_cb dc_cb pm_cb an_cb cd_cb ct_cb),sl_cb⟩)
  (cd__cb:W.codeIn K cd_cb "Loom.__init__" = true)
  (kp__cb:W.keepIn K (.ref f_cb)=true)
  (aD_ck:W.findIn K (.ref c_Loom) "own" = some (some (.ref f_ck)))
  (lk_ck:K.lookup f_ck=some ⟨oc_ck,od_ck,.func (W.fnOf "own" "Loom.own" (defArgs s_ck) (defBody s_ck) (defScope s_ck) .none kV_ck dc_ck pm_ck an_ck cd_ck ct_ck),sl_ck⟩)
  (cd__ck:W.codeIn K cd_ck "Loom.own" = true)
  (kp__ck:W.keepIn K (.ref f_ck)=true)
  (aD_cl:W.findIn K (.ref c_Loom) "use" = some (some (.ref f_cl)))
  (lk_cl:K.lookup f_cl=some ⟨oc_cl,od_cl,.func (W.fnOf "use" "Loom.use" (defArgs s_cl) (defBody s_cl) (defScope s_cl) .none kV_cl dc_cl pm_cl an_cl cd_cl ct_cl),sl_cl⟩)
  (cd__cl:W.codeIn K cd_cl "Loom.use" = true)
  (kp__cl:W.keepIn K (.ref f_cl)=true)
  (aD_bp:W.findIn K (.ref c_Loom) "write" = some (some (.ref f_bp)))
  (lk_bp:K.lookup f_bp=some ⟨oc_bp,od_bp,.func (W.fnOf "write" "Loom.write" (defArgs s_bp) (defBody s_bp) (defScope s_bp) .none kV_bp dc_bp pm_bp an_bp cd_bp ct_bp),sl_bp⟩)
  (cd__bp:W.codeIn K cd_bp "Loom.write" = true)
  (kp__bp:W.keepIn K (.ref f_bp)=true)
  (aD_bd:W.findIn K (.ref c_Loom) "places" = some (some (.ref f_bd)))
  (lk_bd:K.lookup f_bd=some ⟨oc_bd,od_bd,.func (W.fnOf "places" "Loom.places" (defArgs s_bd) (defBody s_bd) (defScope s_bd) .none kV_bd dc_bd pm_bd an_bd cd_bd ct_bd),sl_bd⟩)
  (cd__bd:W.codeIn K cd_bd "Loom.places" = true)
  (kp__bd:W.keepIn K (.ref f_bd)=true)
  (aD_ca:W.findIn K (.ref c_Loom) "road" = some (some (.ref f_ca)))
  (lk_ca:K.lookup f_ca=some ⟨oc_ca,od_ca,.func (W.fnOf "road" "Loom.road" (defArgs s_ca) (defBody s_ca) (defScope s_ca) .none kV_ca dc_ca pm_ca an_ca cd_ca ct_ca),sl_ca⟩)
  (cd__ca:W.codeIn K cd_ca "Loom.road" = true)
  (kp__ca:W.keepIn K (.ref f_ca)=true)
  (aD_af:W.findIn K (.ref c_Loom) "letters_sent" = some (some (.ref f_af)))
  (lk_af:K.lookup f_af=some ⟨oc_af,od_af,.func (W.fnOf "letters_sent" "Loom.letters_sent" (defArgs s_af) (defBody s_af) (defScope s_af) .none kV_af dc_af pm_af an_af cd_af ct_af),sl_af⟩)
  (cd__af:W.codeIn K cd_af "Loom.letters_sent" = true)
  (kp__af:W.keepIn K (.ref f_af)=true)
  (aD_ag:W.findIn K (.ref c_Loom) "letters_used" = some (some (.ref f_ag)))
  (lk_ag:K.lookup f_ag=some ⟨oc_ag,od_ag,.func (W.fnOf "letters_used" "Loom.letters_used" (defArgs s_ag) (defBody s_ag) (defScope s_ag) .none kV_ag dc_ag pm_ag an_ag cd_ag ct_ag),sl_ag⟩)
  (cd__ag:W.codeIn K cd_ag "Loom.letters_used" = true)
  (kp__ag:W.keepIn K (.ref f_ag)=true)
  (aD_aj:W.findIn K (.ref c_Loom) "check_hand" = some (some (.ref f_aj)))
  (lk_aj:K.lookup f_aj=some ⟨oc_aj,od_aj,.func (W.fnOf "check_hand" "Loom.check_hand" (defArgs s_aj) (defBody s_aj) (defScope s_aj) .none kV_aj dc_aj pm_aj an_aj cd_aj ct_aj),sl_aj⟩)
  (cd__aj:W.codeIn K cd_aj "Loom.check_hand" = true)
  (kp__aj:W.keepIn K (.ref f_aj)=true)
  (aD_as:W.findIn K (.ref c_Loom) "may_use" = some (some (.ref f_as)))
  (lk_as:K.lookup f_as=some ⟨oc_as,od_as,.func (W.fnOf "may_use" "Loom.may_use" (defArgs s_as) (defBody s_as) (defScope s_as) .none kV_as dc_as pm_as an_as cd_as ct_as),sl_as⟩)
  (cd__as:W.codeIn K cd_as "Loom.may_use" = true)
  (kp__as:W.keepIn K (.ref f_as)=true)
  (aD_av:W.findIn K (.ref c_Loom) "do_deed" = some (some (.ref f_av)))
  (lk_av:K.lookup f_av=some ⟨oc_av,od_av,.func (W.fnOf "do_deed" "Loom.do_deed" (defArgs s_av) (defBody s_av) (defScope s_av) .none kV_av dc_av pm_av an_av cd_av ct_av),sl_av⟩)
  (cd__av:W.codeIn K cd_av "Loom.do_deed" = true)
  (kp__av:W.keepIn K (.ref f_av)=true)
  (aD_ao:W.findIn K (.ref c_Loom) "note_row" = some (some (.ref f_ao)))
  (lk_ao:K.lookup f_ao=some ⟨oc_ao,od_ao,.func (W.fnOf "note_row" "Loom.note_row" (defArgs s_ao) (defBody s_ao) (defScope s_ao) .none kV_ao dc_ao pm_ao an_ao cd_ao ct_ao),sl_ao⟩)
  (cd__ao:W.codeIn K cd_ao "Loom.note_row" = true)
  (kp__ao:W.keepIn K (.ref f_ao)=true)
  (aD_bz:W.findIn K (.ref c_Loom) "post" = some (some (.ref f_bz)))
  (lk_bz:K.lookup f_bz=some ⟨oc_bz,od_bz,.func (W.fnOf "post" "Loom.post" (defArgs s_bz) (defBody s_bz) (defScope s_bz) .none kV_bz dc_bz pm_bz an_bz cd_bz ct_bz),sl_bz⟩)
  (cd__bz:W.codeIn K cd_bz "Loom.post" = true)
  (kp__bz:W.keepIn K (.ref f_bz)=true)
  (aD_au:W.nsIn K mainGlobals "_law_cell_at" = some (some (.ref f_au)))
  (lk_au:K.lookup f_au=some ⟨oc_au,od_au,.func (W.fnOf "_law_cell_at" "_law_cell_at" (defArgs s_au) (defBody s_au) (defScope s_au) .none kV_au dc_au pm_au an_au cd_au ct_au),sl_au⟩)
  (cd__au:W.codeIn K cd_au "_law_cell_at" = true)
  (kp__au:W.keepIn K (.ref f_au)=true)
  (aD_bo:W.nsIn K mainGlobals "_law_digit" = some (some (.ref f_bo)))
  (lk_bo:K.lookup f_bo=some ⟨oc_bo,od_bo,.func (W.fnOf "_law_digit" "_law_digit" (defArgs s_bo) (defBody s_bo) (defScope s_bo) .none kV_bo dc_bo pm_bo an_bo cd_bo ct_bo),sl_bo⟩)
  (cd__bo:W.codeIn K cd_bo "_law_digit" = true)
  (kp__bo:W.keepIn K (.ref f_bo)=true)
  (aD_cj:W.nsIn K mainGlobals "_law_led" = some (some (.ref f_cj)))
  (lk_cj:K.lookup f_cj=some ⟨oc_cj,od_cj,.func (W.fnOf "_law_led" "_law_led" (defArgs s_cj) (defBody s_cj) (defScope s_cj) .none kV_cj dc_cj pm_cj an_cj cd_cj ct_cj),sl_cj⟩)
  (cd__cj:W.codeIn K cd_cj "_law_led" = true)
  (kp__cj:W.keepIn K (.ref f_cj)=true)
  (aD_be:W.nsIn K mainGlobals "_law_habits" = some (some (.ref f_be)))
  (lk_be:K.lookup f_be=some ⟨oc_be,od_be,.func (W.fnOf "_law_habits" "_law_habits" (defArgs s_be) (defBody s_be) (defScope s_be) .none kV_be dc_be pm_be an_be cd_be ct_be),sl_be⟩)
  (cd__be:W.codeIn K cd_be "_law_habits" = true)
  (kp__be:W.keepIn K (.ref f_be)=true)
  (aD_bq:W.nsIn K mainGlobals "_law_deeds" = some (some (.ref f_bq)))
  (lk_bq:K.lookup f_bq=some ⟨oc_bq,od_bq,.func (W.fnOf "_law_deeds" "_law_deeds" (defArgs s_bq) (defBody s_bq) (defScope s_bq) .none kV_bq dc_bq pm_bq an_bq cd_bq ct_bq),sl_bq⟩)
  (cd__bq:W.codeIn K cd_bq "_law_deeds" = true)
  (kp__bq:W.keepIn K (.ref f_bq)=true)
  (aD_br:W.nsIn K mainGlobals "_law_woven" = some (some (.ref f_br)))
  (lk_br:K.lookup f_br=some ⟨oc_br,od_br,.func (W.fnOf "_law_woven" "_law_woven" (defArgs s_br) (defBody s_br) (defScope s_br) .none kV_br dc_br pm_br an_br cd_br ct_br),sl_br⟩)
  (cd__br:W.codeIn K cd_br "_law_woven" = true)
  (kp__br:W.keepIn K (.ref f_br)=true)
  (aD_cd:W.nsIn K mainGlobals "_law_loom" = some (some (.ref f_cd)))
  (lk_cd:K.lookup f_cd=some ⟨oc_cd,od_cd,.func (W.fnOf "_law_loom" "_law_loom" (defArgs s_cd) (defBody s_cd) (defScope s_cd) .none kV_cd dc_cd pm_cd an_cd (.ref cdA_cd) ct_cd),sl_cd⟩)
  (cK_cd:K.lookup cdA_cd=some ⟨oq_cd,oe_cd,.fields vq_cd,sq_cd⟩)
  (tR_cd:vq_cd[11]? = some (.ref tbA_cd))
  (tI_cd:W.codeHdIn K cdA_cd tbA_cd=true)
  (tN_cd:K.lookup tbA_cd=none)
  (tM_cd:tbA_cd∈ts)
  (cd__cd:W.codeIn K (.ref cdA_cd) "_law_loom" = true)
  (kp__cd:W.keepIn K (.ref f_cd)=true)
  (aD_ce:W.nsIn K mainGlobals "_law_line" = some (some (.ref f_ce)))
  (lk_ce:K.lookup f_ce=some ⟨oc_ce,od_ce,.func (W.fnOf "_law_line" "_law_line" (defArgs s_ce) (defBody s_ce) (defScope s_ce) .none kV_ce dc_ce pm_ce an_ce cd_ce ct_ce),sl_ce⟩)
  (cd__ce:W.codeIn K cd_ce "_law_line" = true)
  (kp__ce:W.keepIn K (.ref f_ce)=true)
  (aD_bf:W.nsIn K mainGlobals "_law_broken" = some (some (.ref f_bf)))
  (lk_bf:K.lookup f_bf=some ⟨oc_bf,od_bf,.func (W.fnOf "_law_broken" "_law_broken" (defArgs s_bf) (defBody s_bf) (defScope s_bf) .none kV_bf dc_bf pm_bf an_bf cd_bf ct_bf),sl_bf⟩)
  (cd__bf:W.codeIn K cd_bf "_law_broken" = true)
  (kp__bf:W.keepIn K (.ref f_bf)=true)
  (aD_aq:W.nsIn K mainGlobals "_law_crossing" = some (some (.ref f_aq)))
  (lk_aq:K.lookup f_aq=some ⟨oc_aq,od_aq,.func (W.fnOf "_law_crossing" "_law_crossing" (defArgs s_aq) (defBody s_aq) (defScope s_aq) .none kV_aq dc_aq pm_aq an_aq cd_aq ct_aq),sl_aq⟩)
  (cd__aq:W.codeIn K cd_aq "_law_crossing" = true)
  (kp__aq:W.keepIn K (.ref f_aq)=true)
  (aD_bs:W.nsIn K mainGlobals "_law_right" = some (some (.ref f_bs)))
  (lk_bs:K.lookup f_bs=some ⟨oc_bs,od_bs,.func (W.fnOf "_law_right" "_law_right" (defArgs s_bs) (defBody s_bs) (defScope s_bs) .none kV_bs dc_bs pm_bs an_bs cd_bs ct_bs),sl_bs⟩)
  (cd__bs:W.codeIn K cd_bs "_law_right" = true)
  (kp__bs:W.keepIn K (.ref f_bs)=true)
  (aD_law:W.nsIn K mainGlobals "law" = some (some (.ref f_law)))
  (lk_law:K.lookup f_law=some ⟨oc_law,od_law,.func (W.fnOf "law" "law" (defArgs s_law) (defBody s_law) (defScope s_law) .none kV_law dc_law pm_law an_law cd_law ct_law),sl_law⟩)
  (cd__law:W.codeIn K cd_law "law" = true)
  (kp__law:W.keepIn K (.ref f_law)=true)
  (tA_:∀ P∈ts,P∈[tbA_cd])
  (z_no_isinstance:W.nsIn K mainGlobals "isinstance" = some none)
  (z_no_bool:W.nsIn K mainGlobals "bool" = some none)
  (z_no_int:W.nsIn K mainGlobals "int" = some none)
  (q_na_bt:W.findIn K (.ref c_Event) "used" = some none)
  (pg_cl_Event:W.plainGet K c_Event Str.empty=true)
  (hd_cl_Event:W.hasDictIn K c_Event=true)
  (po_cl_Event:W.plainOver K c_Event=true)
  (sa_cl_Event:W.findIn K (.ref c_Event) "__setattr__" = some (some (.builtin "object.__setattr__")))
  (q_na_bh:W.findIn K (.ref c_Event) "state" = some none)
  (q_na_bu:W.findIn K (.ref c_Event) "sent" = some none)
  (z_no_tuple:W.nsIn K mainGlobals "tuple" = some none)
  (q_na_bv:W.findIn K (.ref c_Event) "said" = some none)
  (z_no_list:W.nsIn K mainGlobals "list" = some none)
  (m1_mk_Event:W.makesIn K c_Event=true)
  (m2_mk_Event:W.findIn K (.ref c_Event) "__init__" = some (some (.ref f_bn)))
  (m3_mk_Event:W.isFn K (.ref f_bn)=true)
  (m4_mk_Event:W.keepIn K (.ref c_Event)=true)
  (z_mv_SMALLEST_SIZE:W.nsIn K mainGlobals "SMALLEST_SIZE" = some (some (.int 1 tk_mv_SMALLEST_SIZE)))
  (z_mv_GREATEST_SIZE:W.nsIn K mainGlobals "GREATEST_SIZE" = some (some (.int 20 tk_mv_GREATEST_SIZE)))
  (q_ex_NoSize:W.excIn K c_NoSize [.type "ValueError",.type "Exception",.type "BaseException",.type "object"] "ValueError.__new__" = true)
  (q_na_bg:W.findIn K (.ref c_Bundle) "size" = some none)
  (pg_cl_Bundle:W.plainGet K c_Bundle Str.empty=true)
  (hd_cl_Bundle:W.hasDictIn K c_Bundle=true)
  (po_cl_Bundle:W.plainOver K c_Bundle=true)
  (sa_cl_Bundle:W.findIn K (.ref c_Bundle) "__setattr__" = some (some (.builtin "object.__setattr__")))
  (q_na_aw:W.findIn K (.ref c_Thread) "first" = some none)
  (pg_cl_Thread:W.plainGet K c_Thread Str.empty=true)
  (hd_cl_Thread:W.hasDictIn K c_Thread=true)
  (po_cl_Thread:W.plainOver K c_Thread=true)
  (sa_cl_Thread:W.findIn K (.ref c_Thread) "__setattr__" = some (some (.builtin "object.__setattr__")))
  (q_na_ax:W.findIn K (.ref c_Thread) "habit" = some none)
  (q_na_bi:W.findIn K (.ref c_Thread) "done" = some none)
  (q_na_ak:W.findIn K (.ref c_Thread) "writings" = some none)
  (q_na_bj:W.findIn K (.ref c_Thread) "down" = some none)
  (z_no_len:W.nsIn K mainGlobals "len" = some none)
  (e1_me_bc:W.findIn K (.ref c_Thread) "here" = some (some (.ref f_bc)))
  (e2_me_bc:W.isFn K (.ref f_bc)=true)
  (e3_me_bc:W.keepIn K (.ref f_bc)=true)
  (e1_me_al:W.findIn K (.ref c_Thread) "is_here" = some (some (.ref f_al)))
  (e2_me_al:W.isFn K (.ref f_al)=true)
  (e3_me_al:W.keepIn K (.ref f_al)=true)
  (e1_me_ah:W.findIn K (.ref c_Thread) "is_point" = some (some (.ref f_ah)))
  (e2_me_ah:W.isFn K (.ref f_ah)=true)
  (e3_me_ah:W.keepIn K (.ref f_ah)=true)
  (q_ex_NoPoint:W.excIn K c_NoPoint [.type "ValueError",.type "Exception",.type "BaseException",.type "object"] "ValueError.__new__" = true)
  (e1_me_ac:W.findIn K (.ref c_Bundle) "down_by_deed" = some (some (.ref f_ac)))
  (e2_me_ac:W.isFn K (.ref f_ac)=true)
  (e3_me_ac:W.keepIn K (.ref f_ac)=true)
  (pg_cl_Each:W.plainGet K c_Each Str.empty=true)
  (hd_cl_Each:W.hasDictIn K c_Each=true)
  (po_cl_Each:W.plainOver K c_Each=true)
  (sa_cl_Each:W.findIn K (.ref c_Each) "__setattr__" = some (some (.builtin "object.__setattr__")))
  (e1_me_ae:W.findIn K (.ref c_Each) "down_by_deed" = some (some (.ref f_ae)))
  (e2_me_ae:W.isFn K (.ref f_ae)=true)
  (e3_me_ae:W.keepIn K (.ref f_ae)=true)
  (pg_cl_Never:W.plainGet K c_Never Str.empty=true)
  (hd_cl_Never:W.hasDictIn K c_Never=true)
  (po_cl_Never:W.plainOver K c_Never=true)
  (sa_cl_Never:W.findIn K (.ref c_Never) "__setattr__" = some (some (.builtin "object.__setattr__")))
  (e1_me_Never_down_by_deed:W.findIn K (.ref c_Never) "down_by_deed" = some (some (.ref f_ad)))
  (e2_me_Never_down_by_deed:W.isFn K (.ref f_ad)=true)
  (e3_me_Never_down_by_deed:W.keepIn K (.ref f_ad)=true)
  (e1_me_aa:W.findIn K (.ref c_Bundle) "down_by_writing" = some (some (.ref f_aa)))
  (e2_me_aa:W.isFn K (.ref f_aa)=true)
  (e3_me_aa:W.keepIn K (.ref f_aa)=true)
  (e1_me_Each_down_by_writing:W.findIn K (.ref c_Each) "down_by_writing" = some (some (.ref f_ab)))
  (e2_me_Each_down_by_writing:W.isFn K (.ref f_ab)=true)
  (e3_me_Each_down_by_writing:W.keepIn K (.ref f_ab)=true)
  (e1_me_Never_down_by_writing:W.findIn K (.ref c_Never) "down_by_writing" = some (some (.ref f_ab)))
  (e2_me_Never_down_by_writing:W.isFn K (.ref f_ab)=true)
  (e3_me_Never_down_by_writing:W.keepIn K (.ref f_ab)=true)
  (z_no_all:W.nsIn K mainGlobals "all" = some none)
  (q_na_cg:W.findIn K (.ref c_Loom) "many" = some none)
  (pg_cl_Loom:W.plainGet K c_Loom Str.empty=true)
  (hd_cl_Loom:W.hasDictIn K c_Loom=true)
  (po_cl_Loom:W.plainOver K c_Loom=true)
  (sa_cl_Loom:W.findIn K (.ref c_Loom) "__setattr__" = some (some (.builtin "object.__setattr__")))
  (q_na_az:W.findIn K (.ref c_Loom) "threads" = some none)
  (q_na_cn:W.findIn K (.ref c_Loom) "log" = some none)
  (q_na_ch:W.findIn K (.ref c_Loom) "ways" = some none)
  (z_no_min:W.nsIn K mainGlobals "min" = some none)
  (q_na_ay:W.findIn K (.ref c_Loom) "ordered" = some none)
  (z_no_enumerate:W.nsIn K mainGlobals "enumerate" = some none)
  (q_na_bk:W.findIn K (.ref c_Loom) "posted" = some none)
  (q_na_bw:W.findIn K (.ref c_Loom) "taken" = some none)
  (z_no_range:W.nsIn K mainGlobals "range" = some none)
  (q_na_cf:W.findIn K (.ref c_Loom) "does" = some none)
  (e1_me_ai:W.findIn K (.ref c_Thread) "state_at" = some (some (.ref f_ai)))
  (e2_me_ai:W.isFn K (.ref f_ai)=true)
  (e3_me_ai:W.keepIn K (.ref f_ai)=true)
  (e1_me_bx:W.findIn K (.ref c_Thread) "do" = some (some (.ref f_bx)))
  (e2_me_bx:W.isFn K (.ref f_bx)=true)
  (e3_me_bx:W.keepIn K (.ref f_bx)=true)
  (e1_me_bz:W.findIn K (.ref c_Loom) "post" = some (some (.ref f_bz)))
  (e2_me_bz:W.isFn K (.ref f_bz)=true)
  (e3_me_bz:W.keepIn K (.ref f_bz)=true)
  (e1_me_aj:W.findIn K (.ref c_Loom) "check_hand" = some (some (.ref f_aj)))
  (e2_me_aj:W.isFn K (.ref f_aj)=true)
  (e3_me_aj:W.keepIn K (.ref f_aj)=true)
  (e1_me_av:W.findIn K (.ref c_Loom) "do_deed" = some (some (.ref f_av)))
  (e2_me_av:W.isFn K (.ref f_av)=true)
  (e3_me_av:W.keepIn K (.ref f_av)=true)
  (e1_me_ao:W.findIn K (.ref c_Loom) "note_row" = some (some (.ref f_ao)))
  (e2_me_ao:W.isFn K (.ref f_ao)=true)
  (e3_me_ao:W.keepIn K (.ref f_ao)=true)
  (e1_me_as:W.findIn K (.ref c_Loom) "may_use" = some (some (.ref f_as)))
  (e2_me_as:W.isFn K (.ref f_as)=true)
  (e3_me_as:W.keepIn K (.ref f_as)=true)
  (e1_me_ar:W.findIn K (.ref c_Thread) "write" = some (some (.ref f_ar)))
  (e2_me_ar:W.isFn K (.ref f_ar)=true)
  (e3_me_ar:W.keepIn K (.ref f_ar)=true)
  (z_no_sorted:W.nsIn K mainGlobals "sorted" = some none)
  (z_no_dict:W.nsIn K mainGlobals "dict" = some none)
  (z_no_zip:W.nsIn K mainGlobals "zip" = some none)
  (m1_mk_Thread:W.makesIn K c_Thread=true)
  (m2_mk_Thread:W.findIn K (.ref c_Thread) "__init__" = some (some (.ref f_bb)))
  (m3_mk_Thread:W.isFn K (.ref f_bb)=true)
  (m4_mk_Thread:W.keepIn K (.ref c_Thread)=true)
  (e1_me_af:W.findIn K (.ref c_Loom) "letters_sent" = some (some (.ref f_af)))
  (e2_me_af:W.isFn K (.ref f_af)=true)
  (e3_me_af:W.keepIn K (.ref f_af)=true)
  (e1_me_ag:W.findIn K (.ref c_Loom) "letters_used" = some (some (.ref f_ag)))
  (e2_me_ag:W.isFn K (.ref f_ag)=true)
  (e3_me_ag:W.keepIn K (.ref f_ag)=true)
  (z_no_max:W.nsIn K mainGlobals "max" = some none)
  (m1_mk_Bundle:W.makesIn K c_Bundle=true)
  (m2_mk_Bundle:W.findIn K (.ref c_Bundle) "__init__" = some (some (.ref f_ba)))
  (m3_mk_Bundle:W.isFn K (.ref f_ba)=true)
  (m4_mk_Bundle:W.keepIn K (.ref c_Bundle)=true)
  (m1_mk_Each:W.makesIn K c_Each=true)
  (m2_mk_Each:W.findIn K (.ref c_Each) "__init__" = some (some (.builtin "object.__init__")))
  (m4_mk_Each:W.keepIn K (.ref c_Each)=true)
  (m1_mk_Never:W.makesIn K c_Never=true)
  (m2_mk_Never:W.findIn K (.ref c_Never) "__init__" = some (some (.builtin "object.__init__")))
  (m4_mk_Never:W.keepIn K (.ref c_Never)=true)
  (e1_me_ca:W.findIn K (.ref c_Loom) "road" = some (some (.ref f_ca)))
  (e2_me_ca:W.isFn K (.ref f_ca)=true)
  (e3_me_ca:W.keepIn K (.ref f_ca)=true)
  (e1_me_cl:W.findIn K (.ref c_Loom) "use" = some (some (.ref f_cl)))
  (e2_me_cl:W.isFn K (.ref f_cl)=true)
  (e3_me_cl:W.keepIn K (.ref f_cl)=true)
  (e1_me_ck:W.findIn K (.ref c_Loom) "own" = some (some (.ref f_ck)))
  (e2_me_ck:W.isFn K (.ref f_ck)=true)
  (e3_me_ck:W.keepIn K (.ref f_ck)=true)
  (e1_me_bp:W.findIn K (.ref c_Loom) "write" = some (some (.ref f_bp)))
  (e2_me_bp:W.isFn K (.ref f_bp)=true)
  (e3_me_bp:W.keepIn K (.ref f_bp)=true)
  (m1_mk_Loom:W.makesIn K c_Loom=true)
  (m2_mk_Loom:W.findIn K (.ref c_Loom) "__init__" = some (some (.ref f_cb)))
  (m3_mk_Loom:W.isFn K (.ref f_cb)=true)
  (m4_mk_Loom:W.keepIn K (.ref c_Loom)=true)
  (e1_me_bd:W.findIn K (.ref c_Loom) "places" = some (some (.ref f_bd)))
  (e2_me_bd:W.isFn K (.ref f_bd)=true)
  (e3_me_bd:W.keepIn K (.ref f_bd)=true)
  (q_ki_b:W.kitOne K (.type "int") (.type "bool")=some false)
  (ga_xk_NoPoint:W.findIn K (.ref c_NoPoint) "__getattribute__" = some (some (.builtin "BaseException.__getattribute__")))
  (gb_xk_NoPoint:W.findIn K (.ref c_NoPoint) "__getattr__" = some none)
  (ha_xk_NoPoint:W.findIn K (.ref c_NoPoint) "__class__" = some (some (.builtin "object.__class__")))
  (hn_xk_NoPoint:W.specialIn K (.builtin "object.__class__") "__get__" = some (some (.builtin "getset_descriptor.__get__")))
  (ht_xk_NoPoint:W.takesIn K (.builtin "object.__class__")=some true)
  (hm_xk_NoPoint:W.mroIn K c_NoPoint (.type "object")=some true)
  (hb_xk_NoPoint:W.mroIn K c_NoPoint (.type "BaseException")=some true)
  (ha_ik_Event:W.findIn K (.ref c_Event) "__class__" = some (some (.builtin "object.__class__")))
  (hn_ik_Event:W.specialIn K (.builtin "object.__class__") "__get__" = some (some (.builtin "getset_descriptor.__get__")))
  (ht_ik_Event:W.takesIn K (.builtin "object.__class__")=some true)
  (hm_ik_Event:W.mroIn K c_Event (.type "object")=some true)
  : ∃ t:Adr,Txt K mg t∧t.f_law=fa∧t.ts=ts∧∀ (s:Shared) (v:Value),BindsTo s t.fd_law ⟨[v],[]⟩ [("_law_script",v)]:=by
 have e:=hfa.symm.trans (W.mg_of kin G aD_law)
 cases e
 have F_ci:=fun_mk (st:=s_ci) lk_ci cd__ci kp__ci
 have b_ci:=F_ci.binds (ps:=["value"]) fun _ _ _ _ _ _ us hl=>match us,hl with | [_],_=>rfl
 have F_bn:=fun_mk (st:=s_bn) lk_bn cd__bn kp__bn
 have b_bn:=F_bn.binds (ps:=["self","used","state","sent","said"]) fun _ _ _ _ _ _ us hl=>match us,hl with | [_,_,_,_,_],_=>rfl
 have F_co:=fun_mk (st:=s_co) lk_co cd__co kp__co
 have b_co:=F_co.binds (ps:=["event"]) fun _ _ _ _ _ _ us hl=>match us,hl with | [_],_=>rfl
 have F_ad:=fun_mk (st:=s_ad) lk_ad cd__ad kp__ad
 have b_ad:=F_ad.binds (ps:=["self","down","here"]) fun _ _ _ _ _ _ us hl=>match us,hl with | [_,_,_],_=>rfl
 have F_ab:=fun_mk (st:=s_ab) lk_ab cd__ab kp__ab
 have b_ab:=F_ab.binds (ps:=["self","down","here"]) fun _ _ _ _ _ _ us hl=>match us,hl with | [_,_,_],_=>rfl
 have F_ae:=fun_mk (st:=s_ae) lk_ae cd__ae kp__ae
 have b_ae:=F_ae.binds (ps:=["self","down","here"]) fun _ _ _ _ _ _ us hl=>match us,hl with | [_,_,_],_=>rfl
 have F_ba:=fun_mk (st:=s_ba) lk_ba cd__ba kp__ba
 have b_ba:=F_ba.binds (ps:=["self","size"]) fun _ _ _ _ _ _ us hl=>match us,hl with | [_,_],_=>rfl
 have F_ac:=fun_mk (st:=s_ac) lk_ac cd__ac kp__ac
 have b_ac:=F_ac.binds (ps:=["self","down","here"]) fun _ _ _ _ _ _ us hl=>match us,hl with | [_,_,_],_=>rfl
 have F_aa:=fun_mk (st:=s_aa) lk_aa cd__aa kp__aa
 have b_aa:=F_aa.binds (ps:=["self","down","here"]) fun _ _ _ _ _ _ us hl=>match us,hl with | [_,_,_],_=>rfl
 have F_bb:=fun_mk (st:=s_bb) lk_bb cd__bb kp__bb
 have b_bb:=F_bb.binds (ps:=["self","start","habit"]) fun _ _ _ _ _ _ us hl=>match us,hl with | [_,_,_],_=>rfl
 have F_bc:=fun_mk (st:=s_bc) lk_bc cd__bc kp__bc
 have b_bc:=F_bc.binds (ps:=["self"]) fun _ _ _ _ _ _ us hl=>match us,hl with | [_],_=>rfl
 have F_al:=fun_mk (st:=s_al) lk_al cd__al kp__al
 have b_al:=F_al.binds (ps:=["self","place"]) fun _ _ _ _ _ _ us hl=>match us,hl with | [_,_],_=>rfl
 have F_ah:=fun_mk (st:=s_ah) lk_ah cd__ah kp__ah
 have b_ah:=F_ah.binds (ps:=["self","place"]) fun _ _ _ _ _ _ us hl=>match us,hl with | [_,_],_=>rfl
 have F_ai:=fun_mk (st:=s_ai) lk_ai cd__ai kp__ai
 have b_ai:=F_ai.binds (ps:=["self","place"]) fun _ _ _ _ _ _ us hl=>match us,hl with | [_,_],_=>rfl
 have F_bx:=fun_mk (st:=s_bx) lk_bx cd__bx kp__bx
 have b_bx:=F_bx.binds (ps:=["self","event"]) fun _ _ _ _ _ _ us hl=>match us,hl with | [_,_],_=>rfl
 have F_ar:=fun_mk (st:=s_ar) lk_ar cd__ar kp__ar
 have b_ar:=F_ar.binds (ps:=["self"]) fun _ _ _ _ _ _ us hl=>match us,hl with | [_],_=>rfl
 have F_cp:=fun_mk (st:=s_cp) lk_cp cd__cp kp__cp
 have b_cp:=F_cp.binds (ps:=["value"]) fun _ _ _ _ _ _ us hl=>match us,hl with | [_],_=>rfl
 have F_aj:=fun_mk (st:=s_aj) lk_aj cd__aj kp__aj
 have b_aj:=F_aj.binds (ps:=["self","hand"]) fun _ _ _ _ _ _ us hl=>match us,hl with | [_,_],_=>rfl
 have F_ao:=fun_mk (st:=s_ao) lk_ao cd__ao kp__ao
 have b_ao:=F_ao.binds (ps:=["self","hand","row"]) fun _ _ _ _ _ _ us hl=>match us,hl with | [_,_,_],_=>rfl
 have F_as:=fun_mk (st:=s_as) lk_as cd__as kp__as
 have b_as:=F_as.binds (ps:=["self","hand","name"]) fun _ _ _ _ _ _ us hl=>match us,hl with | [_,_,_],_=>rfl
 have F_bz:=fun_mk (st:=s_bz) lk_bz cd__bz kp__bz
 have b_bz:=F_bz.binds (ps:=["self","sender","place","letters"]) fun _ _ _ _ _ _ us hl=>match us,hl with | [_,_,_,_],_=>rfl
 have F_au:=fun_mk (st:=s_au) lk_au cd__au kp__au
 have b_au:=F_au.binds (ps:=["_law_script","_law_k"]) fun _ _ _ _ _ _ us hl=>match us,hl with | [_,_],_=>rfl
 have F_bo:=fun_mk (st:=s_bo) lk_bo cd__bo kp__bo
 have b_bo:=F_bo.binds (ps:=["_law_cell","_law_k","_law_base"]) fun _ _ _ _ _ _ us hl=>match us,hl with | [_,_,_],_=>rfl
 have F_cj:=fun_mk (st:=s_cj) lk_cj cd__cj kp__cj
 have b_cj:=F_cj.binds (ps:=["_law_cell","_law_many","_law_hand","_law_state","_law_word"]) fun _ _ _ _ _ _ us hl=>match us,hl with | [_,_,_,_,_],_=>rfl
 have F_av:=fun_mk (st:=s_av) lk_av cd__av kp__av
 have b_av:=F_av.binds (ps:=["self","hand","name","word"]) fun _ _ _ _ _ _ us hl=>match us,hl with | [_,_,_,_],_=>rfl
 have F_ck:=fun_mk (st:=s_ck) lk_ck cd__ck kp__ck
 have b_ck:=F_ck.binds (ps:=["self","hand"]) fun _ _ _ _ _ _ us hl=>match us,hl with | [_,_],_=>rfl
 have F_cl:=fun_mk (st:=s_cl) lk_cl cd__cl kp__cl
 have b_cl:=F_cl.binds (ps:=["self","hand","name"]) fun _ _ _ _ _ _ us hl=>match us,hl with | [_,_,_],_=>rfl
 have F_bp:=fun_mk (st:=s_bp) lk_bp cd__bp kp__bp
 have b_bp:=F_bp.binds (ps:=["self","hand"]) fun _ _ _ _ _ _ us hl=>match us,hl with | [_,_],_=>rfl
 have F_bd:=fun_mk (st:=s_bd) lk_bd cd__bd kp__bd
 have b_bd:=F_bd.binds (ps:=["self"]) fun _ _ _ _ _ _ us hl=>match us,hl with | [_],_=>rfl
 have F_ca:=fun_mk (st:=s_ca) lk_ca cd__ca kp__ca
 have b_ca:=F_ca.binds (ps:=["self"]) fun _ _ _ _ _ _ us hl=>match us,hl with | [_],_=>rfl
 have F_af:=fun_mk (st:=s_af) lk_af cd__af kp__af
 have b_af:=F_af.binds (ps:=["self"]) fun _ _ _ _ _ _ us hl=>match us,hl with | [_],_=>rfl
 have F_ag:=fun_mk (st:=s_ag) lk_ag cd__ag kp__ag
 have b_ag:=F_ag.binds (ps:=["self"]) fun _ _ _ _ _ _ us hl=>match us,hl with | [_],_=>rfl
 have F_cb:=fun_mk (st:=s_cb) lk_cb cd__cb kp__cb
 have b_cb:=F_cb.binds (ps:=["self","does","starts","habits","ordered"]) fun _ _ _ _ _ _ us hl=>match us,hl with | [_,_,_,_,_],_=>rfl
 have F_am:=fun_mk (st:=s_am) lk_am cd__am kp__am
 have b_am:=F_am.binds (ps:=["line","name"]) fun _ _ _ _ _ _ us hl=>match us,hl with | [_,_],_=>rfl
 have F_an:=fun_mk (st:=s_an) lk_an cd__an kp__an
 have b_an:=F_an.binds (ps:=["line","user","place"]) fun _ _ _ _ _ _ us hl=>match us,hl with | [_,_,_],_=>rfl
 have F_cc:=fun_mk (st:=s_cc) lk_cc cd__cc kp__cc
 have b_cc:=F_cc.binds (ps:=["loom","line"]) fun _ _ _ _ _ _ us hl=>match us,hl with | [_,_],_=>rfl
 have F_cm:=fun_mk (st:=s_cm) lk_cm cd__cm kp__cm
 have b_cm:=F_cm.binds (ps:=["loom","line"]) fun _ _ _ _ _ _ us hl=>match us,hl with | [_,_],_=>rfl
 have F_cq:=fun_mk (st:=s_cq) lk_cq cd__cq kp__cq
 have b_cq:=F_cq.binds (ps:=["loom","line"]) fun _ _ _ _ _ _ us hl=>match us,hl with | [_,_],_=>rfl
 have F_cr:=fun_mk (st:=s_cr) lk_cr cd__cr kp__cr
 have b_cr:=F_cr.binds (ps:=["one","other"]) fun _ _ _ _ _ _ us hl=>match us,hl with | [_,_],_=>rfl
 have F_cs:=fun_mk (st:=s_cs) lk_cs cd__cs kp__cs
 have b_cs:=F_cs.binds (ps:=["one","other"]) fun _ _ _ _ _ _ us hl=>match us,hl with | [_,_],_=>rfl
 have F_be:=fun_mk (st:=s_be) lk_be cd__be kp__be
 have b_be:=F_be.binds (ps:=["_law_cell","_law_many"]) fun _ _ _ _ _ _ us hl=>match us,hl with | [_,_],_=>rfl
 have F_bq:=fun_mk (st:=s_bq) lk_bq cd__bq kp__bq
 have b_bq:=F_bq.binds (ps:=["_law_loom_here"]) fun _ _ _ _ _ _ us hl=>match us,hl with | [_],_=>rfl
 have F_br:=fun_mk (st:=s_br) lk_br cd__br kp__br
 have b_br:=F_br.binds (ps:=["_law_loom_here","_law_cell","_law_size"]) fun _ _ _ _ _ _ us hl=>match us,hl with | [_,_,_],_=>rfl
 have F_cd:=fun_mk (st:=s_cd) lk_cd cd__cd kp__cd
 have b_cd:=F_cd.binds (ps:=["_law_script"]) fun _ _ _ _ _ _ us hl=>match us,hl with | [_],_=>rfl
 have F_ce:=fun_mk (st:=s_ce) lk_ce cd__ce kp__ce
 have b_ce:=F_ce.binds (ps:=["_law_loom_here","_law_cell"]) fun _ _ _ _ _ _ us hl=>match us,hl with | [_,_],_=>rfl
 have F_bf:=fun_mk (st:=s_bf) lk_bf cd__bf kp__bf
 have b_bf:=F_bf.binds (ps:=["_law_loom_here","_law_line_here"]) fun _ _ _ _ _ _ us hl=>match us,hl with | [_,_],_=>rfl
 have F_aq:=fun_mk (st:=s_aq) lk_aq cd__aq kp__aq
 have b_aq:=F_aq.binds (ps:=["_law_loom_here","_law_line_here"]) fun _ _ _ _ _ _ us hl=>match us,hl with | [_,_],_=>rfl
 have F_bs:=fun_mk (st:=s_bs) lk_bs cd__bs kp__bs
 have b_bs:=F_bs.binds (ps:=["_law_loom_here","_law_line_here"]) fun _ _ _ _ _ _ us hl=>match us,hl with | [_,_],_=>rfl
 have F_law:=fun_mk (st:=s_law) lk_law cd__law kp__law
 have b_law:=F_law.binds (ps:=["_law_script"]) fun _ _ _ _ _ _ us hl=>match us,hl with | [_],_=>rfl
 exact⟨⟨c_Bundle,c_Each,c_Event,c_Loom,c_Never,c_NoPoint,c_NoSize,c_Thread,f_am,f_an,f_cc,f_cm,f_cq,f_cr,f_cs,f_ci,f_ad,f_ab,f_ae,f_ba,f_ac,f_aa,f_bn,f_co,f_bb,f_bc,f_bx,f_ar,f_al,f_ah,f_ai,f_cp,f_cb,f_ck,f_cl,f_bp,f_bd,f_ca,f_af,f_ag,f_aj,f_as,f_av,f_ao,f_bz,f_au,f_bo,f_cj,f_be,f_bq,f_br,f_cd,f_ce,f_bf,f_aq,f_bs,f_law,cdA_cd,tbA_cd,ts,W.fnOf "is_whole" "is_whole" (defArgs s_ci) (defBody s_ci) (defScope s_ci) .none kV_ci dc_ci pm_ci an_ci cd_ci ct_ci,W.fnOf "__init__" "Event.__init__" (defArgs s_bn) (defBody s_bn) (defScope s_bn) .none kV_bn dc_bn pm_bn an_bn cd_bn ct_bn,W.fnOf "copy_of" "copy_of" (defArgs s_co) (defBody s_co) (defScope s_co) .none kV_co dc_co pm_co an_co cd_co ct_co,W.fnOf "down_by_deed" "Habit.down_by_deed" (defArgs s_ad) (defBody s_ad) (defScope s_ad) .none kV_ad dc_ad pm_ad an_ad cd_ad ct_ad,W.fnOf "down_by_writing" "Habit.down_by_writing" (defArgs s_ab) (defBody s_ab) (defScope s_ab) .none kV_ab dc_ab pm_ab an_ab cd_ab ct_ab,W.fnOf "down_by_deed" "Each.down_by_deed" (defArgs s_ae) (defBody s_ae) (defScope s_ae) .none kV_ae dc_ae pm_ae an_ae cd_ae ct_ae,W.fnOf "__init__" "Bundle.__init__" (defArgs s_ba) (defBody s_ba) (defScope s_ba) .none kV_ba dc_ba pm_ba an_ba cd_ba ct_ba,W.fnOf "down_by_deed" "Bundle.down_by_deed" (defArgs s_ac) (defBody s_ac) (defScope s_ac) .none kV_ac dc_ac pm_ac an_ac cd_ac ct_ac,W.fnOf "down_by_writing" "Bundle.down_by_writing" (defArgs s_aa) (defBody s_aa) (defScope s_aa) .none kV_aa dc_aa pm_aa an_aa cd_aa ct_aa,W.fnOf "__init__" "Thread.__init__" (defArgs s_bb) (defBody s_bb) (defScope s_bb) .none kV_bb dc_bb pm_bb an_bb cd_bb ct_bb,W.fnOf "here" "Thread.here" (defArgs s_bc) (defBody s_bc) (defScope s_bc) .none kV_bc dc_bc pm_bc an_bc cd_bc ct_bc,W.fnOf "is_here" "Thread.is_here" (defArgs s_al) (defBody s_al) (defScope s_al) .none kV_al dc_al pm_al an_al cd_al ct_al,W.fnOf "is_point" "Thread.is_point" (defArgs s_ah) (defBody s_ah) (defScope s_ah) .none kV_ah dc_ah pm_ah an_ah cd_ah ct_ah,W.fnOf "state_at" "Thread.state_at" (defArgs s_ai) (defBody s_ai) (defScope s_ai) .none kV_ai dc_ai pm_ai an_ai cd_ai ct_ai,W.fnOf "do" "Thread.do" (defArgs s_bx) (defBody s_bx) (defScope s_bx) .none kV_bx dc_bx pm_bx an_bx cd_bx ct_bx,W.fnOf "write" "Thread.write" (defArgs s_ar) (defBody s_ar) (defScope s_ar) .none kV_ar dc_ar pm_ar an_ar cd_ar ct_ar,W.fnOf "is_name" "is_name" (defArgs s_cp) (defBody s_cp) (defScope s_cp) .none kV_cp dc_cp pm_cp an_cp cd_cp ct_cp,W.fnOf "check_hand" "Loom.check_hand" (defArgs s_aj) (defBody s_aj) (defScope s_aj) .none kV_aj dc_aj pm_aj an_aj cd_aj ct_aj,W.fnOf "note_row" "Loom.note_row" (defArgs s_ao) (defBody s_ao) (defScope s_ao) .none kV_ao dc_ao pm_ao an_ao cd_ao ct_ao,W.fnOf "may_use" "Loom.may_use" (defArgs s_as) (defBody s_as) (defScope s_as) .none kV_as dc_as pm_as an_as cd_as ct_as,W.fnOf "post" "Loom.post" (defArgs s_bz) (defBody s_bz) (defScope s_bz) .none kV_bz dc_bz pm_bz an_bz cd_bz ct_bz,W.fnOf "_law_cell_at" "_law_cell_at" (defArgs s_au) (defBody s_au) (defScope s_au) .none kV_au dc_au pm_au an_au cd_au ct_au,W.fnOf "_law_digit" "_law_digit" (defArgs s_bo) (defBody s_bo) (defScope s_bo) .none kV_bo dc_bo pm_bo an_bo cd_bo ct_bo,W.fnOf "_law_led" "_law_led" (defArgs s_cj) (defBody s_cj) (defScope s_cj) .none kV_cj dc_cj pm_cj an_cj cd_cj ct_cj,W.fnOf "do_deed" "Loom.do_deed" (defArgs s_av) (defBody s_av) (defScope s_av) .none kV_av dc_av pm_av an_av cd_av ct_av,W.fnOf "own" "Loom.own" (defArgs s_ck) (defBody s_ck) (defScope s_ck) .none kV_ck dc_ck pm_ck an_ck cd_ck ct_ck,W.fnOf "use" "Loom.use" (defArgs s_cl) (defBody s_cl) (defScope s_cl) .none kV_cl dc_cl pm_cl an_cl cd_cl ct_cl,W.fnOf "write" "Loom.write" (defArgs s_bp) (defBody s_bp) (defScope s_bp) .none kV_bp dc_bp pm_bp an_bp cd_bp ct_bp,W.fnOf "places" "Loom.places" (defArgs s_bd) (defBody s_bd) (defScope s_bd) .none kV_bd dc_bd pm_bd an_bd cd_bd ct_bd,W.fnOf "road" "Loom.road" (defArgs s_ca) (defBody s_ca) (defScope s_ca) .none kV_ca dc_ca pm_ca an_ca cd_ca ct_ca,W.fnOf "letters_sent" "Loom.letters_sent" (defArgs s_af) (defBody s_af) (defScope s_af) .none kV_af dc_af pm_af an_af cd_af ct_af,W.fnOf "letters_used" "Loom.letters_used" (defArgs s_ag) (defBody s_ag) (defScope s_ag) .none kV_ag dc_ag pm_ag an_ag cd_ag ct_ag,W.fnOf "__init__" "Loom.__init__" (defArgs s_cb) (defBody s_cb) (defScope s_cb) .none kV_cb dc_cb pm_cb an_cb cd_cb ct_cb,W.fnOf "is_sent_within" "is_sent_within" (defArgs s_am) (defBody s_am) (defScope s_am) .none kV_am dc_am pm_am an_am cd_am ct_am,W.fnOf "is_used_within" "is_used_within" (defArgs s_an) (defBody s_an) (defScope s_an) .none kV_an dc_an pm_an an_an cd_an ct_an,W.fnOf "broken_by" "broken_by" (defArgs s_cc) (defBody s_cc) (defScope s_cc) .none kV_cc dc_cc pm_cc an_cc cd_cc ct_cc,W.fnOf "is_sound" "is_sound" (defArgs s_cm) (defBody s_cm) (defScope s_cm) .none kV_cm dc_cm pm_cm an_cm cd_cm ct_cm,W.fnOf "on_road" "on_road" (defArgs s_cq) (defBody s_cq) (defScope s_cq) .none kV_cq dc_cq pm_cq an_cq cd_cq ct_cq,W.fnOf "joined" "joined" (defArgs s_cr) (defBody s_cr) (defScope s_cr) .none kV_cr dc_cr pm_cr an_cr cd_cr ct_cr,W.fnOf "met_of" "met_of" (defArgs s_cs) (defBody s_cs) (defScope s_cs) .none kV_cs dc_cs pm_cs an_cs cd_cs ct_cs,W.fnOf "_law_habits" "_law_habits" (defArgs s_be) (defBody s_be) (defScope s_be) .none kV_be dc_be pm_be an_be cd_be ct_be,W.fnOf "_law_deeds" "_law_deeds" (defArgs s_bq) (defBody s_bq) (defScope s_bq) .none kV_bq dc_bq pm_bq an_bq cd_bq ct_bq,W.fnOf "_law_woven" "_law_woven" (defArgs s_br) (defBody s_br) (defScope s_br) .none kV_br dc_br pm_br an_br cd_br ct_br,W.fnOf "_law_loom" "_law_loom" (defArgs s_cd) (defBody s_cd) (defScope s_cd) .none kV_cd dc_cd pm_cd an_cd (.ref cdA_cd) ct_cd,W.fnOf "_law_line" "_law_line" (defArgs s_ce) (defBody s_ce) (defScope s_ce) .none kV_ce dc_ce pm_ce an_ce cd_ce ct_ce,W.fnOf "_law_broken" "_law_broken" (defArgs s_bf) (defBody s_bf) (defScope s_bf) .none kV_bf dc_bf pm_bf an_bf cd_bf ct_bf,W.fnOf "_law_crossing" "_law_crossing" (defArgs s_aq) (defBody s_aq) (defScope s_aq) .none kV_aq dc_aq pm_aq an_aq cd_aq ct_aq,W.fnOf "_law_right" "_law_right" (defArgs s_bs) (defBody s_bs) (defScope s_bs) .none kV_bs dc_bs pm_bs an_bs cd_bs ct_bs,W.fnOf "law" "law" (defArgs s_law) (defBody s_law) (defScope s_law) .none kV_law dc_law pm_law an_law cd_law ct_law⟩,⟨W.mg_none_of kin G z_no_isinstance,W.mg_none_of kin G z_no_bool,W.mg_none_of kin G z_no_int,q_na_bt,⟨pg_cl_Event,hd_cl_Event,po_cl_Event,sa_cl_Event⟩,q_na_bh,q_na_bu,W.mg_none_of kin G z_no_tuple,q_na_bv,W.mg_none_of kin G z_no_list,⟨m1_mk_Event,m2_mk_Event,m3_mk_Event,m4_mk_Event⟩,W.mg_of kin G aC_Event,b_bn,W.mg_of kin G aD_ci,kp__ci,b_ci,⟨_,W.mg_of kin G z_mv_SMALLEST_SIZE⟩,⟨_,W.mg_of kin G z_mv_GREATEST_SIZE⟩,W.mg_of kin G aC_NoSize,q_ex_NoSize,q_na_bg,⟨pg_cl_Bundle,hd_cl_Bundle,po_cl_Bundle,sa_cl_Bundle⟩,q_na_aw,⟨pg_cl_Thread,hd_cl_Thread,po_cl_Thread,sa_cl_Thread⟩,q_na_ax,q_na_bi,q_na_ak,q_na_bj,W.mg_none_of kin G z_no_len,⟨e1_me_bc,e2_me_bc,e3_me_bc⟩,b_bc,⟨e1_me_al,e2_me_al,e3_me_al⟩,b_al,⟨e1_me_ah,e2_me_ah,e3_me_ah⟩,b_ah,W.mg_of kin G aC_NoPoint,q_ex_NoPoint,W.mg_of kin G aD_co,kp__co,b_co,⟨e1_me_ac,e2_me_ac,e3_me_ac⟩,b_ac,⟨pg_cl_Each,hd_cl_Each,po_cl_Each,sa_cl_Each⟩,⟨e1_me_ae,e2_me_ae,e3_me_ae⟩,b_ae,⟨pg_cl_Never,hd_cl_Never,po_cl_Never,sa_cl_Never⟩,⟨e1_me_Never_down_by_deed,e2_me_Never_down_by_deed,e3_me_Never_down_by_deed⟩,b_ad,⟨e1_me_aa,e2_me_aa,e3_me_aa⟩,b_aa,⟨e1_me_Each_down_by_writing,e2_me_Each_down_by_writing,e3_me_Each_down_by_writing⟩,b_ab,⟨e1_me_Never_down_by_writing,e2_me_Never_down_by_writing,e3_me_Never_down_by_writing⟩,W.mg_none_of kin G z_no_all,q_na_cg,⟨pg_cl_Loom,hd_cl_Loom,po_cl_Loom,sa_cl_Loom⟩,q_na_az,q_na_cn,W.mg_of kin G aD_cp,kp__cp,b_cp,q_na_ch,W.mg_none_of kin G z_no_min,q_na_ay,W.mg_none_of kin G z_no_enumerate,q_na_bk,q_na_bw,W.mg_none_of kin G z_no_range,W.mg_of kin G aD_bo,kp__bo,b_bo,W.mg_of kin G aD_cj,kp__cj,b_cj,q_na_cf,⟨e1_me_ai,e2_me_ai,e3_me_ai⟩,b_ai,⟨e1_me_bx,e2_me_bx,e3_me_bx⟩,b_bx,⟨e1_me_bz,e2_me_bz,e3_me_bz⟩,b_bz,⟨e1_me_aj,e2_me_aj,e3_me_aj⟩,b_aj,⟨e1_me_av,e2_me_av,e3_me_av⟩,b_av,⟨e1_me_ao,e2_me_ao,e3_me_ao⟩,b_ao,⟨e1_me_as,e2_me_as,e3_me_as⟩,b_as,⟨e1_me_ar,e2_me_ar,e3_me_ar⟩,b_ar,W.mg_none_of kin G z_no_sorted,W.mg_none_of kin G z_no_dict,W.mg_none_of kin G z_no_zip,⟨m1_mk_Thread,m2_mk_Thread,m3_mk_Thread,m4_mk_Thread⟩,W.mg_of kin G aC_Thread,b_bb,⟨e1_me_af,e2_me_af,e3_me_af⟩,b_af,⟨e1_me_ag,e2_me_ag,e3_me_ag⟩,b_ag,W.mg_of kin G aD_an,kp__an,b_an,W.mg_of kin G aD_am,kp__am,b_am,W.mg_of kin G aD_cc,kp__cc,b_cc,W.mg_none_of kin G z_no_max,⟨m1_mk_Bundle,m2_mk_Bundle,m3_mk_Bundle,m4_mk_Bundle⟩,W.mg_of kin G aC_Bundle,b_ba,⟨m1_mk_Each,m2_mk_Each,m4_mk_Each⟩,W.mg_of kin G aC_Each,⟨m1_mk_Never,m2_mk_Never,m4_mk_Never⟩,W.mg_of kin G aC_Never,⟨e1_me_ca,e2_me_ca,e3_me_ca⟩,b_ca,W.mg_of kin G aD_bq,kp__bq,b_bq,⟨e1_me_cl,e2_me_cl,e3_me_cl⟩,b_cl,⟨e1_me_ck,e2_me_ck,e3_me_ck⟩,b_ck,⟨e1_me_bp,e2_me_bp,e3_me_bp⟩,b_bp,W.mg_of kin G aD_au,kp__au,b_au,W.mg_of kin G aD_be,kp__be,b_be,⟨m1_mk_Loom,m2_mk_Loom,m3_mk_Loom,m4_mk_Loom⟩,W.mg_of kin G aC_Loom,b_cb,W.mg_of kin G aD_br,kp__br,b_br,⟨e1_me_bd,e2_me_bd,e3_me_bd⟩,b_bd,W.mg_of kin G aD_bf,kp__bf,b_bf,W.mg_of kin G aD_cm,kp__cm,b_cm,W.mg_of kin G aD_cq,kp__cq,b_cq,W.mg_of kin G aD_aq,kp__aq,b_aq,W.mg_of kin G aD_cd,kp__cd,b_cd,W.mg_of kin G aD_ce,kp__ce,b_ce,W.mg_of kin G aD_cr,kp__cr,b_cr,W.mg_of kin G aD_cs,kp__cs,b_cs,W.mg_of kin G aD_bs,kp__bs,b_bs,F_ci,F_bn,F_co,F_ad,F_ab,F_ae,F_ba,F_ac,F_aa,F_bb,F_bc,F_al,F_ah,F_ai,F_bx,F_ar,F_cp,F_aj,F_ao,F_as,F_bz,F_au,F_bo,F_cj,F_av,F_ck,F_cl,F_bp,F_bd,F_ca,F_af,F_ag,F_cb,F_am,F_an,F_cc,F_cm,F_cq,F_cr,F_cs,F_be,F_bq,F_br,F_cd,F_ce,F_bf,F_aq,F_bs,F_law,b_law,tI_cd,tN_cd,tM_cd,rfl,tA_,q_ki_b,⟨ga_xk_NoPoint,gb_xk_NoPoint,ha_xk_NoPoint,hn_xk_NoPoint,ht_xk_NoPoint,hm_xk_NoPoint,hb_xk_NoPoint⟩,⟨ha_ik_Event,hn_ik_Event,ht_ik_Event,hm_ik_Event⟩⟩,rfl,rfl,fun s v=>.of_eq rfl⟩
theorem walk {l:W.OpenLaw}{q:Program}{loose:List Str}{XP:(Str→Option Value)→Heap→Prop}{YP:World→Heap→Prop}{d:DefRec}{K:Params→W.Frag}(ts:List Addr) (hn:l.most=some 63) (hdf:d.params.defaults=[])
  (hY:∀ (w:World) (h:Heap),YP w h→(K w.params).In h) (hT:∀ (w:World) (h:Heap),YP w h→∀ P∈ts,h.get? P=some (W.tabObj #[]))
  (F:∀ (w:World) (mg:Str→Option Value) (fa:Addr) (h:Heap),(K w.params).In h→h.Ns mainGlobals mg→mg d.name=some (.ref fa) →
   ∃ t:Adr,Txt (K w.params) mg t∧t.f_law=fa∧t.ts=ts∧∀ (s:Shared) (v:Value),BindsTo s t.fd_law ⟨[v],[]⟩ [("_law_script",v)]) :
  W.WalkO q loose XP YP l.row.toRowW d [] (fun f vs=>PySem.call f vs):=
 L2.walk_ofT (n:=63) (k:=9) (x:="_law_script") (CX:=fun w=>CXr l.prog w) (sp:=fun w=>spLaw (K w.params) ts) ts hn (by decide) hdf ⟨rfl,by decide,by decide⟩ hY hT
  (fun w mg fa h kin G hmg=>by
   obtain⟨t,T,e,e2,b⟩:=F w mg fa h kin G hmg
   subst e;subst e2
   exact⟨t.fd_law,[(t.cd_cd,t.tb_cd)],List.forall_mem_cons.mpr ⟨⟨T.tab_cd,T.tn_cd,T.tin_cd⟩,List.forall_mem_nil _⟩,T.tall,b,fun base _ _ tb=>ok_law T ⟨tb _ List.mem_cons_self⟩⟩)
  (fun _ H a ns hl hH hS=>⟨a,ns,rfl,hS,hl,hH,fun _=>rfl⟩) fun _ _ _ _ _ z=>by
   obtain⟨_,_,_,_,_,_,z⟩:=z
   exact z
end B
open PySem PySem.W PyProof.Rows
namespace PySem.W.Fast
def tw4345271304541133023:=0
def tw14977015003438823710:=0
def tw2485695142921643794:=0
def tw2753172018118923147:=0
def tw17646647781737428456:=0
def tw11808012012074308195:=0
def tw8583482885797645591:=0
def tw5247807142953126849:=0
def tw11618997434918504063:=0
def tw3006742102347017280:=0
def tw1133923795912382786:=0
def tw16499515139095718405:=0
def tw18048914516007760274:=0
def tw4869252565344202769:=0
def tw14933560986757751358:=0
def tw13073222600647710360:=0
def tw7590367169465491458:=0
def tw6710934604930068046:=0
def tw3006974436045831040:=0
def tw6608640805548096563:=0
def tw1066459712941451635:=0
def tw6779853138561356639:=0
def tw10903849142758126418:=0
def tw830641315343722482:=0
def tw10103153544722626168:=0
def tw13804933916865228147:=0
def tw18134928852448430877:=0
def tw11472969540596134098:=0
def tw1985381117698842995:=0
def tw2284469236689682601:=0
def tw12459544864727059379:=0
def tw487325617262123911:=0
def tw5125320199582486766:=0
def tw67076696351259394:=0
def tw10914757969287515460:=0
def tw14713783087215254337:=0
def tw14122494099930281335:=0
def tw3723017638080303085:=0
def tw7807415065538676733:=0
def tw1830626352235765471:=0
def tw14429122177906367757:=0
def tw2209900063801581191:=0
def tw16148385907789079409:=0
def tw4395098438771597710:=0
def tw594585805199126723:=0
def tw13832815062196522507:=0
def tw15269489669109453656:=0
def tw8372218121353596275:=0
def tw9773328268617057818:=0
def tw1903295504816621527:=0
def tw7735776166752108419:=0
def tw5293857372750449907:=0
def tw17639061862130401158:=0
def tw1524517705012837020:=0
def tw10435901442612588370:=0
def tw17436158968576036527:=0
def tw14902169053101321440:=0
def tw17720778497900796042:=0
def tw7664939746783008426:=0
def tw7356683883512045131:=0
def tw1468832214074909931:=0
def tw7538409814857073113:=0
def tw11146762764569732285:=0
def tw1410723232551726651:=0
def tw13297221221879967622:=0
def tw18083719550487198364:=0
def tw16697886112525927365:=0
def tw10790059652187113972:=0
def tw14912878667120262410:=0
def tw11095092350027720952:=0
def tw14484704314996140046:=0
def tw3829403768108242060:=0
def tw10858275912168269173:=0
def tw377998890073803745:=0
def tw17266387174192851366:=0
def tw2384828517240085163:=0
def tw16197178146560731987:=0
def tw3155616318750823651:=0
def tw8125289898036722357:=0
def tw830677193940182426:=0
def tw8736276824484871905:=0
def tw15654584003840714039:=0
def tw8025109101669591469:=0
def tw4095692598787883536:=0
def tw3817118873848639581:=0
def tw17469972129367112621:=0
def tw17433919749380523981:=0
def tw1234896298306834468:=0
def tw774769550063104659:=0
def tw462024603561727863:=0
def tw7908910853832340284:=0
def tw8935752835592343179:=0
def tw7048565003026584690:=0
def tw16314670552318858280:=0
def tw14942032367054634684:=0
def tw3645541232969739671:=0
def tw3182855820467583227:=0
def tw16977288881552096268:=0
def tw7353640360222737562:=0
def tw5393526593631131397:=0
def tw6113020666146630448:=0
def tw3973804379361454552:=0
def tw5170980584260713493:=0
def tw5141785061896023997:=0
def tw16729144924024637290:=0
def tw10777741272942943850:=0
def tw12184376709249004258:=0
def tw4519535348049748163:=0
def tw10921737247056158157:=0
def tw11498316102348153959:=0
def tw17611920611300532403:=0
def tw15717286284286139184:=0
def tw13741105956986714565:=0
def tw12919887549603237461:=0
def tw4477067403905337946:=0
def tw15948210462378156393:=0
def tw7540813582400393522:=0
def tw2755123623229300615:=0
def tw12483326516121779359:=0
def tw11278454576926762171:=0
def tw7684558836459070185:=0
def tw5127575995601051708:=0
def tw2324976313539256796:=0
def tw1073818600967971796:=0
def tw16658301267058193348:=0
def tw1578551084057743771:=0
def tw126881418619989301:=0
def tw6870156704337044054:=0
def tw6168240930325326926:=0
def tw5951746112227933256:=0
def tw14918497543509805348:=0
def tw3332200138823754255:=0
def tw8031035581046928520:=0
def tw6098109885930784639:=0
def tw12027788891804845237:=0
def tw456321468715193848:=0
def tw11241758702604050231:=0
def tw2919651858698227690:=0
def tw9839581231438901226:=0
def tw11063508409220823446:=0
def tw12621226255785428454:=0
def tw6959232646470803891:=0
def tw7136655028615503123:=0
def tw8880516653507440428:=0
def tw116590859478666405:=0
def tw3407074676523865682:=0
def tw10354028100810706047:=0
def tw7424006571725866668:=0
def tw11173815740785416976:=0
def tw8669104813712060941:=0
def tw9296531034304510237:=0
def tw14243870482939587144:=0
def tw109845048230460755:=0
def tw3182847914439156662:=0
def tw16655186946417127291:=0
def tw10870820678564006077:=0
def tw3906882614054379363:=0
def tw17452399453080298821:=0
def tw3139895291412248245:=0
def tw16953168361225299586:=0
def tw351851587946405400:=0
def tw3943786662108160972:=0
def tw10657469237472623263:=0
def tw6219792324387863018:=0
def tw9096634267380689178:=0
def tw15298507651705253731:=0
def tw7949960847388628711:=0
def tw4967378284117943083:=0
def tw15571650031523518332:=0
def tw17511008354833934785:=0
def tw17421447954842865445:=0
def tw7715163236657028674:=0
def tw13370023863326248920:=0
def tw18064120237075024734:=0
def tw9590338887303411606:=0
def tw15335056777317229604:=0
def tw11921923518238005720:=0
def tw12318954281173309714:=0
def tw5640665954462028438:=0
def tw1293454265557139408:=0
def tw16464586614758935341:=0
def tw9072886343714184343:=0
def tw456397816090658978:=0
def tw16436590272837130513:=0
def tw1819615072038736086:=0
def tw11282919473335937850:=0
def tw4939041326571404434:=0
def tw10770652026650676192:=0
def tw12103155727030025857:=0
def tw1771629738271123757:=0
def tw15401244701747014078:=0
def tw10166291837976202369:=0
def tw3630893576655741181:=0
def tw9555594189302812650:=0
def tw5230042423887791666:=0
def tw12822481096643974049:=0
def tw6712253023201125295:=0
def tw13317275474023668369:=0
def tw9877094554426837969:=0
def tw7998642813660634918:=0
def tw2497782932727616280:=0
def tw3663089005646456124:=0
def tw6389708604657783822:=0
def tw12239080202847640943:=0
def tw1753900346020487860:=0
def tw17590287382917759407:=0
def tw6055295698779095221:=0
def tw13187423642421702685:=0
def tw5992704948563045579:=0
def tw15868111904911286496:=0
def tw7931953010671810518:=0
def tw5507377194906312148:=0
def tw886034546781498290:=0
def tw3110010254347474134:=0
def tw6411304750649768401:=0
def tw1278263941306346321:=0
def tw3602984073531385356:=0
def tw11477514985996915889:=0
def tw8645429796665299175:=0
def tw12661153193997720827:=0
def tw10040916603646484603:=0
def tw8206367779867966892:=0
def tw8720727700523150561:=0
def tw8124054869591292016:=0
def tw9927218055171792377:=0
def tw5740233165246858300:=0
def tw6831644845260715585:=0
def tw4322956315809535746:=0
def tw16601006445635915851:=0
def tw4421903291429060715:=0
def tw10550241199025387614:=0
def tw13272662149699197286:=0
def tw7125516405890981463:=0
def tw17173737917295444386:=0
def tw9075761260648210636:=0
def tw14530695392566332629:=0
def tw16519110244282230740:=0
def tw11269439256232014631:=0
def tw4263011816189622454:=0
def tw7779640260623214606:=0
def tw1530228218381355915:=0
def tw4884320462104021025:=0
def tw109375948837572635:=0
def tw7317366617754593587:=0
def tw9534128837974472032:=0
def tw2714529831793216183:=0
def tw5153066979748643138:=0
def tw3318146658067464339:=0
def tw13009250642573757368:=0
def tw11469385386507068701:=0
def tw13299070385188085472:=0
def tw8251295029231469616:=0
def tw14558142150408328186:=0
def tw15833071300000574782:=0
def tw769602577187786821:=0
def tw13986248113786148559:=0
def tw632550305821110879:=0
def tw10831726035157325003:=0
def tw13656310572507497134:=0
def tw12603253803396646277:=0
def tw17771547775577444852:=0
def tw10714668316179382005:=0
def tw16770390104842295109:=0
def tw8510382161809202157:=0
def tw12773396761160174137:=0
def tw11155836496657656814:=0
def tw13373561475154188734:=0
def tw14260935811476398156:=0
def tw15494416548450284655:=0
def tw10738773014238352754:=0
def tw11301638595751130757:=0
def tw515389067509771302:=0
def tw10412007534059373668:=0
def tw10148885307312043280:=0
def tw16102386219418814138:=0
def tw13165261593839156902:=0
def tw4843152369909252553:=0
def tw7120133536184031534:=0
def tw8771888560919834667:=0
def tw12026050396913966340:=0
def tw15305712711313840382:=0
def tw14911019905433829182:=0
def tw772865831929925824:=0
def tw9835207108185058631:=0
def tw5748750337524697768:=0
def tw2838479625950345961:=0
def tw1016912689958424130:=0
def tw12199092983959890832:=0
def tw17532668320312559303:=0
def tw204300464303894894:=0
end PySem.W.Fast
set_option maxRecDepth 100000 in
set_option maxHeartbeats 0 in
theorem PySem.Challenge.cw_backline_k21_lines_holds : PySem.Challenge.rw_backline_k21_lines.Holds := by
 w_on;o_law;k_head;(case hw=>w_witness2)
 k_fill
 refine B.walk (l:=PySem.Challenge.rw_backline_k21_lines) _ rfl rfl (fun w h Y=>W.km_in_of Y) (fun w h Y=>W.km_tabs_of Y) ?F
 case F=>
  intro w mg fa h kin G hmg
  refine' B.txt_mk kin G hmg ?aC_Bundle ?aC_Each ?aC_Event ?aC_Loom ?aC_Never ?aC_NoPoint ?aC_NoSize ?aC_Thread ?aD_am ?lk_am ?cd__am ?kp__am ?aD_an ?lk_an ?cd__an ?kp__an ?aD_cc ?lk_cc ?cd__cc ?kp__cc ?aD_cm ?lk_cm ?cd__cm ?kp__cm ?aD_cq ?lk_cq ?cd__cq ?kp__cq ?aD_cr ?lk_cr ?cd__cr ?kp__cr ?aD_cs ?lk_cs ?cd__cs ?kp__cs ?aD_ci ?lk_ci ?cd__ci ?kp__ci ?aD_ad ?lk_ad ?cd__ad ?kp__ad ?aD_ab ?lk_ab ?cd__ab ?kp__ab ?aD_ae ?lk_ae ?cd__ae ?kp__ae ?aD_ba ?lk_ba ?cd__ba ?kp__ba ?aD_ac ?lk_ac ?cd__ac ?kp__ac ?aD_aa ?lk_aa ?cd__aa ?kp__aa ?aD_bn ?lk_bn ?cd__bn ?kp__bn ?aD_co ?lk_co ?cd__co ?kp__co ?aD_bb ?lk_bb ?cd__bb ?kp__bb ?aD_bc ?lk_bc ?cd__bc ?kp__bc ?aD_bx ?lk_bx ?cd__bx ?kp__bx ?aD_ar ?lk_ar ?cd__ar ?kp__ar ?aD_al ?lk_al ?cd__al ?kp__al ?aD_ah ?lk_ah ?cd__ah ?kp__ah ?aD_ai ?lk_ai ?cd__ai ?kp__ai ?aD_cp ?lk_cp ?cd__cp ?kp__cp ?aD_cb ?lk_cb ?cd__cb ?kp__cb ?aD_ck ?lk_ck ?cd__ck ?kp__ck ?aD_cl ?lk_cl ?cd__cl ?kp__cl ?aD_bp ?lk_bp ?cd__bp ?kp__bp ?aD_bd ?lk_bd ?cd__bd ?kp__bd ?aD_ca ?lk_ca ?cd__ca ?kp__ca ?aD_af ?lk_af ?cd__af ?kp__af ?aD_ag ?lk_ag ?cd__ag ?kp__ag ?aD_aj ?lk_aj ?cd__aj ?kp__aj ?aD_as ?lk_as ?cd__as ?kp__as ?aD_av ?lk_av ?cd__av ?kp__av ?aD_ao ?lk_ao ?cd__ao ?kp__ao ?aD_bz ?lk_bz ?cd__bz ?kp__bz ?aD_au ?lk_au ?cd__au ?kp__au ?aD_bo ?lk_bo ?cd__bo ?kp__bo ?aD_cj ?lk_cj ?cd__cj ?kp__cj ?aD_be ?lk_be ?cd__be ?kp__be ?aD_bq ?lk_bq ?cd__bq ?kp__bq ?aD_br ?lk_br ?cd__br ?kp__br ?aD_cd ?lk_cd ?cK_cd ?tR_cd ?tI_cd ?tN_cd ?tM_cd ?cd__cd ?kp__cd ?aD_ce ?lk_ce ?cd__ce ?kp__ce ?aD_bf ?lk_bf ?cd__bf ?kp__bf ?aD_aq ?lk_aq ?cd__aq ?kp__aq ?aD_bs ?lk_bs ?cd__bs ?kp__bs ?aD_law ?lk_law ?cd__law ?kp__law ?tA_ ?z_no_isinstance ?z_no_bool ?z_no_int ?q_na_bt ?pg_cl_Event ?hd_cl_Event ?po_cl_Event ?sa_cl_Event ?q_na_bh ?q_na_bu ?z_no_tuple ?q_na_bv ?z_no_list ?m1_mk_Event ?m2_mk_Event ?m3_mk_Event ?m4_mk_Event ?z_mv_SMALLEST_SIZE ?z_mv_GREATEST_SIZE ?q_ex_NoSize ?q_na_bg ?pg_cl_Bundle ?hd_cl_Bundle ?po_cl_Bundle ?sa_cl_Bundle ?q_na_aw ?pg_cl_Thread ?hd_cl_Thread ?po_cl_Thread ?sa_cl_Thread ?q_na_ax ?q_na_bi ?q_na_ak ?q_na_bj ?z_no_len ?e1_me_bc ?e2_me_bc ?e3_me_bc ?e1_me_al ?e2_me_al ?e3_me_al ?e1_me_ah ?e2_me_ah ?e3_me_ah ?q_ex_NoPoint ?e1_me_ac ?e2_me_ac ?e3_me_ac ?pg_cl_Each ?hd_cl_Each ?po_cl_Each ?sa_cl_Each ?e1_me_ae ?e2_me_ae ?e3_me_ae ?pg_cl_Never ?hd_cl_Never ?po_cl_Never ?sa_cl_Never ?e1_me_Never_down_by_deed ?e2_me_Never_down_by_deed ?e3_me_Never_down_by_deed ?e1_me_aa ?e2_me_aa ?e3_me_aa ?e1_me_Each_down_by_writing ?e2_me_Each_down_by_writing ?e3_me_Each_down_by_writing ?e1_me_Never_down_by_writing ?e2_me_Never_down_by_writing ?e3_me_Never_down_by_writing ?z_no_all ?q_na_cg ?pg_cl_Loom ?hd_cl_Loom ?po_cl_Loom ?sa_cl_Loom ?q_na_az ?q_na_cn ?q_na_ch ?z_no_min ?q_na_ay ?z_no_enumerate ?q_na_bk ?q_na_bw ?z_no_range ?q_na_cf ?e1_me_ai ?e2_me_ai ?e3_me_ai ?e1_me_bx ?e2_me_bx ?e3_me_bx ?e1_me_bz ?e2_me_bz ?e3_me_bz ?e1_me_aj ?e2_me_aj ?e3_me_aj ?e1_me_av ?e2_me_av ?e3_me_av ?e1_me_ao ?e2_me_ao ?e3_me_ao ?e1_me_as ?e2_me_as ?e3_me_as ?e1_me_ar ?e2_me_ar ?e3_me_ar ?z_no_sorted ?z_no_dict ?z_no_zip ?m1_mk_Thread ?m2_mk_Thread ?m3_mk_Thread ?m4_mk_Thread ?e1_me_af ?e2_me_af ?e3_me_af ?e1_me_ag ?e2_me_ag ?e3_me_ag ?z_no_max ?m1_mk_Bundle ?m2_mk_Bundle ?m3_mk_Bundle ?m4_mk_Bundle ?m1_mk_Each ?m2_mk_Each ?m4_mk_Each ?m1_mk_Never ?m2_mk_Never ?m4_mk_Never ?e1_me_ca ?e2_me_ca ?e3_me_ca ?e1_me_cl ?e2_me_cl ?e3_me_cl ?e1_me_ck ?e2_me_ck ?e3_me_ck ?e1_me_bp ?e2_me_bp ?e3_me_bp ?m1_mk_Loom ?m2_mk_Loom ?m3_mk_Loom ?m4_mk_Loom ?e1_me_bd ?e2_me_bd ?e3_me_bd ?q_ki_b ?ga_xk_NoPoint ?gb_xk_NoPoint ?ha_xk_NoPoint ?hn_xk_NoPoint ?ht_xk_NoPoint ?hm_xk_NoPoint ?hb_xk_NoPoint ?ha_ik_Event ?hn_ik_Event ?ht_ik_Event ?hm_ik_Event
  case aC_Bundle|aC_Each|aC_Event|aC_Loom|aC_Never|aC_NoPoint|aC_NoSize|aC_Thread|aD_am|lk_am|cd__am|kp__am|aD_an|lk_an|cd__an|kp__an=>k_is
  case aD_cc|lk_cc|cd__cc|kp__cc|aD_cm|lk_cm|cd__cm|kp__cm|aD_cq|lk_cq|cd__cq|kp__cq|aD_cr|lk_cr|cd__cr|kp__cr=>k_is
  case aD_cs|lk_cs|cd__cs|kp__cs|aD_ci|lk_ci|cd__ci|kp__ci|aD_ad|lk_ad|cd__ad|kp__ad|aD_ab|lk_ab|cd__ab|kp__ab=>k_is
  case aD_ae|lk_ae|cd__ae|kp__ae|aD_ba|lk_ba|cd__ba|kp__ba|aD_ac|lk_ac|cd__ac|kp__ac|aD_aa|lk_aa|cd__aa|kp__aa=>k_is
  case aD_bn|lk_bn|cd__bn|kp__bn|aD_co|lk_co|cd__co|kp__co|aD_bb|lk_bb|cd__bb|kp__bb|aD_bc|lk_bc|cd__bc|kp__bc=>k_is
  case aD_bx|lk_bx|cd__bx|kp__bx|aD_ar|lk_ar|cd__ar|kp__ar|aD_al|lk_al|cd__al|kp__al|aD_ah|lk_ah|cd__ah|kp__ah=>k_is
  case aD_ai|lk_ai|cd__ai|kp__ai|aD_cp|lk_cp|cd__cp|kp__cp|aD_cb|lk_cb|cd__cb|kp__cb|aD_ck|lk_ck|cd__ck|kp__ck=>k_is
  case aD_cl|lk_cl|cd__cl|kp__cl|aD_bp|lk_bp|cd__bp|kp__bp|aD_bd|lk_bd|cd__bd|kp__bd|aD_ca|lk_ca|cd__ca|kp__ca=>k_is
  case aD_af|lk_af|cd__af|kp__af|aD_ag|lk_ag|cd__ag|kp__ag|aD_aj|lk_aj|cd__aj|kp__aj|aD_as|lk_as|cd__as|kp__as=>k_is
  case aD_av|lk_av|cd__av|kp__av|aD_ao|lk_ao|cd__ao|kp__ao|aD_bz|lk_bz|cd__bz|kp__bz|aD_au|lk_au|cd__au|kp__au=>k_is
  case aD_bo|lk_bo|cd__bo|kp__bo|aD_cj|lk_cj|cd__cj|kp__cj|aD_be|lk_be|cd__be|kp__be|aD_bq|lk_bq|cd__bq|kp__bq=>k_is
  case aD_br|lk_br|cd__br|kp__br|aD_cd|lk_cd|cK_cd=>k_is
  (case tR_cd=>first|rfl|decide|kernel_rfl)
  (case tI_cd=>first|rfl|decide|kernel_rfl)
  (case tN_cd=>first|rfl|decide|kernel_rfl)
  (case tM_cd=>first|rfl|decide|kernel_rfl)
  case cd__cd|kp__cd|aD_ce|lk_ce|cd__ce|kp__ce|aD_bf|lk_bf|cd__bf|kp__bf|aD_aq|lk_aq|cd__aq|kp__aq|aD_bs|lk_bs=>k_is
  case cd__bs|kp__bs|aD_law|lk_law|cd__law|kp__law=>k_is
  (case tA_=>first|rfl|decide|kernel_rfl)
  case z_no_isinstance|z_no_bool|z_no_int|q_na_bt|pg_cl_Event|hd_cl_Event|po_cl_Event|sa_cl_Event|q_na_bh|q_na_bu|z_no_tuple|q_na_bv|z_no_list|m1_mk_Event|m2_mk_Event|m3_mk_Event=>k_is
  case m4_mk_Event|z_mv_SMALLEST_SIZE|z_mv_GREATEST_SIZE=>k_is
  (case q_ex_NoSize=>k_exc)
  case q_na_bg|pg_cl_Bundle|hd_cl_Bundle|po_cl_Bundle|sa_cl_Bundle|q_na_aw|pg_cl_Thread|hd_cl_Thread|po_cl_Thread|sa_cl_Thread|q_na_ax|q_na_bi|q_na_ak|q_na_bj|z_no_len|e1_me_bc=>k_is
  case e2_me_bc|e3_me_bc|e1_me_al|e2_me_al|e3_me_al|e1_me_ah|e2_me_ah|e3_me_ah=>k_is
  (case q_ex_NoPoint=>k_exc)
  case e1_me_ac|e2_me_ac|e3_me_ac|pg_cl_Each|hd_cl_Each|po_cl_Each|sa_cl_Each|e1_me_ae|e2_me_ae|e3_me_ae|pg_cl_Never|hd_cl_Never|po_cl_Never|sa_cl_Never|e1_me_Never_down_by_deed|e2_me_Never_down_by_deed=>k_is
  case e3_me_Never_down_by_deed|e1_me_aa|e2_me_aa|e3_me_aa|e1_me_Each_down_by_writing|e2_me_Each_down_by_writing|e3_me_Each_down_by_writing|e1_me_Never_down_by_writing|e2_me_Never_down_by_writing|e3_me_Never_down_by_writing|z_no_all|q_na_cg|pg_cl_Loom|hd_cl_Loom|po_cl_Loom|sa_cl_Loom=>k_is
  case q_na_az|q_na_cn|q_na_ch|z_no_min|q_na_ay|z_no_enumerate|q_na_bk|q_na_bw|z_no_range|q_na_cf|e1_me_ai|e2_me_ai|e3_me_ai|e1_me_bx|e2_me_bx|e3_me_bx=>k_is
  case e1_me_bz|e2_me_bz|e3_me_bz|e1_me_aj|e2_me_aj|e3_me_aj|e1_me_av|e2_me_av|e3_me_av|e1_me_ao|e2_me_ao|e3_me_ao|e1_me_as|e2_me_as|e3_me_as|e1_me_ar=>k_is
  case e2_me_ar|e3_me_ar|z_no_sorted|z_no_dict|z_no_zip|m1_mk_Thread|m2_mk_Thread|m3_mk_Thread|m4_mk_Thread|e1_me_af|e2_me_af|e3_me_af|e1_me_ag|e2_me_ag|e3_me_ag|z_no_max=>k_is
  case m1_mk_Bundle|m2_mk_Bundle|m3_mk_Bundle|m4_mk_Bundle|m1_mk_Each|m2_mk_Each|m4_mk_Each|m1_mk_Never|m2_mk_Never|m4_mk_Never|e1_me_ca|e2_me_ca|e3_me_ca|e1_me_cl|e2_me_cl|e3_me_cl=>k_is
  case e1_me_ck|e2_me_ck|e3_me_ck|e1_me_bp|e2_me_bp|e3_me_bp|m1_mk_Loom|m2_mk_Loom|m3_mk_Loom|m4_mk_Loom|e1_me_bd|e2_me_bd|e3_me_bd=>k_is
  (case q_ki_b=>first|kit_is|k_is)
  case ga_xk_NoPoint|gb_xk_NoPoint|ha_xk_NoPoint|hn_xk_NoPoint|ht_xk_NoPoint|hm_xk_NoPoint|hb_xk_NoPoint|ha_ik_Event|hn_ik_Event|ht_ik_Event|hm_ik_Event=>k_is
