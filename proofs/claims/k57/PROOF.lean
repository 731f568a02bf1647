import PyProof.Rows.All
import Wide.All
import OpenK.AllK
import Wide.FinOn
import Lean
import PyProof.EqAt
import PyProof.EqKinds
import PyProof.TupleCall
import PySem.Challenge.RW_argosy_k57_lists_handed_in_may_be_change
import KE.KIntText
import PyProof.StrWalks
import PyProof.MeetsStr
import PyProof.SliceStr2
import PyProof.EnumFor
import PyProof.EnumMake
import PyProof.Rows.SortWalk
import PyProof.RulesFinally
import KE.KTupSum
import PyProof.Rows.SumAny
import PyProof.MaxThree
import PyProof.AutoSeq1
import PyProof.Rows.TupDisplay
set_option Elab.async false
set_option linter.all false
set_option maxRecDepth 100000
set_option genSizeOf false
set_option compiler.extract_closed false
set_option bootstrap.genMatcherCode false
noncomputable section
namespace L2
open PySem PySem.Spec PyProof.Rows
abbrev Key:=Sum Int Str
noncomputable def keyIs:Key→Value→Bool
 |.inl k,v=>Value.isInt k v
 |.inr x,v=>Value.isStrOf x v
noncomputable def keyH(w:World):Key→Int
 |.inl k=>hashInt k
 |.inr x=>hashStr w x
theorem keyIs_shape:∀{k:Key} {v:Value},keyIs k v=true→(∃i t,k=Sum.inl i∧v=Value.int i t)∨(∃x t,k=Sum.inr x∧v=Value.str x t)
 |.inl i,v,h=>by
  obtain⟨t,e⟩:=Value.isInt_shape (k:=i) (v:=v) h
  exact .inl ⟨i,t,rfl,e⟩
 |.inr x,v,h=>by
  obtain⟨t,e⟩:=Value.isStrOf_shape (x:=x) (v:=v) h
  exact .inr ⟨x,t,rfl,e⟩
theorem keyIs_int(i:Int)(t:Tok):keyIs (.inl i) (.int i t)=true:=by simp[keyIs,Value.isInt]
theorem keyIs_str(x:Str)(t:Tok):keyIs (.inr x) (.str x t)=true:=by simp[keyIs,Value.isStrOf]
theorem key_ll(a b:Int):decide ((Sum.inl a:Key)=Sum.inl b)=(a==b):=by
 by_cases e:a=b
 ·subst e;simp
 ·have h:¬(Sum.inl a:Key)=Sum.inl b:=fun q=>e (Sum.inl.inj q)
  rw[decide_eq_false h]
  exact(beq_eq_false_iff_ne.mpr e).symm
theorem key_rr(a b:Str):decide ((Sum.inr a:Key)=Sum.inr b)=decide (a=b):=by
 by_cases e:a=b
 ·subst e;simp
 ·have h:¬(Sum.inr a:Key)=Sum.inr b:=fun q=>e (Sum.inr.inj q)
  rw[decide_eq_false h,decide_eq_false e]
theorem key_lr(a:Int)(b:Str):decide ((Sum.inl a:Key)=Sum.inr b)=false:=decide_eq_false (fun q=>nomatch q)
theorem key_rl(a:Str)(b:Int):decide ((Sum.inr a:Key)=Sum.inl b)=false:=decide_eq_false (fun q=>nomatch q)
noncomputable def mixKind(prog:Program)(w:World):PySem.KeyKind prog w Key where
 is:=keyIs
 hash:=keyH w
 inj:=fun v a b ha hb=>by
  rcases keyIs_shape ha with⟨i,t,rfl,rfl⟩|⟨x,t,rfl,rfl⟩
  ·rcases keyIs_shape hb with⟨j,u,rfl,e⟩|⟨y,u,rfl,e⟩
   ·injection e with e1 _;rw[e1]
   ·exact nomatch e
  ·rcases keyIs_shape hb with⟨j,u,rfl,e⟩|⟨y,u,rfl,e⟩
   ·exact nomatch e
   ·injection e with e1 _;rw[e1]
 byValue:=fun k v h=>by
  rcases keyIs_shape h with⟨i,t,rfl,rfl⟩|⟨x,t,rfl,rfl⟩<;>rfl
 pyHash:=fun hv h=>by
  rcases keyIs_shape hv with⟨i,t,rfl,rfl⟩|⟨x,t,rfl,rfl⟩
  ·exact wpAny_pyHash_int h
  ·exact wpAny_pyHash_str h
 eqBool:=fun hu hv h=>by
  rcases keyIs_shape hu with⟨i,t,rfl,rfl⟩|⟨x,t,rfl,rfl⟩
  ·rcases keyIs_shape hv with⟨j,u,rfl,rfl⟩|⟨y,u,rfl,rfl⟩
   ·rw[key_ll]at h;exact wpAny_eqBool_int h
   ·rw[key_lr]at h;exact SeqAt.EqAt.int_str i t y u _ _ _ _ h
  ·rcases keyIs_shape hv with⟨j,u,rfl,rfl⟩|⟨y,u,rfl,rfl⟩
   ·rw[key_rl]at h;exact SeqAt.EqAt.str_int x t j u _ _ _ _ h
   ·rw[key_rr]at h;exact wpAny_eqBool_str h
 «strs»:=fun k x t v h=>by
  rcases keyIs_shape h with⟨i,u,rfl,e⟩|⟨y,u,rfl,e⟩
  ·exact nomatch e
  ·injection e with e1 _
   subst e1
   cases v<;>rfl
theorem mixKind_int(prog:Program)(w:World)(i:Int)(t:Tok):(mixKind prog w).is (.inl i) (.int i t)=true:=keyIs_int i t
theorem mixKind_str(prog:Program)(w:World)(x:Str)(t:Tok):(mixKind prog w).is (.inr x) (.str x t)=true:=keyIs_str x t
inductive V where
 |non|bl (b:Bool)|int (i:Int)|str (x:Str)|byt (b:Array UInt8)|flt (b:UInt64)|ref (a:Addr)|ty (n:String)
 deriving DecidableEq
noncomputable def RelV:V→Value→Prop
 |.non,u=>u=Value.none
 |.bl b,u=>u=Value.bool b
 |.int i,u=>∃t,u=Value.int i t
 |.str x,u=>∃t,u=Value.str x t
 |.byt b,u=>∃t,u=Value.bytes b t
 |.flt b,u=>∃t,u=Value.float b t
 |.ref a,u=>u=Value.ref a
 |.ty n,u=>u=Value.type n
abbrev Vals:List V→List Value→Prop:=Paired RelV
theorem Vals.length{xs:List V}{us:List Value}(r:Vals xs us):xs.length=us.length:=Paired.length r
theorem Vals.get:∀{xs:List V} {us:List Value} {i:Nat} {x:V},Vals xs us→xs[i]?=some x→∃u,us[i]?=some u∧RelV x u
 |_,_,_,_,.nil,e=>by simp at e
 |_,_,0,_,.cons r _,e=>by simp at e;subst e;exact⟨_,rfl,r⟩
 |_,_,i+1,x,.cons _ t,e=>by
  obtain⟨u,h1,h2⟩:=Vals.get (i:=i) (x:=x) t (by simpa using e)
  exact⟨u,by simpa using h1,h2⟩
theorem Vals.set{x:V}{u:Value}(r:RelV x u):∀{xs:List V} {us:List Value} (i:Nat),Vals xs us→Vals (xs.set i x) (us.set i u)
 |_,_,_,.nil=>.nil
 |_,_,0,.cons _ t=>.cons r t
 |_,_,i+1,.cons q t=>.cons q (Vals.set r i t)
theorem Vals.append:∀{xs ys:List V} {us ws:List Value},Vals xs us→Vals ys ws→Vals (xs++ys) (us++ws)
 |_,_,_,_,.nil,s=>s
 |_,_,_,_,.cons r t,s=>.cons r (Vals.append t s)
theorem Vals.take:∀{xs:List V} {us:List Value} (n:Nat),Vals xs us→Vals (xs.take n) (us.take n)
 |_,_,0,_=>.nil
 |_,_,_+1,.nil=>.nil
 |_,_,n+1,.cons r t=>.cons r (Vals.take n t)
theorem Vals.drop:∀{xs:List V} {us:List Value} (n:Nat),Vals xs us→Vals (xs.drop n) (us.drop n)
 |_,_,0,r=>r
 |_,_,_+1,.nil=>.nil
 |_,_,n+1,.cons _ t=>Vals.drop n t
noncomputable def RelO:Option V→Option Value→Prop
 |some v,some u=>RelV v u
 |none,none=>True
 |_,_=>False
noncomputable def KV{κ:Type}:List (κ×V)→List (κ×Value)→Prop:=Paired fun(p:κ×V) (q:κ×Value)=>p.1=q.1∧RelV p.2 q.2
noncomputable def kV:Key→V
 |.inl i=>.int i
 |.inr x=>.str x
set_option genInjectivity false in
inductive HO where
 |lst (xs:List V)
 |tup (xs:List V)
 |dK (kvs:List (Key×V))|dT (kvs:List (List Key×V))
 |set (S:Int→Bool) (n:Nat)
 |ins (C dx:Addr) (fs:List (Str×V))
 |own (x:Addr)
 |xd (fs:List (Str×V))
 |met (f x:Addr)
 |rng (lo hi:Int)
 |frz (o:Obj) (u:HO)
 |tbl (ps:Array Value)
 |ext (φ:Heap→Prop)
abbrev Hp:=Addr→Option HO
noncomputable def upd(H:Hp)(a:Addr)(o:HO):Hp:=fun b=>if b=a then some o else H b
theorem upd_same{H:Hp}{a:Addr}{o:HO}:upd H a o a=some o:=by unfold upd;rw[if_pos rfl]
theorem upd_ne{H:Hp}{a b:Addr}{o:HO}(h:b≠a):upd H a o b=H b:=by unfold upd;rw[if_neg h]
theorem ne_of{H:Hp}{a b:Addr}{o u:HO}(h:H a=some o)(h':H b=some u)(d:o≠u):a≠b:=by
 intro e;subst e;rw[h]at h';exact d (Option.some.inj h')
theorem ne_of_none{H:Hp}{a b:Addr}{o:HO}(h:H a=some o)(h':H b=none):a≠b:=by
 intro e;subst e;rw[h]at h';cases h'
section
variable(P:Program)(w:World)
noncomputable def ObjOk(H:Hp)(h:Heap)(a:Addr):HO→Prop
 |.lst xs=>xs.length≤sizeLine∧∃(its:List Value) (n:Nat),Vals xs its∧h.get? a=some {cls:=.type "list",data:=.seq its.toArray n}
 |.tup xs=>xs.length≤sizeLine∧∃its:List Value,Vals xs its∧IsTup h a its.toArray
 |.dK kvs=>kvs.length≤sizeLine∧(a==sysModules)=false∧∃vs,KV kvs vs∧h.DictOf (mixKind P w) a vs
 |.dT kvs=>kvs.length≤sizeLine∧(a==sysModules)=false∧∃xs:List (List Key×Addr×Value),
   Paired (fun(p:List Key×V) (q:List Key×Addr×Value)=>p.1=q.1∧H q.2.1=some (.tup (p.1.map kV))∧RelV p.2 q.2.2) kvs xs∧
   ∃o es ep,h.get? a=some o∧o.ExactDict∧o.data=.dict es ep∧es.toList=xs.map (entryOfKey (tupleKind (mixKind P w)))∧(xs.map (·.1)).Nodup
 |.set S n=>h.SetOf (intKind P w) a S n
 |.ins C dx fs=>H dx=some (.own a)∧fs.length≤1000∧dx≠a∧h.get? a=some (W.instObj C dx)∧
   ∃mA,h.Ns1 dx mA∧(∀f,RelO (fs.lookup f) (mA f))∧PySem.Within mA (fs.map (·.1))
 |.own _=>∃o,h.get? a=some o
 |.xd fs=>∃mA,h.Ns1 a mA∧∀f,RelO (fs.lookup f) (mA f)
 |.rng lo hi=>∃t u v,h.get? a=some {cls:=.type "range",data:=.fields #[.int lo t,.int hi u,.int 1 v]}
 |.frz o u=>h.get? a=some o∧ObjOk H h a u
 |.tbl ps=>h.get? a=some {cls:=.none,data:=.fields ps}
 |.met f x=>h.get? a=some (W.methodObj (.ref f) (.ref x))
 |.ext φ=>φ h∧(∃o,h.get? a=some o)∧∀h1 h2:Heap,φ h1→(∀o,h1.get? a=some o→h2.get? a=some o)→φ h2
noncomputable def HOk(H:Hp)(h:Heap):Prop:=∀a o,H a=some o→ObjOk P w H h a o
end
section
variable{P:Program}{w:World}{H H':Hp}{h h':Heap}{a:Addr}{o:HO}
theorem ObjOk.lt(x:ObjOk P w H h a o):a<h.objs.size:=by
 cases o with
 |lst xs=>obtain⟨_,_,_,_,e⟩:=x;exact Heap.lt_size e
 |tup xs=>obtain⟨_,_,_,p⟩:=x;exact p.lt
 |dK kvs=>obtain⟨_,_,_,_,o,_,_,e,_⟩:=x;exact Heap.lt_size e
 |dT kvs=>obtain⟨_,_,_,_,o,_,_,e,_⟩:=x;exact Heap.lt_size e
 |set S n=>obtain⟨o,_,_,_,e,_⟩:=x;exact Heap.lt_size e
 |ins C dx fs=>obtain⟨_,_,_,e,_⟩:=x;exact Heap.lt_size e
 |own y=>obtain⟨_,e⟩:=x;exact Heap.lt_size e
 |xd fs=>obtain⟨_,⟨_,_,_,e,_⟩,_⟩:=x;exact Heap.lt_size e
 |rng lo hi=>obtain⟨_,_,_,e⟩:=x;exact Heap.lt_size e
 |frz ob u=>obtain⟨e,_⟩:=x;exact Heap.lt_size e
 |tbl ps=>exact Heap.lt_size (show h.get? a=some _ from x)
 |met f y=>exact Heap.lt_size (show h.get? a=some _ from x)
 |ext φ=>obtain⟨_,⟨_,e⟩,_⟩:=x;exact Heap.lt_size e
theorem Paired.mapP{α β:Type}{F G:α→β→Prop}:∀{l₁:List α} {l₂:List β},Paired F l₁ l₂→(∀a b,F a b→G a b)→Paired G l₁ l₂
 |_,_,.nil,_=>.nil
 |_,_,.cons r t,f=>.cons (f _ _ r) (Paired.mapP t f)
theorem ObjOk.stay(x:ObjOk P w H h a o)(k:∀b u,(b=a∨H b=some (.own a))→h.get? b=some u→h'.get? b=some u)
  (ho:∀b,H b=some (.own a)→H' b=some (.own a)) (ht:∀b xs,H b=some (.tup xs)→H' b=some (.tup xs)):ObjOk P w H' h' a o:=by
 induction o with
 |lst xs=>obtain⟨z,its,n,r,e⟩:=x;exact⟨z,its,n,r,k _ _ (.inl rfl) e⟩
 |tup xs=>obtain⟨z,its,r,ob,e,c⟩:=x;exact⟨z,its,r,ob,k _ _ (.inl rfl) e,c⟩
 |dK kvs=>obtain⟨z,y,vs,r,ob,es,ep,e,c⟩:=x;exact⟨z,y,vs,r,ob,es,ep,k _ _ (.inl rfl) e,c⟩
 |dT kvs=>
  obtain⟨z,y,xs,r,ob,es,ep,e,c⟩:=x
  exact⟨z,y,xs,Paired.mapP r fun p q z=>⟨z.1,ht _ _ z.2.1,z.2.2⟩,ob,es,ep,k _ _ (.inl rfl) e,c⟩
 |set S n=>obtain⟨ob,es,ep,t,e,c⟩:=x;exact⟨ob,es,ep,t,k _ _ (.inl rfl) e,c⟩
 |ins C dx fs=>
  obtain⟨d,z,ne,e,mA,⟨od,es,ep,e2,c⟩,r⟩:=x
  exact⟨ho _ d,z,ne,k _ _ (.inl rfl) e,mA,⟨od,es,ep,k _ _ (.inr d) e2,c⟩,r⟩
 |own y=>obtain⟨ob,e⟩:=x;exact⟨ob,k _ _ (.inl rfl) e⟩
 |xd fs=>obtain⟨mA,⟨od,es,ep,e,c⟩,r⟩:=x;exact⟨mA,⟨od,es,ep,k _ _ (.inl rfl) e,c⟩,r⟩
 |rng lo hi=>obtain⟨t,u,v,e⟩:=x;exact⟨t,u,v,k _ _ (.inl rfl) e⟩
 |frz ob u ih=>obtain⟨e,q⟩:=x;exact⟨k _ _ (.inl rfl) e,ih q⟩
 |tbl ps=>
  have e:h.get? a=some {cls:=.none,data:=.fields ps}:=x
  show h'.get? a=some {cls:=.none,data:=.fields ps}
  exact k a _ (.inl rfl) e
 |met f y=>
  have e:h.get? a=some (W.methodObj (.ref f) (.ref y)):=x
  show h'.get? a=some (W.methodObj (.ref f) (.ref y))
  exact k a _ (.inl rfl) e
 |ext φ=>obtain⟨p,⟨o,e⟩,st⟩:=x;exact⟨st _ _ p fun o q=>k _ _ (.inl rfl) q,⟨o,k _ _ (.inl rfl) e⟩,st⟩
theorem HOk.lt(x:HOk P w H h)(e:H a=some o):a<h.objs.size:=(x a o e).lt
theorem HOk.fresh(x:HOk P w H h)(e:h.objs.size≤a):H a=none:=by
 cases q:H a with
 |none=>rfl
 |some u=>exact absurd (Nat.lt_of_lt_of_le (x.lt q) e) (Nat.lt_irrefl _)
theorem HOk.kept(x:HOk P w H h)(k:∀b u,h.get? b=some u→h'.get? b=some u):HOk P w H h':=fun a o e=>
 (x a o e).stay (fun b u _ q=>k b u q) (fun _ q=>q) fun _ _ q=>q
theorem HOk.laid(x:HOk P w H h)(k:∀b u,h.get? b=some u→h'.get? b=some u)(hp:h.objs.size≤a)(new:ObjOk P w (upd H a o) h' a o):HOk P w (upd H a o) h':=fun b u e=>by
 have hn:=x.fresh hp
 by_cases hb:b=a
 ·subst hb;rw[upd_same]at e;cases e;exact new
 ·rw[upd_ne hb]at e
  exact(x b u e).stay (fun c v _ q=>k c v q) (fun c q=>by rw[upd_ne (ne_of_none q hn)];exact q) fun c xs q=>by rw[upd_ne (ne_of_none q hn)];exact q
end
noncomputable def Rd(H:Hp)(a:Addr)(u:HO):Prop:=H a=some u∨∃o,H a=some (.frz o u)
theorem Rd.ok{P:Program}{w:World}{H:Hp}{h:Heap}{a:Addr}{u:HO}(r:Rd H a u)(x:HOk P w H h):ObjOk P w H h a u:=by
 rcases r with r|⟨o,r⟩
 ·exact x a u r
 ·obtain⟨_,q⟩:=x a _ r
  exact q
noncomputable def Mut:Option HO→Prop
 |some (.lst _)=>True
 |some (.dK _)=>True
 |some (.dT _)=>True
 |some (.set _ _)=>True
 |some (.ins _ _ _)=>True
 |some (.ext _)=>True
 |_=>False
section
variable{P:Program}{w:World}{H:Hp}{h h':Heap}{x e:Addr}{o':HO}
theorem HOk.write(ok:HOk P w H h)(mu:Mut (H x))(he:e=x∨H e=some (.own x))(k:∀b u,b≠e→h.get? b=some u→h'.get? b=some u)(heo:∃u,h'.get? e=some u)
  (new:ObjOk P w (upd H x o') h' x o'):HOk P w (upd H x o') h':=fun b u q=>by
 have nown:∀c y,H c=some (.own y)→c≠x:=fun c y r z=>by subst z;rw[r]at mu;exact mu
 have ntup:∀c xs,H c=some (.tup xs)→c≠x:=fun c xs r z=>by subst z;rw[r]at mu;exact mu
 by_cases hb:b=x
 ·subst hb;rw[upd_same]at q;cases q;exact new
 ·rw[upd_ne hb]at q
  by_cases hbe:b=e
  ·have q':H b=some (.own x):=by
    rcases he with z|z
    ·exact absurd (hbe.trans z) hb
    ·rw[hbe];exact z
   rw[q]at q';cases q'
   obtain⟨v,hv⟩:=heo
   exact⟨v,by rw[hbe];exact hv⟩
  ·refine(ok b u q).stay (fun c v hc r=>k c v ?_ r) (fun c r=>by rw[upd_ne (nown c b r)];exact r) fun c xs r=>by rw[upd_ne (ntup c xs r)];exact r
   rcases hc with rfl|hc
   ·exact hbe
   ·rintro rfl
    rcases he with z|z
    ·exact nown c b hc z
    ·rw[hc]at z;cases z;exact hb rfl
end
structure Un(fs ex:List Addr)(H H':Hp)(h h':Heap):Prop where
 keep:∀b o,h.get? b=some o→H b=none→b∉fs→b∉ex→h'.get? b=some o
 slot:∀b o,h.get? b=some o→H b=none→b∈fs→b∉ex→∃sl,h'.get? b=some {o with slots:=sl}
 free:∀b o,h.get? b=some o→H b=none→b∉ex→H' b=none
 there:∀b o,h.get? b=some o→b∉ex→∃o',h'.get? b=some o'
 tups:∀b xs,H b=some (.tup xs)→H' b=some (.tup xs)
 frzs:∀b o u,H b=some (.frz o u)→H' b=some (.frz o u)
 tbls:∀b ps,H b=some (.tbl ps)→∃more,H' b=some (.tbl (ps++more))
section
variable{fs fs' ex ex':List Addr}{H H1 H2:Hp}{h h1 h2 h':Heap}{a x e:Addr}{o:HO}
theorem Un.any(u:Un fs ex H H1 h h1){b:Addr}{ob:Obj}(q:h.get? b=some ob)(n:H b=none)(hx:b∉ex):∃sl,h1.get? b=some {ob with slots:=sl}:=by
 by_cases hb:b∈fs
 ·exact u.slot b ob q n hb hx
 ·exact⟨ob.slots,u.keep b ob q n hb hx⟩
theorem Un.kept(k:∀b u,h.get? b=some u→h'.get? b=some u):Un fs ex H H h h':=
 ⟨fun b ob q _ _ _=>k b ob q,fun b ob q _ _ _=>⟨ob.slots,k b ob q⟩,fun _ _ _ n _=>n,fun b ob q _=>⟨ob,k b ob q⟩,fun _ _ q=>q,fun _ _ _ q=>q,fun _ ps q=>⟨#[],by rw[q];simp⟩⟩
theorem Un.refl:Un fs ex H H h h:=Un.kept fun _ _ q=>q
theorem Un.laid(k:∀b u,h.get? b=some u→h'.get? b=some u)(hp:h.objs.size≤a)(hn:H a=none):Un fs ex H (upd H a o) h h' where
 keep:=fun b u q _ _ _=>k b u q
 slot:=fun b u q _ _ _=>⟨u.slots,k b u q⟩
 free:=fun b u q n _=>by rw[upd_ne (Nat.ne_of_lt (Nat.lt_of_lt_of_le (Heap.lt_size q) hp))];exact n
 there:=fun b u q _=>⟨u,k b u q⟩
 tups:=fun b xs q=>by rw[upd_ne (ne_of_none q hn)];exact q
 frzs:=fun b u xs q=>by rw[upd_ne (ne_of_none q hn)];exact q
 tbls:=fun b ps q=>⟨#[],by rw[upd_ne (ne_of_none q hn),q];simp⟩
theorem Un.write(mu:Mut (H x))(he:e=x∨H e=some (.own x))(k:∀b u,b≠e→h.get? b=some u→h'.get? b=some u)(heo:∃u,h'.get? e=some u):Un fs ex H (upd H x o) h h':=by
 have hx:∀b,H b=none→b≠x:=fun b n z=>by subst z;rw[n]at mu;exact mu
 have hb:∀b,H b=none→b≠e:=fun b n z=>by
  subst z
  rcases he with r|r
  ·exact hx b n r
  ·rw[n]at r;cases r
 have hm:∀b u,H b=some u→¬Mut (some u)→b≠x:=fun b u q nm z=>by subst z;rw[q]at mu;exact nm mu
 refine⟨fun b u q n _ _=>k b u (hb b n) q,fun b u q n _ _=>⟨u.slots,k b u (hb b n) q⟩,fun b u q n _=>by rw[upd_ne (hx b n)];exact n,fun b u q _=>?_,
  fun b xs q=>by rw[upd_ne (hm b _ q fun z=>z)];exact q,fun b u xs q=>by rw[upd_ne (hm b _ q fun z=>z)];exact q,fun b ps q=>⟨#[],by rw[upd_ne (hm b _ q fun z=>z),q];simp⟩⟩
 by_cases hbe:b=e
 ·subst hbe;exact heo
 ·exact⟨u,k b u hbe q⟩
end
noncomputable def trk(h:Heap)(H:Hp):List Addr:=(List.range h.objs.size).filter fun a=>(H a).isSome
noncomputable def hidT(h:Heap)(H:Hp):Heap:=W.hideAll h (trk h H)
theorem hidT_size(h:Heap)(H:Hp):(hidT h H).objs.size=h.objs.size:=W.hideAll_size _ _
theorem hidT_get{h:Heap}{H:Hp}{b:Addr}{o:Obj}(e:h.get? b=some o)(n:H b=none):(hidT h H).get? b=some o:=
 W.hideAll_get _ e fun hm=>by
  have q:(H b).isSome=true:=(List.mem_filter.mp hm).2
  rw[n]at q;simp at q
theorem of_hidT{h:Heap}{H:Hp}{b:Addr}{o:Obj}(e:(hidT h H).get? b=some o):h.get? b=some o∧H b=none:=by
 have e':h.get? b=some o:=W.of_hideAll (trk h H) e
 refine⟨e',?_⟩
 cases q:H b with
 |none=>rfl
 |some x=>
  have hm:b∈trk h H:=List.mem_filter.mpr ⟨List.mem_range.mpr (Heap.lt_size e'),by simp[q]⟩
  have z:(hidT h H).get? b=none:=W.hideAll_none (trk h H) hm
  rw[z]at e;cases e
structure Mod(K:W.Frag)(mg:Str→Option Value)(base:Heap):Prop where
 kin:K.In base
 glob:base.Ns mainGlobals mg
 blt:∃mb,base.Ns builtinsNs mb∧∀x:Str,x≠"__name__"→mb x=bootBuiltins x
 nolimit:base.NoLimit
set_option genInjectivity false in
structure Cx where
 prog:Program
 w:World
 K:W.Frag
 mg:Str→Option Value
 base:Heap
 A:Around
 N:List Str
 s₀:Shared
 H₀:Hp
 env:Env
 outer:List Env
 stack:List Env
 ex:List Addr
 fn:Str→Bool
 calm:Bool
 pn:List (Addr×Obj)
 xe:Value→Shared→Prop
noncomputable def frs(l:List Env):List Addr:=l.filterMap (·.frame)
abbrev Cx.fs(X:Cx):List Addr:=frs X.outer
noncomputable def Vis(sc:Scope)(x:Str):Prop:=sc.names.lookup x=some .local ∨sc.names.lookup x=some .cell∨sc.names.lookup x=some .free
noncomputable def Loc(sc:Scope)(x:Str):Prop:=sc.names.lookup x=some .local ∨sc.names.lookup x=some .cell
noncomputable def Look(env:Env)(h:Heap)(m:Str→Option Value)(x:Str)(u:Value):Prop:=
 (env.kindOf x=some .local ∧m x=some u)∨((env.kindOf x=some .cell∨env.kindOf x=some .free)∧∃c,env.cells.lookup x=some c∧h.IsCell c (some u))
structure Cx.Ok(X:Cx):Prop where
 mod:Mod X.K X.mg X.base
 kind:X.env.scope.kind=.function
 glob:X.env.globals=mainGlobals
 blt:X.env.builtins=builtinsNs
 above:X.s₀.heap.objs.size≤X.env.locals
 inj:∀x y c,X.env.cells.lookup x=some c→X.env.cells.lookup y=some c→x=y
 has:∀x,(X.env.kindOf x=some .cell∨X.env.kindOf x=some .free)→∃c,X.env.cells.lookup x=some c
 cab:∀x c,X.fn x=true→X.env.cells.lookup x=some c→X.s₀.heap.objs.size≤c
 hd:X.calm=true→X.A.handled=none
 frames:X.A.frames=some X.stack
 stk:X.stack=X.outer∨(X.stack=X.env::X.outer∧X.env.frame=some X.env.locals)
 exf:∀b∈X.ex,b≠X.env.locals∧∀x c,X.env.cells.lookup x=some c→c≠b
 bs:∀b o,X.base.get? b=some o→X.s₀.heap.get? b=some o∧X.H₀ b=none
 bsz:X.base.objs.size≤X.s₀.heap.objs.size
 noex:∀b o,X.base.get? b=some o→b∉X.ex
 exfs:∀b∈X.ex,b∉X.fs
 funs:X.s₀.heap.FunFrames X.base X.outer
 frf:∀b∈X.fs,X.H₀ b=none
structure Inv(X:Cx)(pins:List (Addr×Obj))(σ:List (Option V))(H:Hp)(s:Shared):Prop where
 ok:X.Ok
 os:s.os=X.s₀.os
 bare:AllBare s.gens
 base:Un X.fs X.ex X.H₀ H X.s₀.heap s.heap
 loc:∃m,s.heap.Ns X.env.locals m∧∀(i:Nat) (x:Str) (v:V),X.N[i]?=some x→σ[i]?=some (some v)→Vis X.env.scope x→∃u,RelV v u∧Look X.env s.heap m x u
 cell:∀x c,X.env.cells.lookup x=some c→∃v,s.heap.IsCell c v
 free:H X.env.locals=none
 freeC:∀x c,X.env.cells.lookup x=some c→H c=none
 pin:∀p∈X.pn++pins,s.heap.get? p.1=some p.2∧H p.1=none∧p.1≠X.env.locals∧p.1∉X.fs∧∀v,p.2.data≠ .cell v
 hok:HOk X.prog X.w H s.heap
 len:σ.length=X.N.length
section
variable{X:Cx}{pins:List (Addr×Obj)}{σ:List (Option V)}{H H':Hp}{s:Shared}{h':Heap}
theorem Cx.Ok.nofr(ok:X.Ok){b:Addr}{o:Obj}(e:X.base.get? b=some o):b∉X.fs:=fun hb=>by
 have:=(ok.funs.mem hb).1
 rw[e]at this;cases this
theorem Inv.bs(I:Inv X pins σ H s):∀b o,X.base.get? b=some o→s.heap.get? b=some o∧H b=none:=fun b o e=>
 ⟨I.base.keep b o (I.ok.bs b o e).1 (I.ok.bs b o e).2 (I.ok.nofr e) (I.ok.noex b o e),I.base.free b o (I.ok.bs b o e).1 (I.ok.bs b o e).2 (I.ok.noex b o e)⟩
theorem Inv.bk(I:Inv X pins σ H s):∀b o,X.base.get? b=some o→s.heap.get? b=some o:=fun b o e=>(I.bs b o e).1
theorem Inv.mod(I:Inv X pins σ H s):Mod X.K X.mg X.base:=I.ok.mod
theorem Inv.kIn(I:Inv X pins σ H s):X.K.In s.heap:=I.ok.mod.kin.keeps I.bk
theorem Inv.lt(I:Inv X pins σ H s):X.env.locals<s.heap.objs.size:=let⟨_,hn,_⟩:=I.loc;hn.lt
theorem Inv.sz(I:Inv X pins σ H s):X.s₀.heap.objs.size≤s.heap.objs.size:=Nat.le_trans I.ok.above (Nat.le_of_lt I.lt)
theorem Inv.nofs(I:Inv X pins σ H s){a:Addr}(h:s.heap.objs.size≤a):a∉X.fs:=fun hb=>by
 obtain⟨_,o,ho,_⟩:=I.ok.funs.mem hb
 exact absurd (Nat.lt_of_lt_of_le (Heap.lt_size ho) (Nat.le_trans I.sz h)) (Nat.lt_irrefl _)
theorem Inv.cne(I:Inv X pins σ H s):∀x c,X.env.cells.lookup x=some c→c≠X.env.locals:=fun x c e z=>by
 obtain⟨v,o,ho,hd⟩:=I.cell x c e
 obtain⟨m,⟨o',es,ep,ho',hd',_⟩,_⟩:=I.loc
 rw[z,ho']at ho;cases ho;rw[hd']at hd;cases hd
theorem Inv.funs(I:Inv X pins σ H s):s.heap.FunFrames X.base X.outer:=by
 have all:∀(l:List Env),(∀b∈frs l,b∈X.fs)→X.s₀.heap.FunFrames X.base l→s.heap.FunFrames X.base l:=by
  intro l
  induction l with
  |nil=>intro _ _;trivial
  |cons env r ih=>
   intro hs hl
   obtain⟨hk,⟨L,o,hf,hn,ho,hd⟩,hr⟩:=hl
   have hL:L∈X.fs:=hs L (by unfold frs;rw[List.filterMap_cons,hf];exact List.mem_cons_self)
   obtain⟨sl,e⟩:=I.base.slot L o ho (I.ok.frf L hL) hL fun z=>I.ok.exfs L z hL
   exact⟨hk,⟨L,_,hf,hn,e,hd⟩,ih (fun b hb=>hs b (by unfold frs;rw[List.filterMap_cons,hf];exact List.mem_cons_of_mem _ hb)) hr⟩
 exact all X.outer (fun _ hb=>hb) I.ok.funs
theorem Inv.stack(I:Inv X pins σ H s):s.heap.FunFrames X.base X.stack:=by
 rcases I.ok.stk with e|⟨e,hf⟩
 ·rw[e];exact I.funs
 ·rw[e]
  obtain⟨m,hn,_⟩:=I.loc
  refine .cons (by rw[I.ok.kind];decide) hf hn ?_ I.funs
  exact Heap.get?_none_of_le (Nat.le_trans I.ok.bsz I.ok.above)
theorem Inv.stkSub(I:Inv X pins σ H s):∀b∈frs X.stack,b∈X.env.locals::X.fs:=fun b hb=>by
 rcases I.ok.stk with e|⟨e,hf⟩
 ·rw[e]at hb;exact List.mem_cons_of_mem _ hb
 ·rw[e]at hb
  unfold frs at hb
  rw[List.filterMap_cons,hf]at hb
  exact hb
theorem Inv.stkFree(I:Inv X pins σ H s):∀b∈frs X.stack,H b=none:=fun b hb=>by
 rcases List.mem_cons.mp (I.stkSub b hb)with e|hb
 ·rw[e];exact I.free
 ·obtain⟨_,o,ho,_⟩:=I.ok.funs.mem hb
  exact I.base.free b o ho (I.ok.frf b hb) fun z=>I.ok.exfs b z hb
theorem Inv.step{g':Array GenState}{t':Nat}{d':Drawn}{ch:List Addr}(I:Inv X pins σ H s)
  (hch:∀b∈ch,(b∈X.ex∨X.s₀.heap.objs.size≤b)∧b≠X.env.locals∧(∀x c,X.env.cells.lookup x=some c→c≠b)∧∀p∈X.pn++pins,p.1≠b)
  (keep:∀b o,b≠X.env.locals→b∉X.fs→b∉ch→s.heap.get? b=some o→H b=none→h'.get? b=some o)
  (slot:∀b o,b≠X.env.locals→b∈X.fs→b∉ch→s.heap.get? b=some o→H b=none→∃sl,h'.get? b=some {o with slots:=sl}) (free:∀b o,b∉ch→s.heap.get? b=some o→H b=none→H' b=none)
  (there:∀b o,b∉ch→s.heap.get? b=some o→∃o',h'.get? b=some o')
  (tups:∀b xs,H b=some (.tup xs)→H' b=some (.tup xs)) (frzs:∀b o u,H b=some (.frz o u)→H' b=some (.frz o u)) (tbls:∀b ps,H b=some (.tbl ps)→∃more,H' b=some (.tbl (ps++more)))
  (ns:∀m,s.heap.Ns X.env.locals m→h'.Ns X.env.locals m) (hok:HOk X.prog X.w H' h') (hg:AllBare g'):
  Inv X pins σ H' {s with heap:=h',gens:=g',drawn:=d',toks:=t'}:=by
 have neL:∀b o,X.s₀.heap.get? b=some o→b≠X.env.locals:=fun b o e=>Nat.ne_of_lt (Nat.lt_of_lt_of_le (Heap.lt_size e) I.ok.above)
 have neC:∀b o,X.s₀.heap.get? b=some o→b∉X.ex→b∉ch:=fun b o e hx hb=>by
  rcases(hch b hb).1 with z|z
  ·exact hx z
  ·exact absurd (Nat.lt_of_lt_of_le (Heap.lt_size e) z) (Nat.lt_irrefl _)
 have cellK:∀x c,X.env.cells.lookup x=some c→∀v,s.heap.IsCell c v→h'.IsCell c v:=fun x c e v ⟨o,ho,hd⟩=>by
  have nch:c∉ch:=fun z=>(hch c z).2.2.1 x c e rfl
  by_cases hc:c∈X.fs
  ·obtain⟨sl,q⟩:=slot c o (I.cne x c e) hc nch ho (I.freeC x c e)
   exact⟨_,q,hd⟩
  ·exact⟨o,keep c o (I.cne x c e) hc nch ho (I.freeC x c e),hd⟩
 refine⟨I.ok,I.os,hg,⟨fun b o e n hb hx=>?_,fun b o e n hb hx=>?_,fun b o e n hx=>?_,fun b o e hx=>?_,fun b xs e=>tups b xs (I.base.tups b xs e),fun b o xs e=>frzs b o xs (I.base.frzs b o xs e),fun b ps e=>?_⟩,?_,fun x c e=>?_,?_,fun x c e=>?_,fun p hp=>?_,hok,I.len⟩
 ·exact keep b o (neL b o e) hb (neC b o e hx) (I.base.keep b o e n hb hx) (I.base.free b o e n hx)
 ·obtain⟨sl,e1⟩:=I.base.slot b o e n hb hx
  obtain⟨sl',e2⟩:=slot b _ (neL b o e) hb (neC b o e hx) e1 (I.base.free b o e n hx)
  exact⟨sl',e2⟩
 ·obtain⟨o',e1⟩:=I.base.there b o e hx
  exact free b o' (neC b o e hx) e1 (I.base.free b o e n hx)
 ·obtain⟨o',e1⟩:=I.base.there b o e hx
  exact there b o' (neC b o e hx) e1
 ·obtain⟨m1,e1⟩:=I.base.tbls b ps e
  obtain⟨m2,e2⟩:=tbls b _ e1
  exact⟨m1++m2,by rw[e2,Array.append_assoc]⟩
 ·obtain⟨m,hn,hl⟩:=I.loc
  refine⟨m,ns m hn,fun i x v e1 e2 e3=>?_⟩
  obtain⟨u,r,l⟩:=hl i x v e1 e2 e3
  refine⟨u,r,?_⟩
  rcases l with l|⟨k,c,e,z⟩
  ·exact .inl l
  ·exact .inr ⟨k,c,e,cellK x c e _ z⟩
 ·obtain⟨v,z⟩:=I.cell x c e
  exact⟨v,cellK x c e v z⟩
 ·obtain⟨m,⟨o,_,_,ho,_⟩,_⟩:=I.loc
  exact free _ o (fun z=>(hch _ z).2.1 rfl) ho I.free
 ·obtain⟨v,o,ho,hd⟩:=I.cell x c e
  exact free c o (fun z=>(hch c z).2.2.1 x c e rfl) ho (I.freeC x c e)
 ·obtain⟨e,n,ne,nf,d⟩:=I.pin p hp
  have nch:p.1∉ch:=fun z=>(hch p.1 z).2.2.2 p hp rfl
  exact⟨keep p.1 p.2 ne nf nch e n,free p.1 p.2 nch e n,ne,nf,d⟩
theorem Inv.un{t':Nat}(I:Inv X pins σ H s)(u:Un X.fs [] H H' s.heap h')(hok:HOk X.prog X.w H' h'):Inv X pins σ H' {s with heap:=h',toks:=t'}:=by
 obtain⟨m,⟨o,es,ep,ho,r⟩,_⟩:=id I.loc
 obtain⟨sl,hL⟩:=u.any ho I.free (by simp)
 exact I.step (g':=s.gens) (d':=s.drawn) (ch:=[]) (fun _ z=>nomatch z) (fun b o _ hb _ e n=>u.keep b o e n hb (by simp)) (fun b o _ hb _ e n=>u.slot b o e n hb (by simp)) (fun b o _ e n=>u.free b o e n (by simp)) (fun b o _ e=>u.there b o e (by simp)) u.tups u.frzs u.tbls (fun m' hm=>by
  obtain⟨o',es',ep',ho',r'⟩:=hm
  rw[ho]at ho';cases ho'
  exact⟨_,es',ep',hL,r'⟩) hok I.bare
theorem Inv.call{g':Array GenState}{t':Nat}{d':Drawn}{ch:List Addr}(I:Inv X pins σ H s)(u:Un (frs X.stack) ch H H' s.heap h')(hok:HOk X.prog X.w H' h')(hg:AllBare g')
  (hch:∀b∈ch,(b∈X.ex∨X.s₀.heap.objs.size≤b)∧b≠X.env.locals∧(∀x c,X.env.cells.lookup x=some c→c≠b)∧∀p∈X.pn++pins,p.1≠b):
  Inv X pins σ H' {s with heap:=h',gens:=g',drawn:=d',toks:=t'}:=by
 obtain⟨m,⟨o,es,ep,ho,r⟩,_⟩:=id I.loc
 obtain⟨sl,hL⟩:=u.any ho I.free fun z=>(hch _ z).2.1 rfl
 exact I.step (ch:=ch) hch (fun b o hL hb hc e n=>u.keep b o e n (fun z=>(List.mem_cons.mp (I.stkSub b z)).elim hL hb) hc) (fun b o _ _ hc e n=>u.any e n hc) (fun b o hc e n=>u.free b o e n hc) (fun b o hc e=>u.there b o e hc) u.tups u.frzs u.tbls (fun m' hm=>by
  obtain⟨o',es',ep',ho',r'⟩:=hm
  rw[ho]at ho';cases ho'
  exact⟨_,es',ep',hL,r'⟩) hok hg
theorem Inv.turned{t':Nat}{it:Addr}(I:Inv X pins σ H s)(k:∀b o,b≠it→s.heap.get? b=some o→h'.get? b=some o)(hn:H it=none)(hL:it≠X.env.locals)
  (h1:it∈X.ex∨X.s₀.heap.objs.size≤it) (h2:∀x c,X.env.cells.lookup x=some c→c≠it) (h3:∀p∈X.pn++pins,p.1≠it):Inv X pins σ H {s with heap:=h',toks:=t'}:=by
 have nit:∀b u,H b=some u→b≠it:=fun b u e z=>by rw[z,hn]at e;cases e
 refine I.step (g':=s.gens) (d':=s.drawn) (ch:=[it]) (fun b hb=>?_) (fun b o _ _ hc e _=>k b o (fun z=>hc (by simp[z])) e) (fun b o _ _ hc e _=>⟨o.slots,k b o (fun z=>hc (by simp[z])) e⟩) (fun _ _ _ _ n=>n)
  (fun b o hc e=>⟨o,k b o (fun z=>hc (by simp[z])) e⟩) (fun _ _ e=>e) (fun _ _ _ e=>e) (fun b ps e=>⟨#[],by rw[e];simp⟩) (fun m hm=>?_) (fun b u e=>?_) I.bare
 ·have e:b=it:=by simpa using hb
  subst e
  exact⟨h1,hL,h2,h3⟩
 ·obtain⟨o,es,ep,ho,r⟩:=hm
  exact⟨o,es,ep,k _ o (Ne.symm hL) ho,r⟩
 ·refine(I.hok b u e).stay (fun c v hc q=>k c v ?_ q) (fun _ q=>q) fun _ _ q=>q
  rcases hc with z|z
  ·rw[z];exact nit b u e
  ·exact nit c _ z
theorem Inv.tok(I:Inv X pins σ H s)(t:Nat):Inv X pins σ H {s with toks:=t}:=I.un (h':=s.heap) (t':=t) Un.refl I.hok
theorem Inv.kept{t':Nat}(I:Inv X pins σ H s)(k:∀b u,s.heap.get? b=some u→h'.get? b=some u):Inv X pins σ H {s with heap:=h',toks:=t'}:=I.un (Un.kept k) (I.hok.kept k)
theorem Inv.laid{a:Addr}{o:HO}{t':Nat}(I:Inv X pins σ H s)(k:∀b u,s.heap.get? b=some u→h'.get? b=some u)(hp:s.heap.objs.size≤a)(new:ObjOk X.prog X.w (upd H a o) h' a o):
  Inv X pins σ (upd H a o) {s with heap:=h',toks:=t'}:=I.un (Un.laid k hp (I.hok.fresh hp)) (I.hok.laid k hp new)
theorem Inv.write{x e:Addr}{o:HO}{t':Nat}(I:Inv X pins σ H s)(mu:Mut (H x))(he:e=x∨H e=some (.own x))(k:∀b u,b≠e→s.heap.get? b=some u→h'.get? b=some u)(heo:∃u,h'.get? e=some u)
  (new:ObjOk X.prog X.w (upd H x o) h' x o):Inv X pins σ (upd H x o) {s with heap:=h',toks:=t'}:=I.un (Un.write mu he k heo) (I.hok.write mu he k heo new)
theorem Inv.pins_of{pins':List (Addr×Obj)}(I:Inv X pins σ H s)(h:∀p∈pins',s.heap.get? p.1=some p.2∧H p.1=none∧p.1≠X.env.locals∧p.1∉X.fs∧∀v,p.2.data≠ .cell v):Inv X pins' σ H s:=
 ⟨I.ok,I.os,I.bare,I.base,I.loc,I.cell,I.free,I.freeC,fun p hp=>(List.mem_append.mp hp).elim (fun z=>I.pin p (List.mem_append_left _ z)) (h p),I.hok,I.len⟩
theorem nodup_ix{N:List Str}(hN:N.Nodup){i j:Nat}{x:Str}(a:N[i]?=some x)(b:N[j]?=some x):i=j:=by
 obtain⟨h1,e1⟩:=List.getElem?_eq_some_iff.mp a
 obtain⟨h2,e2⟩:=List.getElem?_eq_some_iff.mp b
 exact(List.getElem_inj hN).mp (e1.trans e2.symm)
theorem store_ok2{M:Model}{A:Around}{E:Value→Shared→Prop}{i:Nat}{x:Str}{v:V}{u:Value}{Q:Unit→Shared→Prop}(I:Inv X pins σ H s)(hN:X.N.Nodup)(hi:X.N[i]?=some x)(hx:Loc X.env.scope x)(r:RelV v u)
  (h:∀s',Inv X pins (σ.set i (some v)) H s'→(∃a,Heap.SameBut a s.heap s'.heap∧(a=X.env.locals∨X.env.cells.lookup x=some a))→Q () s') (hf:X.fn x=true∨X.env.scope.names.lookup x=some .local :=by first|exact .inl rfl|exact .inr rfl|assumption):wpAny M A (storeName X.env x u) Q E s:=by
 obtain⟨m,hn,hl⟩:=id I.loc
 have hcls:(X.env.scope.kind==.class||(X.env.scope.kind==.module && X.env.locals !=X.env.globals))=false:=by rw[I.ok.kind];rfl
 have hiσ:i<σ.length:=by rw[I.len];exact(List.getElem?_eq_some_iff.mp hi).1
 have cne:=I.cne
 have tracked:∀{a:Addr} {h':Heap},(∃o,s.heap.get? a=some o∧H a=none)→Heap.SameBut a s.heap h'→HOk X.prog X.w H h':=fun{a h'} ha hs b ob e=>by
  obtain⟨_,_,hfree⟩:=ha
  refine(I.hok b ob e).stay (fun c w' hc q=>(hs.2 c ?_).trans q) (fun _ q=>q) fun _ _ q=>q
  rintro rfl
  rcases hc with rfl|hc
  ·rw[hfree]at e;cases e
  ·rw[hfree]at hc;cases hc
 rcases hx with hk|hk
 ·refine wpAny_storeName_local hk hn (fun h' hn' hs=>?_) hcls
  obtain⟨oL,_,_,hoL,_⟩:=id hn
  refine h _ ⟨I.ok,I.os,I.bare,⟨fun b o e n hb hx=>?_,fun b o e n hb hx=>?_,I.base.free,fun b o e hx=>?_,I.base.tups,I.base.frzs,I.base.tbls⟩,⟨_,hn',fun j y v' e1 e2 e3=>?_⟩,fun y c e=>?_,I.free,I.freeC,fun p hp=>?_,tracked ⟨oL,hoL,I.free⟩ hs,by simpa using I.len⟩ ⟨_,hs,.inl rfl⟩
  ·exact(hs.2 b (Nat.ne_of_lt (Nat.lt_of_lt_of_le (Heap.lt_size e) I.ok.above))).trans (I.base.keep b o e n hb hx)
  ·obtain⟨sl,e1⟩:=I.base.slot b o e n hb hx
   exact⟨sl,(hs.2 b (Nat.ne_of_lt (Nat.lt_of_lt_of_le (Heap.lt_size e) I.ok.above))).trans e1⟩
  ·obtain⟨o',e1⟩:=I.base.there b o e hx
   exact⟨o',(hs.2 b (Nat.ne_of_lt (Nat.lt_of_lt_of_le (Heap.lt_size e) I.ok.above))).trans e1⟩
  ·by_cases hj:j=i
   ·subst hj
    rw[hi]at e1;cases e1
    rw[List.getElem?_set_self hiσ]at e2
    cases e2
    exact⟨u,r,.inl ⟨hk,by simp⟩⟩
   ·rw[List.getElem?_set_ne (Ne.symm hj)]at e2
    obtain⟨u',r',q⟩:=hl j y v' e1 e2 e3
    refine⟨u',r',?_⟩
    rcases q with⟨k,e⟩|⟨k,c,e,z⟩
    ·refine .inl ⟨k,?_⟩
     have:y≠x:=fun e=>hj (nodup_ix hN e1 (e▸hi))
     simp[this,e]
    ·exact .inr ⟨k,c,e,z.sameBut hs (cne y c e)⟩
  ·obtain⟨w',z⟩:=I.cell y c e
   exact⟨w',z.sameBut hs (cne y c e)⟩
  ·obtain⟨e,n,ne,nf,d⟩:=I.pin p hp
   exact⟨(hs.2 p.1 ne).trans e,n,ne,nf,d⟩
 ·have hfn:X.fn x=true:=by
   rcases hf with z|z
   ·exact z
   ·rw[z]at hk;cases hk
  obtain⟨c,hc⟩:=I.ok.has x (.inl hk)
  obtain⟨w',z⟩:=I.cell x c hc
  refine wpAny_storeName_cell I.ok.kind hk hc z (fun h' hc' hs=>?_)
  obtain⟨oc,hoc,hocd⟩:=id z
  refine h {s with heap:=h'} ⟨I.ok,I.os,I.bare,⟨fun b o e n hb hx=>?_,fun b o e n hb hx=>?_,I.base.free,fun b o e hx=>?_,I.base.tups,I.base.frzs,I.base.tbls⟩,⟨m,hn.sameBut hs (Ne.symm (cne x c hc)),fun j y v' e1 e2 e3=>?_⟩,fun y c' e=>?_,I.free,I.freeC,fun p hp=>?_,tracked ⟨oc,hoc,I.freeC x c hc⟩ hs,by simpa using I.len⟩ ⟨c,hs,.inr hc⟩
  ·exact(hs.2 b (Nat.ne_of_lt (Nat.lt_of_lt_of_le (Heap.lt_size e) (I.ok.cab x c hfn hc)))).trans (I.base.keep b o e n hb hx)
  ·obtain⟨sl,e1⟩:=I.base.slot b o e n hb hx
   exact⟨sl,(hs.2 b (Nat.ne_of_lt (Nat.lt_of_lt_of_le (Heap.lt_size e) (I.ok.cab x c hfn hc)))).trans e1⟩
  ·obtain⟨o',e1⟩:=I.base.there b o e hx
   exact⟨o',(hs.2 b (Nat.ne_of_lt (Nat.lt_of_lt_of_le (Heap.lt_size e) (I.ok.cab x c hfn hc)))).trans e1⟩
  ·by_cases hj:j=i
   ·subst hj
    rw[hi]at e1;cases e1
    rw[List.getElem?_set_self hiσ]at e2
    cases e2
    exact⟨u,r,.inr ⟨.inl hk,c,hc,hc'⟩⟩
   ·rw[List.getElem?_set_ne (Ne.symm hj)]at e2
    obtain⟨u',r',q⟩:=hl j y v' e1 e2 e3
    refine⟨u',r',?_⟩
    rcases q with q|⟨k,c',e,z'⟩
    ·exact .inl q
    ·refine .inr ⟨k,c',e,z'.sameBut hs ?_⟩
     rintro rfl
     exact hj (nodup_ix hN e1 (I.ok.inj _ _ _ e hc▸hi))
  ·by_cases hcc:c'=c
   ·subst hcc;exact⟨_,hc'⟩
   ·obtain⟨w2,z2⟩:=I.cell y c' e
    exact⟨w2,z2.sameBut hs hcc⟩
  ·obtain⟨e,n,ne,nf,d⟩:=I.pin p hp
   refine⟨(hs.2 p.1 ?_).trans e,n,ne,nf,d⟩
   intro q
   rw[q,hoc]at e
   have q':oc=p.2:=Option.some.inj e
   exact d w' (by rw[←q'];exact hocd)
theorem store_ok{M:Model}{A:Around}{E:Value→Shared→Prop}{i:Nat}{x:Str}{v:V}{u:Value}{Q:Unit→Shared→Prop}(I:Inv X pins σ H s)(hN:X.N.Nodup)(hi:X.N[i]?=some x)(hx:Loc X.env.scope x)(r:RelV v u)
  (h:∀s',Inv X pins (σ.set i (some v)) H s'→Q () s') (hf:X.fn x=true∨X.env.scope.names.lookup x=some .local :=by first|exact .inl rfl|exact .inr rfl|assumption):wpAny M A (storeName X.env x u) Q E s:=
 store_ok2 I hN hi hx r (fun s' I' _=>h s' I') hf
theorem Inv.call'{s':Shared}{ch:List Addr}(I:Inv X pins σ H s)(ho:s'.os=s.os)(u:Un (frs X.stack) ch H H' s.heap s'.heap)(hok:HOk X.prog X.w H' s'.heap)(hg:AllBare s'.gens)
  (hch:∀b∈ch,(b∈X.ex∨X.s₀.heap.objs.size≤b)∧b≠X.env.locals∧(∀x c,X.env.cells.lookup x=some c→c≠b)∧∀p∈X.pn++pins,p.1≠b):Inv X pins σ H' s':=by
 obtain⟨h',g',d',t',o'⟩:=s'
 have e:o'=s.os:=ho
 subst e
 exact I.call (g':=g') (t':=t') (d':=d') u hok hg hch
end
abbrev XK:=Value→Option Addr→Hp→Prop
abbrev St:=List (Option V)
abbrev VK:=V→Hp→Prop
abbrev TE:=St→Hp→VK→Prop
abbrev TT:=St→Hp→(Bool→Hp→Prop)→Prop
abbrev TA:=St→Hp→(List V→Hp→Prop)→Prop
set_option genInjectivity false in
structure Ends where
 nx:St→Hp→Prop
 rt:VK
 bk:St→Hp→Prop:=fun _ _=>False
 ct:St→Hp→Prop:=fun _ _=>False
abbrev TS:=Ends→St→Hp→Prop
noncomputable def EP(X:Cx)(pins:List (Addr×Obj))(σ:St)(Q:VK)(u:Value)(s':Shared):Prop:=∃v H',Inv X pins σ H' s'∧RelV v u∧Q v H'
noncomputable def TP(X:Cx)(pins:List (Addr×Obj))(σ:St)(Q:Bool→Hp→Prop)(b:Bool)(s':Shared):Prop:=∃H',Inv X pins σ H' s'∧Q b H'
noncomputable def AP(X:Cx)(pins:List (Addr×Obj))(σ:St)(Q:List V→Hp→Prop)(us:List Value)(s':Shared):Prop:=∃vs H',Inv X pins σ H' s'∧Vals vs us∧Q vs H'
noncomputable def SP(X:Cx)(pins:List (Addr×Obj))(D:Ends)(f:Flow)(s':Shared):Prop:=
 match f with
 |.next=>∃σ' H',Inv X pins σ' H' s'∧D.nx σ' H'
 |.brk=>∃σ' H',Inv X pins σ' H' s'∧D.bk σ' H'
 |.cont=>∃σ' H',Inv X pins σ' H' s'∧D.ct σ' H'
 |.ret u=>∃v σ' H',Inv X pins σ' H' s'∧RelV v u∧D.rt v H'
noncomputable def PE(X:Cx)(e:Expr)(t:TE):Prop:=
 ∀(pins:List (Addr×Obj)) (s:Shared) (σ:St) (H:Hp) (Q:VK),Inv X pins σ H s→t σ H Q→wpAny (model X.prog X.w) X.A (eval e X.env) (EP X pins σ Q) X.xe s
noncomputable def PT(X:Cx)(e:Expr)(t:TT):Prop:=
 ∀(pins:List (Addr×Obj)) (s:Shared) (σ:St) (H:Hp) (Q:Bool→Hp→Prop),Inv X pins σ H s→t σ H Q→wpAny (model X.prog X.w) X.A (isTrue e X.env (eval e X.env)) (TP X pins σ Q) X.xe s
noncomputable def PW(X:Cx)(e:Expr)(t:TT):Prop:=
 ∀(whole:Sem Value) (pins:List (Addr×Obj)) (s:Shared) (σ:St) (H:Hp) (Q:Bool→Hp→Prop),Inv X pins σ H s→t σ H Q→wpAny (model X.prog X.w) X.A (isTrue e X.env whole) (TP X pins σ Q) X.xe s
theorem PW.pt{X:Cx}{e:Expr}{t:TT}(h:PW X e t):PT X e t:=h _
noncomputable def PA(X:Cx)(es:List Expr)(t:TA):Prop:=
 ∀(pos:Pos) (pins:List (Addr×Obj)) (s:Shared) (σ:St) (H:Hp) (Q:List V→Hp→Prop),Inv X pins σ H s→t σ H Q→wpAny (model X.prog X.w) X.A (spliced (backTo pos (starEach es X.env))) (AP X pins σ Q) X.xe s
noncomputable def PS(X:Cx)(st:Stmt)(t:TS):Prop:=
 ∀(pins:List (Addr×Obj)) (s:Shared) (σ:St) (H:Hp) (D:Ends),Inv X pins σ H s→t D σ H→wpAny (model X.prog X.w) X.A (exec st X.env) (SP X pins D) X.xe s
noncomputable def PSs(X:Cx)(st:List Stmt)(t:TS):Prop:=
 ∀(pins:List (Addr×Obj)) (s:Shared) (σ:St) (H:Hp) (D:Ends),Inv X pins σ H s→t D σ H→wpAny (model X.prog X.w) X.A (execs st X.env) (SP X pins D) X.xe s
theorem thn{α:Type}{t:Sem α}{Q Q':α→Shared→Prop}{M:Model}{A:Around}{E:Value→Shared→Prop}{s:Shared}(h:wpAny M A t Q E s)(hQ:∀a s,Q a s→Q' a s):wpAny M A t Q' E s:=wpAny_mono h hQ fun _ _ x=>x
section
variable{X:Cx}
noncomputable def tVar(i:Nat):TE:=fun σ H Q=>∃v,σ[i]?=some (some v)∧Q v H
noncomputable def tC(v:V):TE:=fun _ H Q=>Q v H
theorem pe_var{i:Nat}{x:Str}{pos:Pos}(hN:X.N[i]?=some x)(hv:Vis X.env.scope x)(hd:(x==("__debug__":Str))=false:=by decide)(hcd:(x==("__classdict__":Str))=false:=by decide):PE X (.Name x pos) (tVar i):=by
 intro pins s σ H Q I h
 obtain⟨v,e,h⟩:=h
 obtain⟨m,hn,hl⟩:=I.loc
 obtain⟨u,r,l⟩:=hl i x v hN e hv
 have fin:EP X pins σ Q u s:=⟨v,H,I,r,h⟩
 rcases l with⟨hk,hm⟩|⟨hk,c,hc,hcell⟩
 ·exact wpAny_Name (wpAny_loadName_local I.ok.kind hk hn hm fin) hd
 ·rcases hk with hk|hk
  ·exact wpAny_Name (wpAny_loadName_cell I.ok.kind hk hc hcell fin) hd
  ·exact wpAny_Name (wpAny_loadName_free I.ok.kind hk hc hcell fin hcd) hd
theorem pe_int{i j pos}:PE X (.Constant (.int i) j pos) (tC (.int i)):=fun _ _ _ H _ I h=>wpAny_Constant_int ⟨.int i,H,I.tok _,⟨_,rfl⟩,h⟩
theorem pe_bl{b j pos}:PE X (.Constant (.bool b) j pos) (tC (.bl b)):=fun _ _ _ H _ I h=>Constant_bool ⟨.bl b,H,I,rfl,h⟩
theorem pe_non{j pos}:PE X (.Constant .none j pos) (tC .non):=fun _ _ _ H _ I h=>Constant_none ⟨.non,H,I,rfl,h⟩
noncomputable def Gl(X:Cx)(x:Str):Prop:=X.env.kindOf x=some .globalImplicit
theorem ld_glob{E:Value→Shared→Prop}{pins:List (Addr×Obj)}{s:Shared}{σ:St}{H:Hp}{x:Str}{u:Value}{pos:Pos}{Q:Value→Shared→Prop}(I:Inv X pins σ H s)(hg:Gl X x)(hm:X.mg x=some u)(h:Q u s)
  (hd:(x==("__debug__":Str))=false:=by decide):wpAny (model X.prog X.w) X.A (eval (.Name x pos) X.env) Q E s:=
 Calls.Name_function_global I.ok.kind hg (Calls.loadGlobal_global (by rw[I.ok.glob];exact I.mod.glob.keeps I.bk) hm h) hd
theorem ld_blt{E:Value→Shared→Prop}{pins:List (Addr×Obj)}{s:Shared}{σ:St}{H:Hp}{x:Str}{u:Value}{pos:Pos}{Q:Value→Shared→Prop}(I:Inv X pins σ H s)(hg:Gl X x)(hm:X.mg x=none)(hv:bootBuiltins x=some u)(h:Q u s)
  (hn:x≠"__name__":=by decide) (hd:(x==("__debug__":Str))=false:=by decide):wpAny (model X.prog X.w) X.A (eval (.Name x pos) X.env) Q E s:=by
 obtain⟨mb,h1,h2⟩:=I.mod.blt
 exact Calls.Name_function_global I.ok.kind hg (Calls.loadGlobal_builtin (by rw[I.ok.glob];exact I.mod.glob.keeps I.bk) hm (by rw[I.ok.blt];exact h1.keeps I.bk) ((h2 x hn).trans hv) h) hd
theorem pe_glob{x:Str}{v:V}{u:Value}{pos:Pos}(hg:Gl X x)(hm:X.mg x=some u)(r:RelV v u)(hd:(x==("__debug__":Str))=false:=by decide):PE X (.Name x pos) (tC v):=
 fun _ _ _ H _ I h=>ld_glob I hg hm ⟨v,H,I,r,h⟩ hd
theorem pe_bltn{x:Str}{v:V}{u:Value}{pos:Pos}(hg:Gl X x)(hm:X.mg x=none)(hv:bootBuiltins x=some u)(r:RelV v u)(hn:x≠"__name__":=by decide)(hd:(x==("__debug__":Str))=false:=by decide):PE X (.Name x pos) (tC v):=
 fun _ _ _ H _ I h=>ld_blt I hg hm hv ⟨v,H,I,r,h⟩ hn hd
variable{a b:Expr}{ta tb:TE}{pos:Pos}
noncomputable def PC(X:Cx)(op:CmpOp)(a b:Expr)(t:TE):Prop:=
 ∀(pins:List (Addr×Obj)) (s:Shared) (σ:St) (H:Hp) (Q:VK),Inv X pins σ H s→t σ H Q→
  wpAny (model X.prog X.w) X.A (eval a X.env) (fun v s₁=>wpAny (model X.prog X.w) X.A (eval b X.env) (fun u s₂=>wpAny (model X.prog X.w) X.A (compareOp op v u) (EP X pins σ Q) X.xe s₂) X.xe s₁) X.xe s
theorem nobehind(b:Expr){op:CmpOp}(h:op≠ .In)(h2:op≠ .NotIn):behindInMarks op b=false:=by
 have e1:(op==CmpOp.In)=false:=by cases op<;>first|rfl|exact absurd rfl h
 have e2:(op==CmpOp.NotIn)=false:=by cases op<;>first|rfl|exact absurd rfl h2
 cases b<;>simp[behindInMarks,e1,e2]
noncomputable def tIsN(ta:TE):TE:=fun σ H Q=>ta σ H fun x H1=>Q (.bl (decide (x=.non))) H1
noncomputable def tNotN(ta:TE):TE:=fun σ H Q=>ta σ H fun x H1=>Q (.bl (!decide (x=.non))) H1
theorem RelV.none_iff{x:V}{v:Value}(r:RelV x v):(v==Value.none)=decide (x=.non):=by
 cases x with
 |non=>cases r;rfl
 |bl _=>cases r;rfl
 |int _=>obtain⟨t,rfl⟩:=r;rfl
 |str _=>obtain⟨t,rfl⟩:=r;rfl
 |byt _=>obtain⟨t,rfl⟩:=r;rfl
 |flt _=>obtain⟨t,rfl⟩:=r;rfl
 |ref _=>cases r;rfl
 |ty _=>cases r;rfl
theorem pc_isN{j pos'}(ha:PE X a ta):PC X .Is a (.Constant .none j pos') (tIsN ta):=by
 intro pins s σ H Q I h
 refine thn (ha pins s σ H _ I h) fun v s1 ⟨x,H1,I1,r1,q1⟩=>?_
 exact Constant_none (is_none_gen ⟨.bl _,H1,I1,by rw[r1.none_iff];rfl,q1⟩)
theorem pc_notN{j pos'}(ha:PE X a ta):PC X .IsNot a (.Constant .none j pos') (tNotN ta):=by
 intro pins s σ H Q I h
 refine thn (ha pins s σ H _ I h) fun v s1 ⟨x,H1,I1,r1,q1⟩=>?_
 exact Constant_none (isnot_none_gen ⟨.bl _,H1,I1,by rw[r1.none_iff];rfl,q1⟩)
noncomputable def tB(t:TE):TT:=fun σ H Q=>t σ H fun x H1=>∃c,x=.bl c∧Q c H1
theorem pe_cmp{op:CmpOp}{t:TE}(h:PC X op a b t)(h1:behindInMarks op b=false:=by first|exact nobehind _ (by decide) (by decide)|rfl):PE X (.Compare a [op] [b] pos) t:=fun pins s σ H Q I hw=>wpAny_Compare1 (h pins s σ H Q I hw) h1
theorem pt_cmp{op:CmpOp}{t:TE}(h:PC X op a b t)(h1:behindInMarks op b=false:=by first|exact nobehind _ (by decide) (by decide)|rfl):PT X (.Compare a [op] [b] pos) (tB t):=by
 intro pins s σ H Q I hw
 refine wpAny_isTrue_Compare1 (thn (h pins s σ H _ I hw) fun v s1 h1=>thn h1 fun u s2 h2=>thn h2 fun c s3 ⟨x,H1,I1,r1,q1⟩=>?_) h1
 obtain⟨d,rfl,q⟩:=q1
 cases r1
 exact wpAny_truthy_bool ⟨H1,I1,q⟩
theorem pt_val{e:Expr}{t:TE}(h:PE X e t)(he:∀whole,isTrue e X.env whole=(do let v←whole;standAt e.pos;holding [v] (truthy v)):=by intro _;rfl):PT X e (tB t):=by
 intro pins s σ H Q I hw
 refine isTrue_plain (thn (h pins s σ H _ I hw) fun v s1 ⟨x,H1,I1,r1,q1⟩=>?_) (he _)
 obtain⟨d,rfl,q⟩:=q1
 cases r1
 exact wpAny_truthy_bool ⟨H1,I1,q⟩
variable{tA tB':TT}{rest:List Expr}
noncomputable def tAnd(t u:TT):TT:=fun σ H Q=>t σ H fun c H1=>if c=true then u σ H1 Q else Q false H1
noncomputable def tOr(t u:TT):TT:=fun σ H Q=>t σ H fun c H1=>if c=true then Q true H1 else u σ H1 Q
noncomputable def tNot(t:TT):TT:=fun σ H Q=>t σ H fun c H1=>Q (!c) H1
theorem pw_and1(ha:PT X a tA):PW X (.BoolOp .And [a] pos) tA:=by
 intro wh pins s σ H Q I h
 refine isTrue_and (thn (ha pins s σ H Q I h) fun c s1 e=>?_)
 cases c with
 |true=>exact isTrue_and_nil e
 |false=>exact e
theorem pw_or1(ha:PT X a tA):PW X (.BoolOp .Or [a] pos) tA:=by
 intro wh pins s σ H Q I h
 refine isTrue_or (thn (ha pins s σ H Q I h) fun c s1 e=>?_)
 cases c with
 |false=>exact isTrue_or_nil e
 |true=>exact e
theorem pw_and(ha:PT X a tA)(hb:PW X (.BoolOp .And (b::rest) pos) tB'):PW X (.BoolOp .And (a::b::rest) pos) (tAnd tA tB'):=by
 intro wh pins s σ H Q I h
 refine isTrue_and (thn (ha pins s σ H _ I h) fun c s1 ⟨H1,I1,q1⟩=>?_)
 cases c with
 |true=>exact hb wh pins s1 σ H1 Q I1 q1
 |false=>exact⟨H1,I1,q1⟩
theorem pw_or(ha:PT X a tA)(hb:PW X (.BoolOp .Or (b::rest) pos) tB'):PW X (.BoolOp .Or (a::b::rest) pos) (tOr tA tB'):=by
 intro wh pins s σ H Q I h
 refine isTrue_or (thn (ha pins s σ H _ I h) fun c s1 ⟨H1,I1,q1⟩=>?_)
 cases c with
 |true=>exact⟨H1,I1,q1⟩
 |false=>exact hb wh pins s1 σ H1 Q I1 q1
theorem pt_not(ha:PT X a tA):PT X (.UnaryOp .Not a pos) (tNot tA):=by
 intro pins s σ H Q I h
 exact isTrue_not (ha pins s σ H (fun c H1=>Q (!c) H1) I h)
noncomputable def tAndV(ta tb:TE):TE:=fun σ H Q=>ta σ H fun x H1=>∃c,x=.bl c∧if c=true then tb σ H1 Q else Q (.bl false) H1
theorem pe_one{op}{t:TE}(h:PE X a t):PE X (.BoolOp op [a] pos) t:=fun pins s σ H Q I hw=>BoolOp_one (h pins s σ H Q I hw)
theorem pe_and(ha:PE X a ta)(hb:PE X (.BoolOp .And (b::rest) pos) tb):PE X (.BoolOp .And (a::b::rest) pos) (tAndV ta tb):=by
 intro pins s σ H Q I h
 refine BoolOp_and (thn (ha pins s σ H _ I h) fun v s1 ⟨x,H1,I1,r1,q1⟩=>?_)
 obtain⟨c,rfl,q1⟩:=q1
 cases r1
 refine wpAny_truthy_bool ?_
 cases c with
 |true=>exact hb pins s1 σ H1 Q I1 q1
 |false=>exact⟨.bl false,H1,I1,rfl,q1⟩
noncomputable def tIf(t:TT)(ta tb:TE):TE:=fun σ H Q=>t σ H fun c H1=>if c=true then ta σ H1 Q else tb σ H1 Q
theorem pe_ifExp{c:Expr}(hc:PT X c tA)(ha:PE X a ta)(hb:PE X b tb):PE X (.IfExp c a b pos) (tIf tA ta tb):=by
 intro pins s σ H Q I h
 refine wpAny_IfExp (thn (hc pins s σ H _ I h) fun d s1 ⟨H1,I1,q1⟩=>?_)
 cases d with
 |true=>exact ha pins s1 σ H1 Q I1 q1
 |false=>exact hb pins s1 σ H1 Q I1 q1
end
noncomputable def SqL(K:W.Frag)(H:Hp)(a:Addr)(xs:List V):Prop:=
 Rd H a (.lst xs)∨
  ∃(o:Obj) (its:Array Value) (n:Nat),K.lookup a=some o∧o.cls=.type "list"∧o.dict=none∧o.data=.seq its n∧its.size≤sizeLine∧Vals xs its.toList
noncomputable def SqT(K:W.Frag)(H:Hp)(a:Addr)(xs:List V):Prop:=
 Rd H a (.tup xs)∨
  ∃(o:Obj) (its:Array Value) (n:Nat),K.lookup a=some o∧o.cls=.type "tuple"∧o.data=.seq its n∧its.size≤sizeLine∧Vals xs its.toList
noncomputable def absV:Value→Option V
 |.none=>some .non
 |.bool b=>some (.bl b)
 |.int i _=>some (.int i)
 |.str x _=>some (.str x)
 |.bytes b _=>some (.byt b)
 |.float b _=>some (.flt b)
 |.ref a=>some (.ref a)
 |.type n=>some (.ty n)
 |_=>none
theorem RelV.abs{x:V}{u:Value}(r:RelV x u):absV u=some x:=by
 cases x with
 |non=>cases r;rfl
 |bl _=>cases r;rfl
 |int _=>obtain⟨t,rfl⟩:=r;rfl
 |str _=>obtain⟨t,rfl⟩:=r;rfl
 |byt _=>obtain⟨t,rfl⟩:=r;rfl
 |flt _=>obtain⟨t,rfl⟩:=r;rfl
 |ref _=>cases r;rfl
 |ty _=>cases r;rfl
theorem RelV.inj{x y:V}{u:Value}(r:RelV x u)(q:RelV y u):x=y:=Option.some.inj (r.abs.symm.trans q.abs)
theorem Vals.inj:∀{xs ys:List V} {us:List Value},Vals xs us→Vals ys us→xs=ys
 |_,_,_,.nil,.nil=>rfl
 |_,_,_,.cons r t,.cons r' t'=>by rw[r.inj r',Vals.inj t t']
section
variable{X:Cx}{pins:List (Addr×Obj)}{σ:St}{H:Hp}{s:Shared}{a:Addr}{xs ys:List V}
theorem SqL.of{K:W.Frag}(h:H a=some (.lst xs)):SqL K H a xs:=.inl (.inl h)
theorem SqT.of{K:W.Frag}(h:H a=some (.tup xs)):SqT K H a xs:=.inl (.inl h)
theorem Inv.list(I:Inv X pins σ H s)(h:SqL X.K H a xs):∃its:List Value,Vals xs its∧PlainL s.heap a its.toArray∧xs.length≤sizeLine:=by
 rcases h with h|⟨o,its,n,hk,hc,hd,hs,hz,r⟩
 ·obtain⟨z,its,n,r,e⟩:=h.ok I.hok
  exact⟨its,r,⟨_,n,e,rfl,rfl,rfl⟩,z⟩
 ·refine⟨its.toList,r,⟨o,n,I.kIn a o hk,hc,hd,by simpa using hs⟩,?_⟩
  have e:=r.length
  simp only[Array.length_toList]at e
  omega
theorem Inv.tuple(I:Inv X pins σ H s)(h:SqT X.K H a xs):∃its:List Value,Vals xs its∧IsTup s.heap a its.toArray∧xs.length≤sizeLine:=by
 rcases h with h|⟨o,its,n,hk,hc,hs,hz,r⟩
 ·obtain⟨z,its,r,p⟩:=h.ok I.hok
  exact⟨its,r,p,z⟩
 ·refine⟨its.toList,r,⟨o,I.kIn a o hk,hc,n,by simpa using hs⟩,?_⟩
  have e:=r.length
  simp only[Array.length_toList]at e
  omega
theorem Inv.list_inj(I:Inv X pins σ H s)(h:SqL X.K H a xs)(h':SqL X.K H a ys):xs=ys:=by
 obtain⟨its,r,⟨o,n,e,_,_,d⟩,_⟩:=I.list h
 obtain⟨its',r',⟨o',n',e',_,_,d'⟩,_⟩:=I.list h'
 rw[e]at e';cases e'
 rw[d]at d'
 injection d' with d1 _
 have:its=its':=by simpa using congrArg Array.toList d1
 subst this
 exact r.inj r'
theorem Inv.tuple_inj(I:Inv X pins σ H s)(h:SqT X.K H a xs)(h':SqT X.K H a ys):xs=ys:=by
 obtain⟨its,r,⟨o,e,_,n,d⟩,_⟩:=I.tuple h
 obtain⟨its',r',⟨o',e',_,n',d'⟩,_⟩:=I.tuple h'
 rw[e]at e';cases e'
 rw[d]at d'
 injection d' with d1 _
 have:its=its':=by simpa using congrArg Array.toList d1
 subst this
 exact r.inj r'
end
abbrev Cx.wish(X:Cx)(E:Value→Shared→Prop):Cx:={X with xe:=E}
abbrev Cx.nox(X:Cx):Cx:=X.wish fun _ _=>False
theorem Cx.Ok.wish{X:Cx}(ok:X.Ok)(E:Value→Shared→Prop):(X.wish E).Ok:=
 ⟨ok.mod,ok.kind,ok.glob,ok.blt,ok.above,ok.inj,ok.has,ok.cab,ok.hd,ok.frames,ok.stk,ok.exf,ok.bs,ok.bsz,ok.noex,ok.exfs,ok.funs,ok.frf⟩
theorem Cx.Ok.unwish{X:Cx}{E:Value→Shared→Prop}(ok:(X.wish E).Ok):X.Ok:=
 ⟨ok.mod,ok.kind,ok.glob,ok.blt,ok.above,ok.inj,ok.has,ok.cab,ok.hd,ok.frames,ok.stk,ok.exf,ok.bs,ok.bsz,ok.noex,ok.exfs,ok.funs,ok.frf⟩
section
variable{X:Cx}{pins:List (Addr×Obj)}{σ:St}{H:Hp}{s:Shared}{E:Value→Shared→Prop}
theorem Inv.wish(I:Inv X pins σ H s)(E:Value→Shared→Prop):Inv (X.wish E) pins σ H s:=⟨I.ok.wish E,I.os,I.bare,I.base,I.loc,I.cell,I.free,I.freeC,I.pin,I.hok,I.len⟩
theorem Inv.unwish(I:Inv (X.wish E) pins σ H s):Inv X pins σ H s:=⟨I.ok.unwish,I.os,I.bare,I.base,I.loc,I.cell,I.free,I.freeC,I.pin,I.hok,I.len⟩
theorem SP.unwish{D:Ends}{f:Flow}{s':Shared}(h:SP (X.wish E) pins D f s'):SP X pins D f s':=by
 cases f with
 |next=>obtain⟨σ',H',I,q⟩:=h;exact⟨σ',H',I.unwish,q⟩
 |brk=>obtain⟨σ',H',I,q⟩:=h;exact⟨σ',H',I.unwish,q⟩
 |cont=>obtain⟨σ',H',I,q⟩:=h;exact⟨σ',H',I.unwish,q⟩
 |ret u=>obtain⟨v,σ',H',I,r,q⟩:=h;exact⟨v,σ',H',I.unwish,r,q⟩
theorem PSs.nox{st:List Stmt}{t:TS}(h:PSs X.nox st t):PSs X st t:=fun pins s σ H D I hw=>
 wpAny_mono (h pins s σ H D (I.wish _) hw) (fun _ _ q=>q.unwish) fun _ _ z=>False.elim z
end
section
variable{X:Cx}{st:Stmt}{rest:List Stmt}{t u:TS}{e:Expr}{te:TE}{pos:Pos}
noncomputable def tNext:TS:=fun D σ H=>D.nx σ H
noncomputable def tSeq(t u:TS):TS:=fun D σ H=>t {D with nx:=u D} σ H
theorem pss_nil:PSs X [] tNext:=fun _ _ σ H _ I h=>wpAny_execs_nil ⟨σ,H,I,h⟩
theorem pss_cons(h1:PS X st t)(h2:PSs X rest u):PSs X (st::rest) (tSeq t u):=by
 intro pins s σ H D I h
 refine wpAny_execs_cons (thn (h1 pins s σ H {D with nx:=u D} I h) fun f s1 q=>?_)
 cases f with
 |next=>
  obtain⟨σ',H',I',q⟩:=q
  exact h2 pins s1 σ' H' D I' q
 |ret v=>exact q
 |brk=>exact q
 |cont=>exact q
theorem pss_one(h1:PS X st t):PSs X [st] t:=by
 intro pins s σ H D I h
 refine wpAny_execs_cons (thn (h1 pins s σ H D I h) fun f s1 q=>?_)
 cases f with
 |next=>exact wpAny_execs_nil q
 |ret v=>exact q
 |brk=>exact q
 |cont=>exact q
theorem Inv.quiet{pins:List (Addr×Obj)}{σ:St}{H:Hp}{s:Shared}(I:Inv X pins σ H s):interactive X.env=false:=by simp[interactive,I.ok.kind]
noncomputable def tDrop(te:TE):TS:=fun D σ H=>te σ H fun _ H1=>D.nx σ H1
theorem ps_expr(he:PE X e te)(hs:swapsWith e none pos.line X.env=pure false:=by rfl):PS X (.Expr e pos) (tDrop te):=by
 intro pins s σ H D I h
 exact wpAny_Expr_any (thn (he pins s σ H _ I h) fun v s1 ⟨x,H1,I1,r1,q1⟩=>⟨σ,H1,I1,q1⟩) I.quiet hs
noncomputable def tRet(te:TE):TS:=fun D σ H=>te σ H D.rt
theorem ps_ret(he:PE X e te):PS X (.Return (some e) pos) (tRet te):=by
 intro pins s σ H D I h
 exact wpAny_Return_some (thn (he pins s σ H _ I h) fun v s1 ⟨x,H1,I1,r1,q1⟩=>⟨x,σ,H1,I1,r1,q1⟩)
noncomputable def tIfS(c:TT)(t u:TS):TS:=fun D σ H=>c σ H fun b H1=>if b=true then t D σ H1 else u D σ H1
theorem ps_if{c:Expr}{a b:List Stmt}{tc:TT}(hc:PT X c tc)(ha:PSs X a t)(hb:PSs X b u):PS X (.If c a b pos) (tIfS tc t u):=by
 intro pins s σ H D I h
 refine wpAny_If (thn (hc pins s σ H _ I h) fun d s1 ⟨H1,I1,q1⟩=>?_)
 cases d with
 |true=>exact ha pins s1 σ H1 D I1 q1
 |false=>exact hb pins s1 σ H1 D I1 q1
end
abbrev TG:=V→St→Hp→(St→Hp→Prop)→Prop
abbrev TGs:=List V→St→Hp→(St→Hp→Prop)→Prop
noncomputable def PG(X:Cx)(target:Expr)(t:TG):Prop:=
 ∀(pins:List (Addr×Obj)) (s:Shared) (σ:St) (H:Hp) (v:V) (u:Value) (Q:St→Hp→Prop),Inv X pins σ H s→RelV v u→t v σ H Q→
  wpAny (model X.prog X.w) X.A (assign target X.env u) (fun _ s'=>∃σ' H',Inv X pins σ' H' s'∧Q σ' H') X.xe s
noncomputable def PGs(X:Cx)(ts:List Expr)(t:TGs):Prop:=
 ∀(pins:List (Addr×Obj)) (s:Shared) (σ:St) (H:Hp) (vs:List V) (us:List Value) (Q:St→Hp→Prop),Inv X pins σ H s→Vals vs us→t vs σ H Q→
  wpAny (model X.prog X.w) X.A (assignInOrder ((assignEach ts X.env).map (·.2)) us) (fun _ s'=>∃σ' H',Inv X pins σ' H' s'∧Q σ' H') X.xe s
abbrev TSet:=V→V→V→Hp→(Hp→Prop)→Prop
noncomputable def PSet(X:Cx)(t:TSet):Prop:=
 ∀(pins:List (Addr×Obj)) (s:Shared) (σ:St) (H:Hp) (o i v:V) (ov iv u:Value) (Q:Hp→Prop),Inv X pins σ H s→RelV o ov→RelV i iv→RelV v u→t o i v H Q→
  wpAny (model X.prog X.w) X.A (setItem ov iv u) (fun _ s'=>∃H',Inv X pins σ H' s'∧Q H') X.xe s
section
variable{X:Cx}{pos:Pos}
noncomputable def gName(i:Nat):TG:=fun v σ H Q=>Q (σ.set i (some v)) H
theorem pg_name{i:Nat}{x:Str}(hN:X.N.Nodup)(hi:X.N[i]?=some x)(hx:Loc X.env.scope x)(hf:X.fn x=true∨X.env.scope.names.lookup x=some .local :=by first|exact .inl rfl|exact .inr rfl|assumption):PG X (.Name x pos) (gName i):=by
 intro pins s σ H v u Q I r h
 exact wpAny_assign_Name (store_ok I hN hi hx r (fun s' I'=>⟨_,H,I',h⟩) hf)
noncomputable def gNil:TGs:=fun vs σ H Q=>vs=[]∧Q σ H
noncomputable def gCons(t:TG)(u:TGs):TGs:=fun vs σ H Q=>∃v r,vs=v::r∧t v σ H fun σ' H'=>u r σ' H' Q
theorem pgs_nil:PGs X [] gNil:=by
 intro pins s σ H vs us Q I r h
 obtain⟨e,h⟩:=h
 subst e
 cases r
 exact assignInOrder_nil ⟨σ,H,I,h⟩
theorem pgs_cons{e:Expr}{es:List Expr}{t:TG}{u:TGs}(h1:PG X e t)(h2:PGs X es u)
  (hs:(assignEach (e::es) X.env).map (·.2)=assign e X.env::(assignEach es X.env).map (·.2):=by rfl):PGs X (e::es) (gCons t u):=by
 intro pins s σ H vs us Q I r h
 obtain⟨v,vr,e1,h⟩:=h
 subst e1
 cases r with
 |cons r rr=>
  rw[hs]
  refine assignInOrder_cons (thn (h1 pins s σ H _ _ _ I r h) fun _ s1 ⟨σ1,H1,I1,q1⟩=>?_)
  exact h2 pins s1 σ1 H1 _ _ Q I1 rr q1
noncomputable def gTup(K:W.Frag)(n:Nat)(t:TGs):TG:=fun v σ H Q=>∃a xs,v=.ref a∧SqT K H a xs∧xs.length=n∧t xs σ H Q
theorem pg_tup{es:List Expr}{k:Nat}{t:TGs}{n:Nat}(hc:X.calm=true)(h:PGs X es t)
  (hn:(assignEach es X.env).length=n:=by rfl) (hst:(assignEach es X.env).findIdx? (·.1)=none:=by rfl):PG X (.Tuple es k pos) (gTup X.K n t):=by
 intro pins s σ H v u Q I r hw
 obtain⟨a,xs,e1,hq,hl,hw⟩:=hw
 subst e1
 cases r
 obtain⟨its,rv,ht,hz⟩:=I.tuple hq
 refine assign_Tuple_tuple (I.ok.hd hc) ht (by simp[hn,←hl,rv.length]) hst fun h' hx=>?_
 have I1:Inv X pins σ H {s with heap:=h'}:=I.kept (t':=s.toks) fun b o e=>hx b o (Nat.ne_of_lt (Heap.lt_size e)) e
 exact h pins _ σ H xs _ Q I1 (by simpa using rv) hw
noncomputable def gSub(to ti:TE)(t:TSet):TG:=fun v σ H Q=>to σ H fun o H1=>ti σ H1 fun i H2=>t o i v H2 fun H3=>Q σ H3
theorem pg_sub{o i:Expr}{to ti:TE}{t:TSet}(ho:PE X o to)(hi:PE X i ti)(hs:PSet X t)
  (ha:∀v,assign (.Subscript o i pos) X.env v=(do
   let ov←holding [v] (eval o X.env)
   let iv←holding [v,ov] (eval i X.env)
   standAt pos
   holding [v,ov,iv] (setItem ov iv v)
   release [v,ov,iv] []):=by intro _;rfl):PG X (.Subscript o i pos) (gSub to ti t):=by
 intro pins s σ H v u Q I r h
 rw[ha]
 refine wpAny_bind (wpAny_holding (thn (ho pins s σ H _ I h) fun ov s1 ⟨x,H1,I1,r1,q1⟩=>?_))
 refine wpAny_bind (wpAny_holding (thn (hi pins s1 σ H1 _ I1 q1) fun iv s2 ⟨y,H2,I2,r2,q2⟩=>?_))
 refine wpAny_bind (wpAny_standAt (wpAny_bind (wpAny_holding (thn (hs pins s2 σ H2 x y v ov iv u _ I2 r1 r2 r q2) fun _ s3 ⟨H3,I3,q3⟩=>?_))))
 exact wpAny_release ⟨σ,H3,I3,q3⟩
noncomputable def tAsg(te:TE)(g:TG):TS:=fun D σ H=>te σ H fun x H1=>g x σ H1 D.nx
theorem ps_asg{tg e:Expr}{te:TE}{g:TG}(he:PE X e te)(hg:PG X tg g)(hs:swapsWithSole [tg] e pos.line X.env=pure false:=by rfl)(hw:swappedStores [tg] e X.env=pure none:=by rfl)
  (h1:(assignEach [tg] X.env).map (·.2)=[assign tg X.env]:=by rfl):PS X (.Assign [tg] e pos) (tAsg te g):=by
 intro pins s σ H D I h
 refine wpAny_Assign_stores (thn (he pins s σ H _ I h) fun v s1 ⟨x,H1,I1,r1,q1⟩=>?_) hs hw
 rw[h1]
 exact thn (hg pins s1 σ H1 x v _ I1 r1 q1) fun _ s2 q=>q
theorem ps_set{i:Nat}{x:Str}{e:Expr}{te:TE}{pos':Pos}(hN:X.N.Nodup)(hi:X.N[i]?=some x)(hx:Loc X.env.scope x)(he:PE X e te)(hs:swapsWith e (some (.Name x pos')) pos.line X.env=pure false:=by rfl)(hf:X.fn x=true∨X.env.scope.names.lookup x=some .local :=by first|exact .inl rfl|exact .inr rfl|assumption):
  PS X (.Assign [.Name x pos'] e pos) (tAsg te (gName i)):=by
 intro pins s σ H D I h
 refine wpAny_Assign_Name (thn (he pins s σ H _ I h) fun v s1 ⟨y,H1,I1,r1,q1⟩=>?_) hs
 exact store_ok I1 hN hi hx r1 (fun s2 I2=>⟨_,H1,I2,q1⟩) hf
noncomputable def tPar(i j:Nat)(ta:TA):TS:=fun D σ H=>ta σ H fun vs H1=>∃v w,vs=[v,w]∧D.nx ((σ.set i (some v)).set j (some w)) H1
theorem ps_par{i j:Nat}{x y:Str}{a b:Expr}{ta:TA}{px py pt:Pos}{kt k2 pt2}(hc:X.calm=true)(hN:X.N.Nodup)(hi:X.N[i]?=some x)(hj:X.N[j]?=some y)(hij:i≠j)
  (hx:X.env.scope.names.lookup x=some .local) (hy:X.env.scope.names.lookup y=some .local) (ha:PA X [a,b] ta)
  (hw:swappedStores [.Tuple [.Name x px,.Name y py] kt pt] (.Tuple [a,b] k2 pt2) X.env=pure (some [x,y]))
  (hs:swapsWithSole [.Tuple [.Name x px,.Name y py] kt pt] (.Tuple [a,b] k2 pt2) pos.line X.env=pure false:=by rfl):
  PS X (.Assign [.Tuple [.Name x px,.Name y py] kt pt] (.Tuple [a,b] k2 pt2) pos) (tPar i j ta):=by
 intro pins s σ H D I h
 rw[exec_Assign_arm]
 refine wpAny_bind (wpAny_standAt ?_)
 rw[hs]
 refine wpAny_bind (wpAny_pure ?_)
 rw[if_neg (by decide)]
 refine wpAny_bind (Tuple_ (thn (ha _ pins s σ H _ I h) fun us s1 ⟨vs,H1,I1,r1,q1⟩=>?_))
 obtain⟨v,w,e1,q1⟩:=q1
 subst e1
 obtain⟨u1,u2,rfl,rv,rw'⟩:∃u1 u2,us=[u1,u2]∧RelV v u1∧RelV w u2:=by
  cases r1 with
  |cons p q=>
   cases q with
   |cons p' q'=>
    cases q'
    exact⟨_,_,rfl,p,p'⟩
 refine wpAny_newObj_type ?_ (by show 2≤sizeLine;decide)
 have I2:Inv X pins σ H1 {s1 with heap:=s1.heap.push {cls:=.type "tuple",data:=.seq [u1,u2].toArray}}:=I1.kept (t':=s1.toks) fun b o e=>Heap.get?_push_of_some _ e
 rw[hw]
 refine wpAny_bind (wpAny_pure ?_)
 show wpAny (model X.prog X.w) X.A (do rule "assign.swapped-stores";let items←unpackItems (.ref s1.heap.objs.size) 2 none;assignInOrder [fun v=>bindName X.env y v,fun v=>bindName X.env x v] items.reverse;pure Flow.next) _ _ _
 refine wpAny_bind (wpAny_rule (wpAny_bind (unpackItems_tuple (items:= #[u1,u2]) (I.ok.hd hc) (IsTup.new s1.heap _) fun h' hx'=>?_)))
 have I3:=I2.kept (h':=h') (t':=s1.toks) fun b o e=>hx' b o (Nat.ne_of_lt (Heap.lt_size e)) e
 show wpAny _ _ (assignInOrder [fun v=>bindName X.env y v,fun v=>bindName X.env x v] [u2,u1] >>=fun _=>pure Flow.next) _ _ _
 refine wpAny_bind (assignInOrder_cons (wpAny_bindName (store_ok I3 hN hj (.inl hy) rw' (fun s2 I4=>?_) (.inr hy))))
 refine assignInOrder_cons (wpAny_bindName (store_ok I4 hN hi (.inl hx) rv (fun s3 I5=>assignInOrder_nil (wpAny_pure ?_)) (.inr hx)))
 rw[List.set_comm _ _ (Ne.symm hij)]at I5
 exact⟨_,H1,I5,q1⟩
end
section
variable{X:Cx}{pos:Pos}
noncomputable def tWhile(c:TT)(tb:TS):TS:=fun D σ H=>∃W:Nat→St→Hp→Prop,(∃m,W m σ H)∧∀m σ H,W m σ H→
 c σ H fun b H1=>if b=true then ∃N:St→Hp→Prop,(∀σ' H',N σ' H'→∃m',m'<m∧W m' σ' H')∧tb {D with nx:=N,ct:=N,bk:=D.nx} σ H1 else D.nx σ H1
theorem ps_while{c:Expr}{body:List Stmt}{tc:TT}{tb:TS}(hp:PassesOwn (model X.prog X.w) X.A X.env X.xe)(hc:PT X c tc)(hb:PSs X body tb):PS X (.While c body [] pos) (tWhile tc tb):=by
 intro pins s σ H D I h
 obtain⟨W,⟨m0,w0⟩,turn⟩:=h
 refine wpAny_While (codeAny_whileLoop (fun n s'=>∃σ' H',Inv X pins σ' H' s'∧W n σ' H') ?_ m0 ⟨σ,H,I,w0⟩)
 rintro n s1 ⟨σ1,H1,I1,w1⟩
 refine wpAny_passesOwn hp (thn (hc pins s1 σ1 H1 _ I1 (turn n σ1 H1 w1)) fun b s2 ⟨H2,I2,q2⟩=>?_)
 cases b with
 |true=>
  obtain⟨N,hN,q2⟩:=q2
  rw[if_pos rfl]
  refine wpAny_passesOwn hp (thn (hb pins s2 σ1 H2 _ I2 q2) fun f s3 q3=>?_)
  cases f with
  |next=>
   obtain⟨σ3,H3,I3,n3⟩:=q3
   obtain⟨m',hm,w3⟩:=hN σ3 H3 n3
   exact⟨m',hm,σ3,H3,I3,w3⟩
  |cont=>
   obtain⟨σ3,H3,I3,n3⟩:=q3
   obtain⟨m',hm,w3⟩:=hN σ3 H3 n3
   exact⟨m',hm,σ3,H3,I3,w3⟩
  |brk=>exact q3
  |ret v=>exact q3
 |false=>
  rw[if_neg Bool.false_ne_true]
  exact wpAny_execs_nil ⟨σ1,H2,I2,q2⟩
end
set_option genInjectivity false in
structure It where
 go:Nat→Hp→Prop
 yld:Nat→Hp→V→Hp→Prop
 stop:Nat→Hp→Prop
noncomputable def FpOk(X:Cx)(pins:List (Addr×Obj))(H:Hp)(b:Addr):Prop:=
 H b=none∧b≠X.env.locals∧b∉X.fs∧(b∈X.ex∨X.s₀.heap.objs.size≤b)∧(∀x c,X.env.cells.lookup x=some c→c≠b)∧∀p∈X.pn++pins,p.1≠b
theorem Inv.fpOk{X:Cx}{pins:List (Addr×Obj)}{σ:St}{H H':Hp}{s:Shared}{b:Addr}(I:Inv X pins σ H s)(hb:s.heap.objs.size≤b)(hn:H' b=none):FpOk X pins H' b:=by
 refine⟨hn,Nat.ne_of_gt (Nat.lt_of_lt_of_le I.lt hb),I.nofs hb,.inr (Nat.le_trans I.sz hb),fun x c e z=>?_,fun p hp z=>?_⟩
 ·obtain⟨v,q⟩:=I.cell x c e
  exact absurd (Nat.lt_of_lt_of_le q.lt (by rw[z];exact hb)) (Nat.lt_irrefl _)
 ·exact absurd (Nat.lt_of_lt_of_le (Heap.lt_size (I.pin p hp).1) (by rw[z];exact hb)) (Nat.lt_irrefl _)
structure Turn(P:Program)(w:World)(K:W.Frag)(tg:Expr)(J:It)(fp:List Addr)(it:Addr)(tn:Nat→Heap→Prop):Prop where
 mem:it∈fp
 obj:∀i h,tn i h→∀b∈fp,∃o,h.get? b=some o∧∀v,o.data≠ .cell v
 keep:∀i h h',tn i h→(∀b∈fp,∀o,h.get? b=some o→h'.get? b=some o)→tn i h'
 item:∀(X:Cx),X.prog=P→X.w=w→X.K=K→X.calm=true→∀(i:Nat) (pins:List (Addr×Obj)) (s:Shared) (σ:St) (H:Hp) (E:Value→Shared→Prop),Inv X pins σ H s→(∀b∈fp,FpOk X pins H b)→tn i s.heap→J.go i H→
  wpAny (model P w) X.A (pyNext (.ref it)) (fun r s1=>∃u,r=some u∧
   wpAny (model P w) X.A (letOwnedTupleGo tg (.ref it) u) (fun _ s2=>∃x H',Inv X pins σ H' s2∧RelV x u∧J.yld i H x H'∧tn (i+1) s2.heap∧∀b∈fp,H' b=none) E s1) E s
 done:∀(X:Cx),X.prog=P→X.w=w→X.K=K→X.calm=true→∀(i:Nat) (pins:List (Addr×Obj)) (s:Shared) (σ:St) (H:Hp) (E:Value→Shared→Prop),Inv X pins σ H s→(∀b∈fp,FpOk X pins H b)→tn i s.heap→J.stop i H→
  wpAny (model P w) X.A (pyNext (.ref it)) (fun r s1=>r=none∧Inv X pins σ H s1) E s
 self:∀(A:Around) (i:Nat) (s:Shared) (Q:Value→Shared→Prop) (E:Value→Shared→Prop),tn i s.heap→Q (.ref it) s→wpAny (model P w) A (pyIter (.ref it)) Q E s
abbrev TI:=St→Hp→(It→Hp→Prop)→Prop
noncomputable def PIE(X:Cx)(pins:List (Addr×Obj))(σ:St)(tg:Expr)(R:It→Hp→Prop)(itv:Value)(s2:Shared):Prop:=
 ∃(it:Addr) (fp:List Addr) (tn:Nat→Heap→Prop) (J:It) (H':Hp),itv=.ref it∧Inv X pins σ H' s2∧Turn X.prog X.w X.K tg J fp it tn∧tn 0 s2.heap∧(∀b∈fp,FpOk X pins H' b)∧R J H'
noncomputable def PI(X:Cx)(tg iter:Expr)(wi:TI):Prop:=
 ∀(pins:List (Addr×Obj)) (s:Shared) (σ:St) (H:Hp) (R:It→Hp→Prop),Inv X pins σ H s→wi σ H R→
  wpAny (model X.prog X.w) X.A (eval iter X.env) (fun v s1=>wpAny (model X.prog X.w) X.A (pyIter v) (PIE X pins σ tg R) X.xe s1) X.xe s
theorem go_of{M:Model}{A:Around}{E:Value→Shared→Prop}{s:Shared}{tg:Expr}{it:Addr}{u:Value}{o:Obj}{n:String}{vs:Array Value}{Q:Unit→Shared→Prop}(ho:s.heap.get? it=some o)(hc:o.cls=.type n)(hd:o.data=.fields vs)
  (hn:["enumerate","zip","dict_itemiterator","dict_reverseitemiterator","odict_iterator","itertools.zip_longest","itertools.pairwise"].contains n=false) (hQ:Q () s):wpAny M A (letOwnedTupleGo tg (.ref it) u) Q E s:=by
 unfold letOwnedTupleGo
 cases tg<;>first
  |exact wpAny_pure hQ
  |(cases u<;>first
    |exact wpAny_pure hQ
    |(refine wpAny_bind (wpAny_load ho ?_)
      rw[hc,hd]
      show wpAny M A (if(["enumerate","zip","dict_itemiterator","dict_reverseitemiterator","odict_iterator","itertools.zip_longest","itertools.pairwise"].contains n && vs[0]?==some (rawInt _))=true then _ else _) Q E s
      rw[if_neg (by intro h;rw[hn,Bool.false_and]at h;cases h)]
      exact wpAny_pure hQ))
noncomputable def Itl(K:W.Frag)(a:Addr):It:=
 ⟨fun i H=>∃xs x,SqL K H a xs∧xs[i]?=some x,fun i H x H'=>H'=H∧∀xs,SqL K H a xs→xs[i]?=some x,fun i H=>∃xs,SqL K H a xs∧xs.length≤i⟩
noncomputable def Itt(K:W.Frag)(a:Addr):It:=
 ⟨fun i H=>∃xs x,SqT K H a xs∧xs[i]?=some x,fun i H x H'=>H'=H∧∀xs,SqT K H a xs→xs[i]?=some x,fun i H=>∃xs,SqT K H a xs∧xs.length≤i⟩
noncomputable def Itr(lo:Int)(n:Nat):It:=⟨fun i _=>i<n,fun i H x H'=>H'=H∧x=.int (lo+i),fun i _=>n≤i⟩
theorem turn_list{P:Program}{w:World}{K:W.Frag}{tg:Expr}(a it:Addr):Turn P w K tg (Itl K a) [it] it (fun i h=>h.IsListIter it a i) where
 mem:=by simp
 obj:=fun i h st b hb=>by
  have e:b=it:=by simpa using hb
  subst e
  obtain⟨o,e,c,d⟩:=st
  exact⟨o,e,fun v z=>by rw[d]at z;cases z⟩
 keep:=fun i h h' st k=>st.at fun o e=>k it (by simp) o e
 item:=by
  intro X hP hw hK hc i pins s σ H E I hf st hg
  subst hP hw hK
  obtain⟨xs,x,hq,hx⟩:=hg
  obtain⟨its,rv,p,hz⟩:=I.list hq
  obtain⟨u,hu,ru⟩:=rv.get hx
  obtain⟨f0,f1,f2,f3,f4,f5⟩:=hf it (by simp)
  refine wpAny_pyNext_list_item st p.isList (x:=u) (by simpa using hu) fun h' st' sb=>?_
  have I1:Inv X pins σ H {s with heap:=h'}:=I.turned (t':=s.toks) (fun b o hb e=>(sb.2 b hb).trans e) f0 f1 f3 f4 f5
  obtain⟨o,e,c,d⟩:=id st'
  exact⟨u,rfl,go_of (s:={s with heap:=h'}) e c d (by decide) ⟨x,H,I1,ru,⟨rfl,fun ys hy=>by rw[I.list_inj hy hq];exact hx⟩,st',fun b hb=>(hf b hb).1⟩⟩
 done:=by
  intro X hP hw hK hc i pins s σ H E I hf st hg
  subst hP hw hK
  obtain⟨xs,hq,hx⟩:=hg
  obtain⟨its,rv,p,hz⟩:=I.list hq
  obtain⟨f0,f1,f2,f3,f4,f5⟩:=hf it (by simp)
  have hl:=rv.length
  exact wpAny_pyNext_list_end (I.ok.hd hc) st p.isList (by simp;omega) fun h' eb=>⟨rfl,I.turned (t':=s.toks) (fun b o hb e=>eb b o hb e) f0 f1 f3 f4 f5⟩
 self:=fun _ _ _ _ _ st h=>wpAny_pyIter_listiter st h
theorem turn_tuple{P:Program}{w:World}{K:W.Frag}{tg:Expr}(a it:Addr):Turn P w K tg (Itt K a) [it] it (fun i h=>h.IsTupleIter it a i) where
 mem:=by simp
 obj:=fun i h st b hb=>by
  have e:b=it:=by simpa using hb
  subst e
  obtain⟨o,e,c,d⟩:=st
  exact⟨o,e,fun v z=>by rw[d]at z;cases z⟩
 keep:=fun i h h' st k=>st.at fun o e=>k it (by simp) o e
 item:=by
  intro X hP hw hK hc i pins s σ H E I hf st hg
  subst hP hw hK
  obtain⟨xs,x,hq,hx⟩:=hg
  obtain⟨its,rv,p,hz⟩:=I.tuple hq
  obtain⟨u,hu,ru⟩:=rv.get hx
  obtain⟨f0,f1,f2,f3,f4,f5⟩:=hf it (by simp)
  refine wpAny_pyNext_tuple_item st (show s.heap.IsTuple a its.toArray from p) (x:=u) (by simpa using hu) fun h' st' sb=>?_
  have I1:Inv X pins σ H {s with heap:=h'}:=I.turned (t':=s.toks) (fun b o hb e=>(sb.2 b hb).trans e) f0 f1 f3 f4 f5
  obtain⟨o,e,c,d⟩:=id st'
  exact⟨u,rfl,go_of (s:={s with heap:=h'}) e c d (by decide) ⟨x,H,I1,ru,⟨rfl,fun ys hy=>by rw[I.tuple_inj hy hq];exact hx⟩,st',fun b hb=>(hf b hb).1⟩⟩
 done:=by
  intro X hP hw hK hc i pins s σ H E I hf st hg
  subst hP hw hK
  obtain⟨xs,hq,hx⟩:=hg
  obtain⟨its,rv,p,hz⟩:=I.tuple hq
  obtain⟨f0,f1,f2,f3,f4,f5⟩:=hf it (by simp)
  have hl:=rv.length
  exact wpAny_pyNext_tuple_end (I.ok.hd hc) st (show s.heap.IsTuple a its.toArray from p) (by simp;omega) fun h' eb=>⟨rfl,I.turned (t':=s.toks) (fun b o hb e=>eb b o hb e) f0 f1 f3 f4 f5⟩
 self:=fun _ _ _ _ _ st h=>wpAny_pyIter_tupleiter st h
theorem turn_range{P:Program}{w:World}{K:W.Frag}{tg:Expr}(it:Addr)(lo:Int)(n:Nat):Turn P w K tg (Itr lo n) [it] it (fun i h=>IsRangeIter h it (lo+(i:Nat)*1) ((n:Int) - (i:Nat)) 1) where
 mem:=by simp
 obj:=fun i h st b hb=>by
  have e:b=it:=by simpa using hb
  subst e
  exact⟨_,st,fun v z=>by
   have z':Data.fields _=Data.cell v:=z
   cases z'⟩
 keep:=fun i h h' st k=>k it (by simp) _ st
 item:=by
  intro X hP hw hK hc i pins s σ H E I hf st hg
  subst hP hw hK
  obtain⟨f0,f1,f2,f3,f4,f5⟩:=hf it (by simp)
  have W:=Walks.range (prog:=X.prog) (w:=X.w) (I.ok.hd hc) it lo 1 n
  refine W.item i s _ _ hg st fun v h' tk hv st' kk=>?_
  obtain⟨t,rfl⟩:=hv
  have I1:Inv X pins σ H {s with heap:=h',toks:=tk}:=I.turned (fun b o hb e=>kk b o (by simpa using hb) e) f0 f1 f3 f4 f5
  refine⟨_,rfl,go_of (s:={s with heap:=h',toks:=tk}) (n:="range_iterator") st' rfl rfl (by decide) ⟨.int (lo+i),H,I1,⟨t,?_⟩,⟨rfl,rfl⟩,st',fun b hb=>(hf b hb).1⟩⟩
  rw[Int.mul_one]
 done:=by
  intro X hP hw hK hc i pins s σ H E I hf st hg
  subst hP hw hK
  obtain⟨f0,f1,f2,f3,f4,f5⟩:=hf it (by simp)
  exact wpAny_pyNext_range_end (I.ok.hd hc) st (by have:n≤i:=hg;omega) fun h' eb=>⟨rfl,I.turned (t':=s.toks) (fun b o hb e=>eb b o hb e) f0 f1 f3 f4 f5⟩
 self:=fun _ _ _ _ _ st h=>wpAny_pyIter_rangeiter st h
section
variable{X:Cx}{tg:Expr}
noncomputable def iList(K:W.Frag)(tl:TE):TI:=fun σ H R=>tl σ H fun x H1=>∃a,x=.ref a∧(∃xs,SqL K H1 a xs)∧R (Itl K a) H1
noncomputable def iTup(K:W.Frag)(tl:TE):TI:=fun σ H R=>tl σ H fun x H1=>∃a,x=.ref a∧(∃xs,SqT K H1 a xs)∧R (Itt K a) H1
theorem pi_list{l:Expr}{tl:TE}(hl:PE X l tl):PI X tg l (iList X.K tl):=by
 intro pins s σ H R I h
 refine thn (hl pins s σ H _ I h) fun v s1 ⟨x,H1,I1,r1,q1⟩=>?_
 obtain⟨a,e,⟨xs,hq⟩,q⟩:=q1
 subst e
 cases r1
 obtain⟨its,rv,p,hz⟩:=I1.list hq
 refine wpAny_pyIter_list p.isList ?_
 refine⟨s1.heap.objs.size,[s1.heap.objs.size],_,_,H1,rfl,I1.kept (t':=s1.toks) fun b o e=>Heap.get?_push_of_some _ e,turn_list a _,⟨_,Heap.get?_push_size _ rfl,rfl,rfl⟩,fun b hb=>?_,q⟩
 have e:b=s1.heap.objs.size:=by simpa using hb
 subst e
 exact I1.fpOk (Nat.le_refl _) (I1.hok.fresh (Nat.le_refl _))
theorem pi_tup{l:Expr}{tl:TE}(hl:PE X l tl):PI X tg l (iTup X.K tl):=by
 intro pins s σ H R I h
 refine thn (hl pins s σ H _ I h) fun v s1 ⟨x,H1,I1,r1,q1⟩=>?_
 obtain⟨a,e,⟨xs,hq⟩,q⟩:=q1
 subst e
 cases r1
 obtain⟨its,rv,p,hz⟩:=I1.tuple hq
 refine wpAny_pyIter_tuple (show s1.heap.IsTuple a its.toArray from p) ?_
 refine⟨s1.heap.objs.size,[s1.heap.objs.size],_,_,H1,rfl,I1.kept (t':=s1.toks) fun b o e=>Heap.get?_push_of_some _ e,turn_tuple a _,⟨_,Heap.get?_push_size _ rfl,rfl,rfl⟩,fun b hb=>?_,q⟩
 have e:b=s1.heap.objs.size:=by simpa using hb
 subst e
 exact I1.fpOk (Nat.le_refl _) (I1.hok.fresh (Nat.le_refl _))
theorem range_it{pins:List (Addr×Obj)}{σ:St}{H:Hp}{s:Shared}{R:It→Hp→Prop}{E:Value→Shared→Prop}{lo hi:Int}{t u v:Tok}{tk:Nat}(I:Inv X pins σ H s)(h1: -(2 ^ 62)≤lo)(h2:lo<2 ^ 62)(h3: -(2 ^ 62)≤hi)(h4:hi<2 ^ 62)
  (q:R (Itr lo (hi - lo).toNat) H):wpAny (model X.prog X.w) X.A (pyIter (.ref s.heap.objs.size)) (PIE X pins σ tg R) E {s with heap:=s.heap.push {cls:=.type "range",data:=.fields #[.int lo t,.int hi u,.int 1 v]},toks:=tk}:=by
 refine wpAny_pyIter_range (IsRange.new ..) (small_one h1 h2 h3 h4) ?_
 have I1:Inv X pins σ H {s with heap:=s.heap.push {cls:=.type "range",data:=.fields #[.int lo t,.int hi u,.int 1 v]},toks:=tk}:=I.kept fun b o e=>Heap.get?_push_of_some _ e
 refine⟨(s.heap.push {cls:=.type "range",data:=.fields #[.int lo t,.int hi u,.int 1 v]}).objs.size,[(s.heap.push {cls:=.type "range",data:=.fields #[.int lo t,.int hi u,.int 1 v]}).objs.size],_,_,H,rfl,
  I1.kept (t':=tk) fun b o e=>Heap.get?_push_of_some _ e,turn_range _ lo (hi - lo).toNat,?_,fun b hb=>?_,q⟩
 ·have e1:lo+((0:Nat):Int)*1=lo:=by simp
  have e2:(((hi - lo).toNat:Nat):Int) - ((0:Nat):Int)=Builtin.Range.rangeSize lo hi 1:=by rw[rangeSize_one];split<;>omega
  show IsRangeIter _ _ (lo+((0:Nat):Int)*1) ((((hi - lo).toNat:Nat):Int) - ((0:Nat):Int)) 1
  rw[e1,e2]
  exact Heap.get?_push_size _ rfl
 ·have e:b=(s.heap.push {cls:=.type "range",data:=.fields #[.int lo t,.int hi u,.int 1 v]}).objs.size:=by simpa using hb
  subst e
  exact I1.fpOk (Nat.le_refl _) (I1.hok.fresh (Nat.le_refl _))
noncomputable def iRng1(ta:TA):TI:=fun σ H R=>ta σ H fun vs H1=>∃j:Int,vs=[.int j]∧ -(2 ^ 62)≤j∧j<2 ^ 62∧R (Itr 0 j.toNat) H1
noncomputable def iRng2(ta:TA):TI:=fun σ H R=>ta σ H fun vs H1=>∃i j:Int,vs=[.int i,.int j]∧(-(2 ^ 62)≤i∧i<2 ^ 62∧ -(2 ^ 62)≤j∧j<2 ^ 62)∧R (Itr i (j - i).toNat) H1
theorem pi_range1{a:Expr}{ta:TA}{p pos:Pos}(hg:Gl X "range")(hm:X.mg "range"=none)(ha:PA X [a] ta)(hs:starEach [a] X.env=[(false,eval a X.env)]:=by rfl):PI X tg (.Call (.Name "range" p) [a] [] pos) (iRng1 ta):=by
 intro pins s σ H R I h
 refine Call_ (ld_blt I hg hm boot_range (PyProof.Rows.callWith_type1 (thn (ha pos pins s σ H _ I h) fun us s1 ⟨vs,H1,I1,r1,q1⟩=>?_) hs rfl))
 obtain⟨j,e,q1,q2,q⟩:=q1
 subst e
 cases r1 with
 |cons r rr=>
  cases rr
  obtain⟨t,rfl⟩:=r
  exact call_range_1 (range_it I1 (by omega) (by omega) q1 q2 (by simpa using q))
theorem pi_range2{a b:Expr}{ta:TA}{p pos:Pos}(hg:Gl X "range")(hm:X.mg "range"=none)(ha:PA X [a,b] ta)(hs:starEach [a,b] X.env=[(false,eval a X.env),(false,eval b X.env)]:=by rfl)(hs2:starEach [b] X.env=[(false,eval b X.env)]:=by rfl):
  PI X tg (.Call (.Name "range" p) [a,b] [] pos) (iRng2 ta):=by
 intro pins s σ H R I h
 refine Call_ (ld_blt I hg hm boot_range (PyProof.Rows.callWith_type1 (thn (ha pos pins s σ H _ I h) fun us s1 ⟨vs,H1,I1,r1,q1⟩=>?_) (by rw[hs,hs2]) (by rw[hs2];rfl)))
 obtain⟨i,j,e,⟨q1,q2,q3,q4⟩,q⟩:=q1
 subst e
 cases r1 with
 |cons r rr=>
  cases rr with
  |cons r' rr=>
   cases rr
   obtain⟨t,rfl⟩:=r
   obtain⟨t',rfl⟩:=r'
   exact call_range_2 (range_it I1 q1 q2 q3 q4 q)
noncomputable def tFor(wi:TI)(g:TG)(tb:TS):TS:=fun D σ H=>wi σ H fun J H1=>∃W:Nat→Nat→St→Hp→Prop,(∃m,W 0 m σ H1)∧∀i m σ H,W i m σ H→
 (J.stop i H∧D.nx σ H)∨(J.go i H∧∃N:St→Hp→Prop,(∀σ' H',N σ' H'→∃m',m'<m∧W (i+1) m' σ' H')∧∀x H',J.yld i H x H'→g x σ H' fun σ2 H2=>tb {D with nx:=N,ct:=N,bk:=D.nx} σ2 H2)
noncomputable def pinsAt(fp:List Addr)(h:Heap):List (Addr×Obj):=fp.filterMap fun b=>(h.get? b).map fun o=>(b,o)
theorem mem_pinsAt{fp:List Addr}{h:Heap}{b:Addr}{o:Obj}(hb:b∈fp)(e:h.get? b=some o):(b,o)∈pinsAt fp h:=List.mem_filterMap.mpr ⟨b,hb,by rw[e];rfl⟩
theorem of_pinsAt{fp:List Addr}{h:Heap}{p:Addr×Obj}(hp:p∈pinsAt fp h):p.1∈fp∧h.get? p.1=some p.2:=by
 obtain⟨b,hb,e⟩:=List.mem_filterMap.mp hp
 cases q:h.get? b with
 |none=>rw[q]at e;cases e
 |some o=>
  rw[q]at e
  have e':(b,o)=p:=Option.some.inj e
  subst e'
  exact⟨hb,q⟩
theorem Inv.pinned{pins:List (Addr×Obj)}{σ:St}{H:Hp}{s:Shared}{fp:List Addr}(I:Inv X pins σ H s)(hf:∀b∈fp,FpOk X pins H b)(ho:∀b∈fp,∃o,s.heap.get? b=some o∧∀v,o.data≠ .cell v):Inv X (pins++pinsAt fp s.heap) σ H s:=
 I.pins_of fun p hp=>(List.mem_append.mp hp).elim (fun z=>I.pin p (List.mem_append_right _ z)) fun z=>by
  obtain⟨hb,e⟩:=of_pinsAt z
  obtain⟨f0,f1,f2,_⟩:=hf p.1 hb
  obtain⟨o,e',d⟩:=ho p.1 hb
  rw[e]at e';cases e'
  exact⟨e,f0,f1,f2,d⟩
theorem Inv.unpinned{pins pl:List (Addr×Obj)}{σ:St}{H:Hp}{s:Shared}(I:Inv X (pins++pl) σ H s):Inv X pins σ H s:=I.pins_of fun p hp=>I.pin p (List.mem_append_right _ (List.mem_append_left _ hp))
theorem ps_for{iter:Expr}{body:List Stmt}{wi:TI}{g:TG}{tb:TS}{pos:Pos}(hp:PassesOwn (model X.prog X.w) X.A X.env X.xe)(hc:X.calm=true)(hi:PI X tg iter wi)(hg:PG X tg g)(hb:PSs X body tb)
  (hs:∀x,foldedSetIterable iter X.env x=pure x:=by intro _;rfl):PS X (.For tg iter body [] pos) (tFor wi g tb):=by
 intro pins s σ H D I h
 refine wpAny_For (thn (hi pins s σ H _ I h) fun v s1 h1=>thn h1 fun itv s2 h2=>?_) hs
 obtain⟨it,fp,tn,J,H2,e,I2,T,st2,f2,W,⟨m0,w0⟩,turn⟩:=h2
 subst e
 have stat:∀{H':Hp},(∀b∈fp,H' b=none)→∀b∈fp,FpOk X pins H' b:=fun hn b hb=>⟨hn b hb,(f2 b hb).2⟩
 refine codeAny_forLoop_any (fun n s'=>∃i σ' H',Inv X pins σ' H' s'∧tn i s'.heap∧(∀b∈fp,H' b=none)∧W i n σ' H') ?_ m0 ⟨0,σ,H2,I2,st2,fun b hb=>(f2 b hb).1,w0⟩
 rintro n s3 ⟨i,σ3,H3,I3,st3,fr3,w3⟩
 rcases turn i n σ3 H3 w3 with⟨stop,qn⟩|⟨go,N,hN,step⟩
 ·refine wpAny_passesOwn hp (thn (T.done X rfl rfl rfl hc i pins s3 σ3 H3 X.xe I3 (stat fr3) st3 stop) fun r s4 ⟨hr,I4⟩=>?_)
  subst hr
  exact wpAny_execs_nil ⟨σ3,H3,I4,qn⟩
 ·refine wpAny_passesOwn hp (thn (T.item X rfl rfl rfl hc i pins s3 σ3 H3 X.xe I3 (stat fr3) st3 go) fun r s4 ⟨u,hr,h4⟩=>?_)
  subst hr
  refine wpAny_passesOwn hp (thn h4 fun _ s5 ⟨x,H5,I5,r5,y5,st5,fr5⟩=>?_)
  have I5':=I5.pinned (stat fr5) (T.obj _ _ st5)
  refine wpAny_passesOwn hp (thn (hg _ s5 σ3 H5 x u _ I5' r5 (step x H5 y5)) fun _ s6 ⟨σ6,H6,I6,q6⟩=>?_)
  refine wpAny_passesOwn hp (thn (hb _ s6 σ6 H6 _ I6 q6) fun f s7 q7=>?_)
  have again:∀{σ7:St} {H7:Hp},Inv X (pins++pinsAt fp s5.heap) σ7 H7 s7→N σ7 H7→∃m,m<n∧∃i σ' H',Inv X pins σ' H' s7∧tn i s7.heap∧(∀b∈fp,H' b=none)∧W i m σ' H':=fun{σ7 H7} I7 n7=>by
   obtain⟨m',hm,w7⟩:=hN σ7 H7 n7
   refine⟨m',hm,i+1,σ7,H7,I7.unpinned,T.keep _ _ _ st5 fun b hb o e=>(I7.pin (b,o) (List.mem_append_right _ (List.mem_append_right _ (mem_pinsAt hb e)))).1,fun b hb=>?_,w7⟩
   obtain⟨o,e,d⟩:=T.obj _ _ st5 b hb
   exact(I7.pin (b,o) (List.mem_append_right _ (List.mem_append_right _ (mem_pinsAt hb e)))).2.1
  cases f with
  |next=>obtain⟨σ7,H7,I7,n7⟩:=q7;exact again I7 n7
  |cont=>obtain⟨σ7,H7,I7,n7⟩:=q7;exact again I7 n7
  |brk=>obtain⟨σ7,H7,I7,q7⟩:=q7;exact⟨σ7,H7,I7.unpinned,q7⟩
  |ret v=>obtain⟨x7,σ7,H7,I7,r7,q7⟩:=q7;exact⟨x7,σ7,H7,I7.unpinned,r7,q7⟩
end
theorem while_by{c:TT}{tb:TS}{D:Ends}{σ:St}{H:Hp}(Pv:St→Hp→Prop)(μ:St→Hp→Nat)(h0:Pv σ H)
  (hs:∀σ H,Pv σ H→c σ H fun b H1=>if b=true then tb {D with nx:=fun σ' H'=>Pv σ' H'∧μ σ' H'<μ σ H,ct:=fun σ' H'=>Pv σ' H'∧μ σ' H'<μ σ H,bk:=D.nx} σ H1 else D.nx σ H1)
  (mono:∀σ H Q Q',(∀b H1,Q b H1→Q' b H1)→c σ H Q→c σ H Q'):tWhile c tb D σ H:=by
 refine⟨fun m σ H=>m=μ σ H∧Pv σ H,⟨_,rfl,h0⟩,?_⟩
 rintro m σ H ⟨rfl,p⟩
 refine mono σ H _ _ (fun b H1 q=>?_) (hs σ H p)
 cases b with
 |true=>exact⟨_,fun σ' H' ⟨p',l⟩=>⟨_,l,rfl,p'⟩,q⟩
 |false=>exact q
abbrev R2:=V→V→Hp→VK→Prop
noncomputable def OpR(X:Cx)(f:Value→Value→Sem Value)(r:R2):Prop:=
 ∀(pins:List (Addr×Obj)) (s:Shared) (σ:St) (H:Hp) (x y:V) (v u:Value) (Q:VK),Inv X pins σ H s→RelV x v→RelV y u→r x y H Q→
  wpAny (model X.prog X.w) X.A (f v u) (EP X pins σ Q) X.xe s
noncomputable def CallR(X:Cx)(f:Value)(r:List V→Hp→VK→Prop):Prop:=
 ∀(pins:List (Addr×Obj)) (s:Shared) (σ:St) (H:Hp) (xs:List V) (us:List Value) (Q:VK),Inv X pins σ H s→Vals xs us→r xs H Q→
  wpAny (model X.prog X.w) X.A (call f us) (EP X pins σ Q) X.xe s
noncomputable def tOp(r:R2)(ta tb:TE):TE:=fun σ H Q=>ta σ H fun x H1=>tb σ H1 fun y H2=>r x y H2 Q
noncomputable def rI(C:Int→Int→Prop)(g:Int→Int→V):R2:=fun x y H Q=>∃i j,x=.int i∧y=.int j∧C i j∧Q (g i j) H
noncomputable def rI0(g:Int→Int→V):R2:=fun x y H Q=>∃i j,x=.int i∧y=.int j∧Q (g i j) H
section
variable{X:Cx}{a b c:Expr}{ta tb tc:TE}{pos:Pos}
theorem binT(ha:PE X a ta)(hb:PE X b tb){pins:List (Addr×Obj)}{s:Shared}{σ:St}{H:Hp}{R:V→V→Hp→Prop}(I:Inv X pins σ H s)
  (h:ta σ H fun x H1=>tb σ H1 fun y H2=>R x y H2) {Q:Value→Shared→Prop} {f:Value→Value→Sem Value}
  (hf:∀v u s2 x y H2,Inv X pins σ H2 s2→RelV x v→RelV y u→R x y H2→wpAny (model X.prog X.w) X.A (f v u) Q X.xe s2):
  wpAny (model X.prog X.w) X.A (eval a X.env) (fun v s₁=>wpAny (model X.prog X.w) X.A (eval b X.env) (fun u s₂=>wpAny (model X.prog X.w) X.A (f v u) Q X.xe s₂) X.xe s₁) X.xe s:=by
 refine thn (ha pins s σ H _ I h) fun v s1 ⟨x,H1,I1,r1,q1⟩=>?_
 refine thn (hb pins s1 σ H1 _ I1 q1) fun u s2 ⟨y,H2,I2,r2,q2⟩=>?_
 exact hf v u s2 x y H2 I2 r1 r2 q2
theorem pe_op{op:Operator}{r:R2}(ho:OpR X (binaryOp op) r)(ha:PE X a ta)(hb:PE X b tb):PE X (.BinOp a op b pos) (tOp r ta tb):=by
 intro pins s σ H Q I h
 exact wpAny_BinOp (binT ha hb I h fun v u s2 x y H2 I2 rx ry q=>ho pins s2 σ H2 x y v u Q I2 rx ry q)
theorem opI{f:Value→Value→Sem Value}{C:Int→Int→Prop}{g:Int→Int→Int}
  (rule:∀(i j:Int) (t u:Tok) (s:Shared) (Q:Value→Shared→Prop) (E:Value→Shared→Prop),C i j→Q (.int (g i j) s.toks) {s with toks:=s.toks+1}→wpAny (model X.prog X.w) X.A (f (.int i t) (.int j u)) Q E s):
  OpR X f (rI C fun i j=>.int (g i j)):=by
 intro pins s σ H x y v u Q I rx ry h
 obtain⟨i,j,rfl,rfl,hc,q⟩:=h
 obtain⟨t,rfl⟩:=rx
 obtain⟨t',rfl⟩:=ry
 exact rule i j t t' s _ _ hc ⟨.int (g i j),H,I.tok _,⟨_,rfl⟩,q⟩
theorem opI0{f:Value→Value→Sem Value}{g:Int→Int→Int}
  (rule:∀(i j:Int) (t u:Tok) (s:Shared) (Q:Value→Shared→Prop) (E:Value→Shared→Prop),Q (.int (g i j) s.toks) {s with toks:=s.toks+1}→wpAny (model X.prog X.w) X.A (f (.int i t) (.int j u)) Q E s):
  OpR X f (rI0 fun i j=>.int (g i j)):=by
 intro pins s σ H x y v u Q I rx ry h
 obtain⟨i,j,rfl,rfl,q⟩:=h
 obtain⟨t,rfl⟩:=rx
 obtain⟨t',rfl⟩:=ry
 exact rule i j t t' s _ _ ⟨.int (g i j),H,I.tok _,⟨_,rfl⟩,q⟩
theorem opB0{f:Value→Value→Sem Value}{g:Int→Int→Bool}
  (rule:∀(i j:Int) (t u:Tok) (s:Shared) (Q:Value→Shared→Prop) (E:Value→Shared→Prop),Q (.bool (g i j)) s→wpAny (model X.prog X.w) X.A (f (.int i t) (.int j u)) Q E s):
  OpR X f (rI0 fun i j=>.bl (g i j)):=by
 intro pins s σ H x y v u Q I rx ry h
 obtain⟨i,j,rfl,rfl,q⟩:=h
 obtain⟨t,rfl⟩:=rx
 obtain⟨t',rfl⟩:=ry
 exact rule i j t t' s _ _ ⟨.bl (g i j),H,I,rfl,q⟩
noncomputable def CDiv(i j:Int):Prop:=0<j∧j<1073741824
noncomputable def CPow(i j:Int):Prop:=0≤j∧j≤1000000∧i.natAbs<2 ^ 64
noncomputable def CMul(i j:Int):Prop:=(-(2 ^ 64)<i∧i<2 ^ 64)∨(-(2 ^ 64)<j∧j<2 ^ 64)
theorem CMul.ok{i j:Int}(h:CMul i j):IntMulOk i j:=by
 rcases h with⟨h1,h2⟩|⟨h1,h2⟩
 ·exact .of_left (intBits_le_64 h1 h2)
 ·exact .of_right (intBits_le_64 h1 h2)
theorem op_add:OpR X (binaryOp .Add) (rI0 fun i j=>.int (i+j)):=opI0 fun _ _ _ _ _ _ _ q=>add_int q
theorem op_sub:OpR X (binaryOp .Sub) (rI0 fun i j=>.int (i - j)):=opI0 fun _ _ _ _ _ _ _ q=>sub_int q
theorem op_mul:OpR X (binaryOp .Mult) (rI CMul fun i j=>.int (i*j)):=opI fun _ _ _ _ _ _ _ hc q=>mul_int q hc.ok
theorem op_fdiv:OpR X (binaryOp .FloorDiv) (rI CDiv fun i j=>.int (i / j)):=opI fun i j _ _ _ _ _ hc q=>by
 have h1:(0:Int)<j:=hc.1
 have h2:j<1073741824:=hc.2
 exact floordiv_int (by omega) (by rw[Int.fdiv_eq_ediv_of_nonneg i (by omega)];exact q) (.inl (PyProof.noPylong_small (by omega)))
theorem op_mod:OpR X (binaryOp .Mod) (rI (fun _ j=>0<j) fun i j=>.int (i % j)):=opI fun i j _ _ _ _ _ hc q=>by
 have h1:(0:Int)<j:=hc
 exact mod_int' (by omega) (by rw[Int.fmod_eq_emod_of_nonneg i (by omega)];exact q)
theorem op_pow:OpR X (binaryOp .Pow) (rI CPow fun i j=>.int (i ^ j.toNat)):=opI fun _ _ _ _ _ _ _ hc q=>pow_int_small hc.1 hc.2.1 hc.2.2 q
end
noncomputable def scal:V→V→Bool
 |.non,.non=>true|.non,.int _=>true|.int _,.non=>true|.non,.bl _=>true|.bl _,.non=>true|.non,.str _=>true|.str _,.non=>true
 |.int _,.int _=>true|.bl _,.bl _=>true|.str _,.str _=>true|.byt _,.byt _=>true
 |.int _,.str _=>true|.str _,.int _=>true|.bl _,.str _=>true|.str _,.bl _=>true
 |_,_=>false
noncomputable def rEq:R2:=fun x y H Q=>scal x y=true∧Q (.bl (decide (x=y))) H
noncomputable def rNe:R2:=fun x y H Q=>scal x y=true∧Q (.bl (!decide (x=y))) H
theorem dec_int{i j:Int}:decide (V.int i=V.int j)=(i==j):=by
 rw[Bool.eq_iff_iff]
 simp
theorem dec_bl{i j:Bool}:decide (V.bl i=V.bl j)=(i==j):=by
 rw[Bool.eq_iff_iff]
 simp
theorem dec_str{i j:Str}:decide (V.str i=V.str j)=(i==j):=by
 rw[Bool.eq_iff_iff]
 simp
theorem dec_byt{i j:Array UInt8}:decide (V.byt i=V.byt j)=(i.toList==j.toList):=by
 rw[Bool.eq_iff_iff]
 cases i
 cases j
 simp
section
variable{X:Cx}{a b c:Expr}{ta tb tc:TE}{pos:Pos}
theorem fin_bl{pins:List (Addr×Obj)}{σ:St}{H:Hp}{s:Shared}{Q:VK}{k k':Bool}(I:Inv X pins σ H s)(q:Q (.bl k) H)(e:k=k'):EP X pins σ Q (.bool k') s:=by
 subst e
 exact⟨.bl k,H,I,rfl,q⟩
theorem op_eq:OpR X (compareOp .Eq) rEq:=by
 intro pins s σ H x y v u Q I rx ry h
 obtain⟨hs,q⟩:=h
 cases x with
 |non=>
  cases rx
  cases y with
  |non=>cases ry;exact EqNone.eq_none_none (fin_bl I q (by simp))
  |bl j=>cases ry;exact EqNone.eq_none_bool (fin_bl I q (by simp))
  |int j=>obtain⟨t',rfl⟩:=ry;exact EqNone.eq_none_int (fin_bl I q (by simp))
  |str j=>obtain⟨t',rfl⟩:=ry;exact EqNone.eq_none_str (fin_bl I q (by simp))
  |_=>exact absurd (show false=true from hs) Bool.false_ne_true
 |bl i=>
  cases rx
  cases y with
  |non=>cases ry;exact EqNone.eq_bool_none (fin_bl I q (by simp))
  |bl j=>cases ry;exact eq_bool (fin_bl I q dec_bl)
  |str j=>obtain⟨t',rfl⟩:=ry;exact EqMixed.eq_bool_str (fin_bl I q (by simp))
  |_=>exact absurd (show false=true from hs) Bool.false_ne_true
 |int i=>
  obtain⟨t,rfl⟩:=rx
  cases y with
  |non=>cases ry;exact EqNone.eq_int_none (fin_bl I q (by simp))
  |int j=>obtain⟨t',rfl⟩:=ry;exact eq_int (fin_bl I q dec_int)
  |str j=>obtain⟨t',rfl⟩:=ry;exact EqMixed.eq_int_str (fin_bl I q (by simp))
  |_=>exact absurd (show false=true from hs) Bool.false_ne_true
 |str i=>
  obtain⟨t,rfl⟩:=rx
  cases y with
  |non=>cases ry;exact EqNone.eq_str_none (fin_bl I q (by simp))
  |bl j=>cases ry;exact EqMixed.eq_str_bool (fin_bl I q (by simp))
  |int j=>obtain⟨t',rfl⟩:=ry;exact EqMixed.eq_str_int (fin_bl I q (by simp))
  |str j=>obtain⟨t',rfl⟩:=ry;exact eq_str (fin_bl I q dec_str)
  |_=>exact absurd (show false=true from hs) Bool.false_ne_true
 |byt i=>
  obtain⟨t,rfl⟩:=rx
  cases y with
  |byt j=>obtain⟨t',rfl⟩:=ry;exact W.eq_bytes (fin_bl I q dec_byt)
  |_=>exact absurd (show false=true from hs) Bool.false_ne_true
 |_=>cases y<;>exact absurd (show false=true from hs) Bool.false_ne_true
theorem op_ne:OpR X (compareOp .NotEq) rNe:=by
 intro pins s σ H x y v u Q I rx ry h
 obtain⟨hs,q⟩:=h
 cases x with
 |non=>
  cases rx
  cases y with
  |non=>cases ry;exact EqNone.ne_none_none (fin_bl I q (by simp))
  |bl j=>cases ry;exact EqNone.ne_none_bool (fin_bl I q (by simp))
  |int j=>obtain⟨t',rfl⟩:=ry;exact EqNone.ne_none_int (fin_bl I q (by simp))
  |str j=>obtain⟨t',rfl⟩:=ry;exact EqNone.ne_none_str (fin_bl I q (by simp))
  |_=>exact absurd (show false=true from hs) Bool.false_ne_true
 |bl i=>
  cases rx
  cases y with
  |non=>cases ry;exact EqNone.ne_bool_none (fin_bl I q (by simp))
  |bl j=>cases ry;exact ne_bool (fin_bl I q (congrArg not dec_bl))
  |str j=>obtain⟨t',rfl⟩:=ry;exact EqMixed.ne_bool_str (fin_bl I q (by simp))
  |_=>exact absurd (show false=true from hs) Bool.false_ne_true
 |int i=>
  obtain⟨t,rfl⟩:=rx
  cases y with
  |non=>cases ry;exact EqNone.ne_int_none (fin_bl I q (by simp))
  |int j=>obtain⟨t',rfl⟩:=ry;exact ne_int (fin_bl I q (congrArg not dec_int))
  |str j=>obtain⟨t',rfl⟩:=ry;exact EqMixed.ne_int_str (fin_bl I q (by simp))
  |_=>exact absurd (show false=true from hs) Bool.false_ne_true
 |str i=>
  obtain⟨t,rfl⟩:=rx
  cases y with
  |non=>cases ry;exact EqNone.ne_str_none (fin_bl I q (by simp))
  |bl j=>cases ry;exact EqMixed.ne_str_bool (fin_bl I q (by simp))
  |int j=>obtain⟨t',rfl⟩:=ry;exact EqMixed.ne_str_int (fin_bl I q (by simp))
  |str j=>obtain⟨t',rfl⟩:=ry;exact ne_str (fin_bl I q (congrArg not dec_str))
  |_=>exact absurd (show false=true from hs) Bool.false_ne_true
 |byt i=>
  obtain⟨t,rfl⟩:=rx
  cases y with
  |byt j=>obtain⟨t',rfl⟩:=ry;exact W.ne_bytes (fin_bl I q (congrArg not dec_byt))
  |_=>exact absurd (show false=true from hs) Bool.false_ne_true
 |_=>cases y<;>exact absurd (show false=true from hs) Bool.false_ne_true
theorem op_lt:OpR X (compareOp .Lt) (rI0 fun i j=>.bl (decide (i<j))):=opB0 fun _ _ _ _ _ _ _ q=>lt_int q
theorem op_le:OpR X (compareOp .LtE) (rI0 fun i j=>.bl (decide (i≤j))):=opB0 fun _ _ _ _ _ _ _ q=>le_int q
theorem op_gt:OpR X (compareOp .Gt) (rI0 fun i j=>.bl (decide (j<i))):=opB0 fun _ _ _ _ _ _ _ q=>gt_int q
theorem op_ge:OpR X (compareOp .GtE) (rI0 fun i j=>.bl (decide (j≤i))):=opB0 fun _ _ _ _ _ _ _ q=>ge_int q
theorem OpR.or{f:Value→Value→Sem Value}{r r':R2}(h:OpR X f r)(h':OpR X f r'):OpR X f (fun x y H Q=>r x y H Q∨r' x y H Q):=by
 intro pins s σ H x y v u Q I rx ry q
 rcases q with q|q
 ·exact h pins s σ H x y v u Q I rx ry q
 ·exact h' pins s σ H x y v u Q I rx ry q
theorem nomark(b:Expr){op:CmpOp}(h:op≠ .In:=by decide)(h2:op≠ .NotIn:=by decide):behindInMarks op b=false:=by
 have e1:(op==CmpOp.In)=false:=by cases op<;>first|rfl|exact absurd rfl h
 have e2:(op==CmpOp.NotIn)=false:=by cases op<;>first|rfl|exact absurd rfl h2
 cases b<;>simp[behindInMarks,e1,e2]
theorem pe_cmpR{op:CmpOp}{r:R2}(ho:OpR X (compareOp op) r)(ha:PE X a ta)(hb:PE X b tb)(hm:behindInMarks op b=false):PE X (.Compare a [op] [b] pos) (tOp r ta tb):=by
 intro pins s σ H Q I h
 exact wpAny_Compare1 (binT ha hb I h fun v u s2 x y H2 I2 rx ry q=>ho pins s2 σ H2 x y v u Q I2 rx ry q) hm
noncomputable def tTest(t:TE):TT:=fun σ H Q=>t σ H fun x H'=>∃k,x=.bl k∧Q k H'
theorem pt_cmpR{op:CmpOp}{r:R2}(ho:OpR X (compareOp op) r)(ha:PE X a ta)(hb:PE X b tb)(hm:behindInMarks op b=false):PT X (.Compare a [op] [b] pos) (tTest (tOp r ta tb)):=by
 intro pins s σ H Q I h
 refine wpAny_isTrue_Compare1 (thn (ha pins s σ H _ I h) fun v s1 ⟨x,H1,I1,r1,q1⟩=>thn (hb pins s1 σ H1 _ I1 q1) fun u s2 ⟨y,H2,I2,r2,q2⟩=>
  thn (ho pins s2 σ H2 x y v u _ I2 r1 r2 q2) fun c s3 ⟨z,H3,I3,r3,k,e,q3⟩=>?_) hm
 subst e
 cases r3
 exact wpAny_truthy_bool ⟨H3,I3,q3⟩
noncomputable def tChain(r r':R2)(ta tb tc:TE):TE:=fun σ H Q=>ta σ H fun x H1=>tb σ H1 fun y H2=>r x y H2 fun z H3=>∃k,z=.bl k∧
 (if k=true then tc σ H3 fun w' H4=>r' y w' H4 Q else Q (.bl false) H3)
theorem pe_chain{op op':CmpOp}{r r':R2}(ho:OpR X (compareOp op) r)(ho':OpR X (compareOp op') r')(ha:PE X a ta)(hb:PE X b tb)(hc:PE X c tc)
  (hm:lastMarks [op,op'] [b,c]=false:=by with_unfolding_all rfl):PE X (.Compare a [op,op'] [b,c] pos) (tChain r r' ta tb tc):=by
 intro pins s σ H Q I h
 refine Compare_chain (thn (ha pins s σ H _ I h) fun v s1 ⟨x,H1,I1,r1,q1⟩=>chain_link (thn (hb pins s1 σ H1 _ I1 q1) fun u s2 ⟨y,H2,I2,r2,q2⟩=>
  thn (ho pins s2 σ H2 x y v u _ I2 r1 r2 q2) fun d s3 ⟨z,H3,I3,r3,k,e,q3⟩=>?_)) hm
 subst e
 cases r3
 refine wpAny_truthy_bool ?_
 cases k with
 |false=>exact ite_ff ⟨.bl false,H3,I3,rfl,q3⟩
 |true=>exact ite_tt (chain_last (thn (hc pins s3 σ H3 _ I3 q3) fun w' s4 ⟨z',H4,I4,r4,q4⟩=>ho' pins s4 σ H4 y z' u w' Q I4 r2 r4 q4))
theorem pt_chain{op op':CmpOp}{r r':R2}(ho:OpR X (compareOp op) r)(ho':OpR X (compareOp op') r')(ha:PE X a ta)(hb:PE X b tb)(hc:PE X c tc)
  (hm:lastMarks [op,op'] [b,c]=false:=by with_unfolding_all rfl):PT X (.Compare a [op,op'] [b,c] pos) (tTest (tChain r r' ta tb tc)):=by
 intro pins s σ H Q I h
 refine isTrue_chain (thn (ha pins s σ H _ I h) fun v s1 ⟨x,H1,I1,r1,q1⟩=>test_link (thn (hb pins s1 σ H1 _ I1 q1) fun u s2 ⟨y,H2,I2,r2,q2⟩=>
  thn (ho pins s2 σ H2 x y v u _ I2 r1 r2 q2) fun d s3 ⟨z,H3,I3,r3,k,e,q3⟩=>?_)) hm
 subst e
 cases r3
 refine wpAny_truthy_bool ?_
 cases k with
 |false=>
  obtain⟨k',e',q'⟩:=q3
  cases e'
  exact ite_ff ⟨H3,I3,q'⟩
 |true=>
  refine ite_tt (test_last (thn (hc pins s3 σ H3 _ I3 q3) fun w' s4 ⟨z',H4,I4,r4,q4⟩=>thn (ho' pins s4 σ H4 y z' u w' _ I4 r2 r4 q4) fun d' s5 ⟨z2,H5,I5,r5,k2,e2,q5⟩=>?_))
  subst e2
  cases r5
  exact wpAny_truthy_bool ⟨H5,I5,q5⟩
theorem line63:(sizeLine:Nat)<2 ^ 63:=by rw[sizeLine_eq];decide
theorem vals1{x:V}{us:List Value}(r:Vals [x] us):∃u,us=[u]∧RelV x u:=by
 cases r with
 |cons r1 r2=>cases r2;exact⟨_,rfl,r1⟩
theorem vals2{x y:V}{us:List Value}(r:Vals [x,y] us):∃u w',us=[u,w']∧RelV x u∧RelV y w':=by
 cases r with
 |cons r1 r2=>
  cases r2 with
  |cons r3 r4=>cases r4;exact⟨_,_,rfl,r1,r3⟩
theorem call_abs:CallR X (.builtin "abs") (fun xs H Q=>∃i,xs=[.int i]∧Q (.int (if i<0 then -i else i)) H):=by
 intro pins s σ H xs us Q I r h
 obtain⟨i,rfl,q⟩:=h
 obtain⟨u,rfl,t,rfl⟩:=vals1 r
 exact call_abs_int fun u tk=>⟨.int (if i<0 then -i else i),H,I.tok _,⟨_,rfl⟩,q⟩
theorem call_max2(hc:X.calm=true):CallR X (.builtin "max") (fun xs H Q=>∃i j,xs=[.int i,.int j]∧Q (.int (if j >i then j else i)) H):=by
 intro pins s σ H xs us Q I r h
 obtain⟨i,j,rfl,q⟩:=h
 obtain⟨u,w',rfl,⟨t,rfl⟩,⟨t',rfl⟩⟩:=vals2 r
 refine max_two_ints (I.ok.hd hc) fun h' tk k=>⟨_,H,I.kept k,?_,q⟩
 by_cases hj:j >i
 ·rw[if_pos hj,if_pos hj];exact⟨_,rfl⟩
 ·rw[if_neg hj,if_neg hj];exact⟨_,rfl⟩
theorem call_min2(hc:X.calm=true):CallR X (.builtin "min") (fun xs H Q=>∃i j,xs=[.int i,.int j]∧Q (.int (if j<i then j else i)) H):=by
 intro pins s σ H xs us Q I r h
 obtain⟨i,j,rfl,q⟩:=h
 obtain⟨u,w',rfl,⟨t,rfl⟩,⟨t',rfl⟩⟩:=vals2 r
 refine min_two_ints (I.ok.hd hc) fun h' tk k=>⟨_,H,I.kept k,?_,q⟩
 by_cases hj:j<i
 ·rw[if_pos hj,if_pos hj];exact⟨_,rfl⟩
 ·rw[if_neg hj,if_neg hj];exact⟨_,rfl⟩
theorem call_int1:CallR X (.type "int") (fun xs H Q=>(∃i,xs=[.int i]∧Q (.int i) H)∨∃k,xs=[.bl k]∧Q (.int (if k then 1 else 0)) H):=by
 intro pins s σ H xs us Q I r h
 rcases h with⟨i,rfl,q⟩|⟨k,rfl,q⟩
 ·obtain⟨u,rfl,t,rfl⟩:=vals1 r
  exact call_int_int ⟨.int i,H,I,⟨_,rfl⟩,q⟩
 ·obtain⟨u,rfl,r1⟩:=vals1 r
  cases r1
  exact call_int_bool ⟨.int (if k then 1 else 0),H,I.tok _,⟨_,rfl⟩,q⟩
end
structure ObjM(h:Heap)(x dx C:Addr)(mA:Str→Option Value):Prop where
 obj:h.get? x=some (W.instObj C dx)
 ns:h.Ns1 dx mA
 ne:dx≠x
theorem lookIn_ns{h:Heap}{dx:Addr}{mA:Str→Option Value}(n:h.Ns1 dx mA):∃od,h.get? dx=some od∧∀name,W.lookIn name od=some (mA name):=by
 obtain⟨o,es,ep,ho,hd,hk,_,hm⟩:=n
 refine⟨o,ho,fun name=>?_⟩
 have e:=hm name
 unfold nsFind findBy at e
 rw[←Array.find?_toList]at e
 unfold W.lookIn
 rw[hd]
 dsimp only
 split
 ·rename_i y q
  rw[q]at e
  exact congrArg some e
 ·rename_i q
  rw[q]at e
  have a:es.toList.any (·.refKey)=false:=by
   rw[List.any_eq_false]
   intro y hy
   obtain⟨z,t,hkey⟩:=hk y (Array.mem_toList_iff.mp hy)
   simp[DictEntry.refKey,hkey]
  have a':¬es.toList.any (·.refKey)=true:=by rw[a];exact Bool.false_ne_true
  rw[if_neg a']
  exact congrArg some e
theorem ObjM.look{h:Heap}{x dx C:Addr}{mA:Str→Option Value}(I:ObjM h x dx C mA):∃od,W.InstAt h x (W.instObj C dx) C (some od)∧∀name,W.lookIn name od=some (mA name):=
 let⟨od,ho,hl⟩:=lookIn_ns I.ns
 ⟨od,⟨I.obj,rfl,rfl,ho⟩,hl⟩
section
variable{prog:Program}{w:World}{A:Around}{E:Value→Shared→Prop}{s:Shared}{K:W.Frag}{x dx C f:Addr}{mA:Str→Option Value}{name:Str}{v:Value}
end
theorem RelO.some_of{v:V}{o:Option Value}(r:RelO (some v) o):∃u,o=some u∧RelV v u:=by
 cases o with
 |none=>exact(show False from r).elim
 |some u=>exact⟨u,rfl,r⟩
section
variable{P:Program}{w:World}{H H':Hp}{h h':Heap}{a C dx:Addr}{fs fs':List (Str×V)}
theorem ins_get(hok:HOk P w H h)(e:H a=some (.ins C dx fs)):∃mA,ObjM h a dx C mA∧(∀f,RelO (fs.lookup f) (mA f))∧PySem.Within mA (fs.map (·.1))∧fs.length≤1000∧H dx=some (.own a):=by
 obtain⟨d,z,ne,ob,mA,n,r,q⟩:=(show ObjOk P w H h a (.ins C dx fs)from hok a _ e)
 exact⟨mA,⟨ob,n,ne⟩,r,q,z,d⟩
end
structure Cls(K:W.Frag)(C:Addr):Prop where
 pg:W.plainGet K C Str.empty=true
 hd:W.hasDictIn K C=true
 po:W.plainOver K C=true
 sa:W.findIn K (.ref C) "__setattr__"=some (some (.builtin "object.__setattr__"))
theorem Cls.get{K:W.Frag}{C:Addr}(c:Cls K C)(f:Str):W.plainGet K C f=true:=c.pg
section
variable{X:Cx}{pins:List (Addr×Obj)}{σ:St}{H:Hp}{s:Shared}{a C dx:Addr}{fs:List (Str×V)}{f:Str}{v:V}{A:Around}{E:Value→Shared→Prop}
end
section
variable{X:Cx}{o e value:Expr}{f:Str}{pos pos' tpos:Pos}{ta tv:TE}
end
section
variable{X:Cx}{pins:List (Addr×Obj)}{σ:St}{H:Hp}{s:Shared}{A:Around}{E:Value→Shared→Prop}{Q:Value→Shared→Prop}{c:Value}{b:Bool}
inductive TyOf(K:W.Frag)(H:Hp):V→Value→Prop where
 |non:TyOf K H .non (.type "NoneType")
 |bl (x:Bool):TyOf K H (.bl x) (.type "bool")
 |int (i:Int):TyOf K H (.int i) (.type "int")
 |str (x:Str):TyOf K H (.str x) (.type "str")
 |flt (x:UInt64):TyOf K H (.flt x) (.type "float")
 |lst {a:Addr} {xs:List V} (e:H a=some (.lst xs)):TyOf K H (.ref a) (.type "list")
 |frz {a:Addr} {o:Obj} {xs:List V} (e:H a=some (.frz o (.lst xs))):TyOf K H (.ref a) (.type "list")
 |tup {a:Addr} {xs:List V} (e:H a=some (.tup xs)):TyOf K H (.ref a) (.type "tuple")
 |dK {a:Addr} {kvs:List (Key×V)} (e:H a=some (.dK kvs)):TyOf K H (.ref a) (.type "dict")
 |dT {a:Addr} {kvs:List (List Key×V)} (e:H a=some (.dT kvs)):TyOf K H (.ref a) (.type "dict")
 |ins {a C dx:Addr} {fs:List (Str×V)} (e:H a=some (.ins C dx fs)) (cl:Cls K C) (ha:W.findIn K (.ref C) "__class__"=some (some (.builtin "object.__class__")))
   (hn:W.specialIn K (.builtin "object.__class__") "__get__"=some (some (.builtin "getset_descriptor.__get__"))) (htk:W.takesIn K (.builtin "object.__class__")=some true)
   (hm:W.mroIn K C (.type "object")=some true):TyOf K H (.ref a) (.ref C)
theorem isinst_ok{x:V}{u t:Value}(I:Inv X pins σ H s)(rx:RelV x u)(ty:TyOf X.K H x t)(e:W.kitOne X.K t c=some b)(h:∀tk,Q (.bool b) {s with toks:=tk}):
  wpAny (model X.prog X.w) A (call (.builtin "isinstance") [u,c]) Q E s:=by
 cases ty with
 |non=>cases(show u=Value.none from rx);exact W.kia_one W.kitx_none I.kIn True.intro e (fun z=>nomatch z) h
 |bl y=>cases(show u=Value.bool y from rx);exact W.kia_one W.kitx_bool I.kIn True.intro e (fun z=>nomatch z) h
 |int i=>obtain⟨t,q⟩:=(show ∃t,u=Value.int i t from rx);cases q;exact W.kia_one W.kitx_int I.kIn True.intro e (fun z=>nomatch z) h
 |str y=>obtain⟨t,q⟩:=(show ∃t,u=Value.str y t from rx);cases q;exact W.kia_one W.kitx_str I.kIn True.intro e (fun z=>nomatch z) h
 |flt y=>obtain⟨t,q⟩:=(show ∃t,u=Value.float y t from rx);cases q;exact W.kia_one W.kitx_float I.kIn True.intro e (fun z=>nomatch z) h
 |@lst a xs ea=>
  cases(show u=Value.ref a from rx)
  obtain⟨_,_,n,_,h1⟩:=(show ObjOk X.prog X.w H s.heap a (.lst xs)from I.hok a _ ea)
  exact W.kia_one W.kitx_list I.kIn ⟨_,h1,rfl⟩ e (fun z=>nomatch z) h
 |@frz a ob xs ea=>
  cases(show u=Value.ref a from rx)
  obtain⟨_,_,_,n,_,h1⟩:=(show ObjOk X.prog X.w H s.heap a (.frz ob (.lst xs))from I.hok a _ ea)
  exact W.kia_one W.kitx_list I.kIn ⟨_,h1,rfl⟩ e (fun z=>nomatch z) h
 |@tup a xs ea=>
  cases(show u=Value.ref a from rx)
  obtain⟨_,_,_,p⟩:=(show ObjOk X.prog X.w H s.heap a (.tup xs)from I.hok a _ ea)
  obtain⟨o,h1,h2,_⟩:=p
  exact W.kia_one W.kitx_tuple I.kIn ⟨o,h1,h2⟩ e (fun z=>nomatch z) h
 |@dK a kvs ea=>
  cases(show u=Value.ref a from rx)
  obtain⟨_,_,vs,_,p⟩:=(show ObjOk X.prog X.w H s.heap a (.dK kvs)from I.hok a _ ea)
  obtain⟨o,es,ep,h1,h2,_⟩:=p
  exact W.kia_one W.kitx_dict I.kIn ⟨o,h1,h2.1⟩ e (fun z=>nomatch z) h
 |@dT a kvs ea=>
  cases(show u=Value.ref a from rx)
  obtain⟨_,_,xs,_,o,es,ep,h1,h2,_⟩:=(show ObjOk X.prog X.w H s.heap a (.dT kvs)from I.hok a _ ea)
  exact W.kia_one W.kitx_dict I.kIn ⟨o,h1,h2.1⟩ e (fun z=>nomatch z) h
 |@ins a C dx fs ea cl ha hn htk hm=>
  cases(show u=Value.ref a from rx)
  obtain⟨mA,O,_⟩:=ins_get I.hok ea
  obtain⟨od,J,_⟩:=O.look
  exact W.kia_one (W.kitx_own (cl.get _) cl.hd ha hn htk hm) I.kIn J e (fun z=>nomatch z) h
end
structure Room(k:Nat)(A:Around):Prop where
 hd:A.handled=none
 dp:A.depth+3*k+5<recursionLimit
 un:A.units+16*k+200<cLine
theorem Room.mono{j k:Nat}{A:Around}(r:Room k A)(h:j≤k):Room j A:=⟨r.hd,by have:=r.dp;omega,by have:=r.un;omega⟩
theorem Room.deeper{k:Nat}{A:Around}(r:Room (k+1) A)(env:Env):Room k (A.deeper env):=
 ⟨r.hd,by have:=r.dp;show A.depth+1+3*k+5<_;omega,by have:=r.un;show A.units+3+16*k+200<_;omega⟩
theorem Room.depth{k:Nat}{A:Around}(r:Room k A):A.depth<recursionLimit:=by have:=r.dp;omega
theorem Room.units{k:Nat}{A:Around}(r:Room k A):A.units+64<cLine:=by have:=r.un;omega
noncomputable def tNil:TA:=fun _ H Q=>Q [] H
noncomputable def tCons(ta:TE)(tr:TA):TA:=fun σ H Q=>ta σ H fun x H1=>tr σ H1 fun xs H2=>Q (x::xs) H2
section
variable{X:Cx}{e:Expr}{es:List Expr}{te:TE}{t:TA}{pos:Pos}
theorem pa_nil:PA X [] tNil:=fun _ _ _ _ H Q I h=>Calls.spliced_nil ⟨[],H,I,.nil,h⟩
theorem pa_cons(ha:PE X e te)(hr:PA X es t)(hs:starEach (e::es) X.env=(false,eval e X.env)::starEach es X.env:=by rfl):PA X (e::es) (tCons te t):=by
 intro pos pins s σ H Q I h
 rw[hs]
 show wpAny _ _ (spliced ((false,eval e X.env)::backTo pos (starEach es X.env))) _ _ s
 refine Calls.spliced_cons (thn (ha pins s σ H _ I h) fun u s1 ⟨x,H1,I1,r1,q1⟩=>?_)
 exact thn (hr pos pins s1 σ H1 _ I1 q1) fun us s2 ⟨xs,H2,I2,r2,q2⟩=>⟨x::xs,H2,I2,.cons r1 r2,q2⟩
noncomputable def tTup(t:TA):TE:=fun σ H Q=>t σ H fun xs H1=>xs.length≤sizeLine∧∀p,H1 p=none→Q (.ref p) (upd H1 p (.tup xs))
noncomputable def tLst(t:TA):TE:=fun σ H Q=>t σ H fun xs H1=>xs.length≤sizeLine∧∀p,H1 p=none→Q (.ref p) (upd H1 p (.lst xs))
theorem pe_tup{x1}(h:PA X es t):PE X (.Tuple es x1 pos) (tTup t):=by
 intro pins s σ H Q I hq
 refine wpAny_Tuple_spliced (thn (h pos pins s σ H _ I hq) fun us s1 ⟨xs,H1,I1,r,z,q⟩=>⟨by rw[←r.length];exact z,?_⟩)
 have hf:H1 s1.heap.objs.size=none:=I1.hok.fresh (Nat.le_refl _)
 refine⟨.ref s1.heap.objs.size,upd H1 s1.heap.objs.size (.tup xs),I1.laid (t':=s1.toks) (fun b u e=>Heap.get?_push_of_some _ e) (Nat.le_refl _) ?_,rfl,q _ hf⟩
 exact⟨z,us,r,⟨_,Heap.get?_push_size _ rfl,rfl,_,rfl⟩⟩
theorem pe_lst(h:PA X es t):PE X (.List es pos) (tLst t):=by
 intro pins s σ H Q I hq
 refine wpAny_List_spliced (thn (h pos pins s σ H _ I hq) fun us s1 ⟨xs,H1,I1,r,z,q⟩=>⟨by rw[←r.length];exact z,?_⟩)
 have hf:H1 s1.heap.objs.size=none:=I1.hok.fresh (Nat.le_refl _)
 refine⟨.ref s1.heap.objs.size,upd H1 s1.heap.objs.size (.lst xs),I1.laid (t':=s1.toks) (fun b u e=>Heap.get?_push_of_some _ e) (Nat.le_refl _) ?_,rfl,q _ hf⟩
 exact⟨z,us,0,r,Heap.get?_push_size _ rfl⟩
end
abbrev Sp:=List V→Hp→VK→XK→Prop
abbrev CXT:=List Env→Hp→Shared→XK→Value→Shared→Prop
structure Env0(P:Program)(w:World)(K:W.Frag)(mg:Str→Option Value)(base:Heap)(A:Around)(outer:List Env)(s:Shared)(H:Hp):Prop where
 frames:A.frames=some outer
 mod:Mod K mg base
 bs:∀b o,base.get? b=some o→s.heap.get? b=some o∧H b=none
 bsz:base.objs.size≤s.heap.objs.size
 funs:s.heap.FunFrames base outer
 frf:∀b∈frs outer,H b=none
 hok:HOk P w H s.heap
 bare:AllBare s.gens
noncomputable def CE(outer:List Env)(P:Program)(w:World)(H:Hp)(s:Shared)(Q:VK)(u:Value)(s':Shared):Prop:=
 ∃v H',s'.os=s.os∧AllBare s'.gens∧Un (frs outer) [] H H' s.heap s'.heap∧HOk P w H' s'.heap∧RelV v u∧Q v H'
noncomputable def CR(CX:CXT)(outer:List Env)(P:Program)(w:World)(H:Hp)(s:Shared)(Q:VK)(E:XK)(r:Result)(s':Shared):Prop:=
 match r with
 |.ok (.ret u)=>CE outer P w H s Q u s'
 |.ok _=>False
 |.error e=>CX outer H s E e s'
structure FnOk(P:Program)(w:World)(K:W.Frag)(mg:Str→Option Value)(base:Heap)(CX:CXT)(k:Nat)(f:Addr)(fd:FuncData)(ps:List Str)(sp:Sp):Prop where
 len:∀vs H Q E,sp vs H Q E→vs.length=ps.length
 run:∀(A:Around) (outer:List Env) (s:Shared) (H:Hp) (args:Args) (us:List Value) (vs:List V) (Q:VK) (E:XK),Room k A→Env0 P w K mg base A outer s H→BindsTo s fd args (ps.zip us)→Vals vs us→sp vs H Q E→
  codeAny (model P w) A (.call (.ref f) args) (CR CX outer P w H s Q E) s
section
variable{X:Cx}{pins:List (Addr×Obj)}{σ:St}{H:Hp}{s s':Shared}
theorem Inv.env0(I:Inv X pins σ H s):Env0 X.prog X.w X.K X.mg X.base X.A X.stack s H:=
 ⟨I.ok.frames,I.ok.mod,I.bs,Nat.le_trans I.ok.bsz I.sz,I.stack,I.stkFree,I.hok,I.bare⟩
theorem Inv.after{Q:VK}{u:Value}(I:Inv X pins σ H s)(h:CE X.stack X.prog X.w H s Q u s'):EP X pins σ Q u s':=by
 obtain⟨v,H',os,bare,un,hok,r,q⟩:=h
 obtain⟨hh,g,d,t,os'⟩:=s'
 obtain rfl:os'=s.os:=os
 exact⟨v,H',I.call (h':=hh) (g':=g) (d':=d) (t':=t) (ch:=[]) un hok bare (fun b z=>absurd z (by simp)),r,q⟩
end
noncomputable def tCall(sp:Sp)(dvs:List V)(E:XK)(t:TA):TE:=fun σ H Q=>t σ H fun vs H1=>sp (vs++dvs) H1 Q E
noncomputable def Binds(K:W.Frag)(fd:FuncData)(ps:List Str)(ds:List Value):Prop:=
 ∀(s:Shared) (us:List Value),K.In s.heap→(us++ds).length=ps.length→BindsTo s fd ⟨us,[]⟩ (ps.zip (us++ds))
theorem Binds.all{K:W.Frag}{fd:FuncData}{ps:List Str}(h:∀us:List Value,us.length=ps.length→bindArgs fd ⟨us,[]⟩=pure (ps.zip us)):Binds K fd ps []:=fun s us _ hl=>by
 rw[List.append_nil]at hl⊢
 exact .of_eq (h us hl)
noncomputable def Passes(CX:CXT)(X:Cx)(E:XK):Prop:=∀(pins:List (Addr×Obj)) (σ:St) (H:Hp) (s:Shared) (e:Value) (s':Shared),Inv X pins σ H s→CX X.stack H s E e s'→X.xe e s'
section
variable{X:Cx}{CX:CXT}{k:Nat}{f C:Addr}{fd:FuncData}{ps:List Str}{sp:Sp}{dvs:List V}{ds:List Value}{E:XK}{x m:Str}{p pos apos:Pos}{e o:Expr}{es:List Expr}{ta:TE}{t:TA}
theorem run_fn{pins:List (Addr×Obj)}{σ:St}{H:Hp}{s:Shared}{Q:VK}{us:List Value}{vs:List V}(F:FnOk X.prog X.w X.K X.mg X.base CX k f fd ps sp)(hr:Room k X.A)(hb:Binds X.K fd ps ds)(hd:Vals dvs ds)(hx:Passes CX X E)
  (I:Inv X pins σ H s) (r:Vals vs us) (h:sp (vs++dvs) H Q E):wpAny (model X.prog X.w) X.A (call (.ref f) us) (EP X pins σ Q) X.xe s:=by
 have r2:Vals (vs++dvs) (us++ds):=r.append hd
 have hl:(us++ds).length=ps.length:=by rw[←r2.length];exact F.len _ _ _ _ h
 refine wpAny_call (codeAny_mono (F.run X.A X.stack s H ⟨us,[]⟩ (us++ds) (vs++dvs) Q E hr I.env0 (hb s us I.kIn hl) r2 h) fun r s' hq=>?_)
 cases r with
 |error e=>exact hx pins σ H s e s' I hq
 |ok fl=>
  cases fl with
  |ret u=>exact I.after hq
  |next=>exact False.elim hq
  |brk=>exact False.elim hq
  |cont=>exact False.elim hq
theorem pe_call(F:FnOk X.prog X.w X.K X.mg X.base CX k f fd ps sp)(hr:Room k X.A)(hg:Gl X x)(hm:X.mg x=some (.ref f))(hk:W.keepIn X.K (.ref f)=true)(hb:Binds X.K fd ps ds)(hd:Vals dvs ds)(hx:Passes CX X E)
  (ha:PA X (e::es) t) (hdb:(x==("__debug__":Str))=false:=by decide) (he:starEach (e::es) X.env=(false,eval e X.env)::starEach es X.env:=by rfl) (hpl:(backTo pos (starEach es X.env)).any (·.1)=false:=by rfl):
  PE X (.Call (.Name x p) (e::es) [] pos) (tCall sp dvs E t):=by
 intro pins s σ H Q I h
 refine wpAny_Call_Name_kw (ld_glob I hg hm ?_ hdb)
 refine W.callWith_K (h₀:=X.base) I.ok.mod.kin hk (thn (ha pos pins s σ H _ I h) fun us s1 ⟨vs,H1,I1,r,q⟩=>⟨I1.kIn,?_⟩) he hpl
 exact run_fn F hr hb hd hx I1 r q
end
section
variable{X:Cx}{CX:CXT}{k:Nat}{f C:Addr}{fd:FuncData}{ps ks:List Str}{sp:Sp}{E:XK}{x m:Str}{p pos apos kpos:Pos}{e o:Expr}{es:List Expr}{kws:List Keyword}{te ta:TE}{t tk:TA}{nm:Option Str}
variable{g:List Value→List Value→List Value}{gV:List V→List V→List V}
end
structure FnScope(N P:List Str)(sc:Scope):Prop where
 kind:sc.kind=.function
 co:sc.isCoroutine=false
 gen:sc.isGenerator=false
 nd:N.Nodup
 pre:N.take P.length=P
 par:∀x∈P,sc.names.lookup x=some .local ∨sc.names.lookup x=some .cell
 nofree:∀y∈sc.names,y.2≠ .free
theorem bindL_out{kindOf:Str→Option NameKind}{x:Str}:∀{binds:List (Str×Value)} {m:Str→Option Value},(∀v,(x,v)∉binds)→bindL kindOf binds m x=m x
 |[],_,_=>rfl
 |(n,v)::r,m,h=>by
  unfold bindL
  rw[bindL_out fun w hw=>h w (List.mem_cons_of_mem _ hw)]
  split
  ·have:x≠n:=by rintro rfl;exact h v List.mem_cons_self
   simp[this]
  ·rfl
theorem bindC_out{kindOf:Str→Option NameKind}{x:Str}:∀{binds:List (Str×Value)} {m:Str→Option Value},(∀v,(x,v)∉binds)→bindC kindOf binds m x=m x
 |[],_,_=>rfl
 |(n,v)::r,m,h=>by
  unfold bindC
  rw[bindC_out fun w hw=>h w (List.mem_cons_of_mem _ hw)]
  split
  ·rfl
  ·have:x≠n:=by rintro rfl;exact h v List.mem_cons_self
   simp[this]
theorem bindL_get{kindOf:Str→Option NameKind}{x:Str}{v:Value}:∀{P:List Str} {vs:List Value} {i:Nat} {m:Str→Option Value},P.Nodup→P[i]?=some x→vs[i]?=some v→kindOf x=some .local →
  bindL kindOf (P.zip vs) m x=some v
 |[],_,_,_,_,h,_,_=>by simp at h
 |_::_,[],_,_,_,_,h,_=>by simp at h
 |p::P,w::vs,0,m,nd,h1,h2,hk=>by
  simp at h1 h2;subst h1;subst h2
  show bindL kindOf ((p,w)::P.zip vs) m p=_
  unfold bindL
  rw[bindL_out fun v hv=>(List.nodup_cons.mp nd).1 (List.of_mem_zip hv).1,if_pos hk]
  simp
 |p::P,w::vs,i+1,m,nd,h1,h2,hk=>by
  show bindL kindOf ((p,w)::P.zip vs) m x=_
  unfold bindL
  exact bindL_get (i:=i) (List.nodup_cons.mp nd).2 (by simpa using h1) (by simpa using h2) hk
theorem bindC_get{kindOf:Str→Option NameKind}{x:Str}{v:Value}:∀{P:List Str} {vs:List Value} {i:Nat} {m:Str→Option Value},P.Nodup→P[i]?=some x→vs[i]?=some v→kindOf x≠some .local →
  bindC kindOf (P.zip vs) m x=some v
 |[],_,_,_,_,h,_,_=>by simp at h
 |_::_,[],_,_,_,_,h,_=>by simp at h
 |p::P,w::vs,0,m,nd,h1,h2,hk=>by
  simp at h1 h2;subst h1;subst h2
  show bindC kindOf ((p,w)::P.zip vs) m p=_
  unfold bindC
  rw[bindC_out fun v hv=>(List.nodup_cons.mp nd).1 (List.of_mem_zip hv).1,if_neg hk]
  simp
 |p::P,w::vs,i+1,m,nd,h1,h2,hk=>by
  show bindC kindOf ((p,w)::P.zip vs) m x=_
  unfold bindC
  exact bindC_get (i:=i) (List.nodup_cons.mp nd).2 (by simpa using h1) (by simpa using h2) hk
noncomputable def start(N:List Str)(vs:List V):St:=vs.map some++List.replicate (N.length - vs.length) none
noncomputable def cxOf(CX:CXT)(P:Program)(w:World)(K:W.Frag)(mg:Str→Option Value)(base:Heap)(N:List Str)(qual:Str)(scope:Scope)(f:Addr)(cd:Value)(A:Around)(outer:List Env)(s:Shared)(H:Hp)(E:XK):Cx where
 prog:=P
 w:=w
 K:=K
 mg:=mg
 base:=base
 A:=A.deeper (envOfC qual scope s.heap.objs.size f cd)
 N:=N
 s₀:=s
 H₀:=H
 env:=envOfC qual scope s.heap.objs.size f cd
 outer:=outer
 stack:=envOfC qual scope s.heap.objs.size f cd::outer
 ex:=[]
 calm:=true
 fn:=fun _=>true
 pn:=[]
 xe:=fun e s'=>wpAny (model P w) (A.deeper (envOfC qual scope s.heap.objs.size f cd)) (leaving (envOfC qual scope s.heap.objs.size f cd) e) (fun _ s''=>CX outer H s E e s'') (fun e' s''=>CX outer H s E e' s'') s'
theorem cell_has{sc:Scope}{n:Nat}{x:Str}(h:sc.names.lookup x=some .cell):∃c,(cellsFrom n sc.names []).lookup x=some c:=by
 have q:=W.cellsFrom_some sc.names n [] (.inl h)
 exact Option.isSome_iff_exists.mp q
theorem inv_start{CX:CXT}{P:Program}{w:World}{K:W.Frag}{mg:Str→Option Value}{base:Heap}{N ps:List Str}{qual:Str}{scope:Scope}{f:Addr}{cd:Value}{A:Around}{outer:List Env}{s s1:Shared}{H:Hp}{E:XK}{us:List Value}{vs:List V}
  (S:FnScope N ps scope) (hd:A.handled=none) (e0:Env0 P w K mg base A outer s H) (hl:vs.length=ps.length) (r:Vals vs us)
  (x:InCallC s s.heap.objs.size (bindL (envOfC qual scope s.heap.objs.size f cd).kindOf (ps.zip us) fun _=>none) (cellsFrom (s.heap.objs.size+1) scope.names []) (bindC (envOfC qual scope s.heap.objs.size f cd).kindOf (ps.zip us) fun _=>none) s1):
  Inv (cxOf CX P w K mg base N qual scope f cd A outer s H E) [] (start N vs) H s1:=by
 have hpl:ps.length≤N.length:=by have:=congrArg List.length S.pre;rw[List.length_take]at this;omega
 obtain⟨h1,tk,rfl,hk⟩:=x.done
 have noA:∀b:Addr,b∉ (cxOf CX P w K mg base N qual scope f cd A outer s H E).ex:=fun b z=>absurd (show b∈([]:List Addr)from z) (by simp)
 refine⟨⟨e0.mod,S.kind,rfl,rfl,Nat.le_refl _,fun y z c h1 h2=>?_,fun y hy=>?_,fun y c _ h=>?_,fun _=>hd,Around.frames_deeper e0.frames,.inr ⟨rfl,rfl⟩,fun b z=>absurd z (noA b),e0.bs,e0.bsz,fun b _ _=>noA b,fun b z=>absurd z (noA b),e0.funs,e0.frf⟩,
  rfl,e0.bare,Un.kept hk,⟨_,x.toInCall.ns,fun i y v h1 h2 h3=>?_⟩,fun y c h=>⟨_,x.cell y c h⟩,e0.hok.fresh (Nat.le_refl _),fun y c h=>?_,fun p hp=>absurd (show p∈([]:List (Addr×Obj))from hp) (by simp),e0.hok.kept hk,?_⟩
 ·exact name_of_addr x.apart (mem_of_lookup h1) (mem_of_lookup h2)
 ·have hy:scope.names.lookup y=some .cell∨scope.names.lookup y=some .free:=hy
  rcases hy with hy|hy
  ·exact cell_has hy
  ·exact absurd rfl (S.nofree _ (mem_of_lookup hy))
 ·exact Nat.le_of_lt (x.above y c (mem_of_lookup h))
 ·have hi:i<vs.length:=by
   unfold start at h2
   by_cases hi:i<vs.length
   ·exact hi
   ·rw[List.getElem?_append_right (by simpa using hi)]at h2
    rw[List.getElem?_replicate]at h2
    split at h2<;>cases h2
  have ha:vs[i]?=some v:=by
   unfold start at h2
   rw[List.getElem?_append_left (by simpa using hi),List.getElem?_map]at h2
   cases e:vs[i]? with
   |none=>rw[e]at h2;cases h2
   |some a=>rw[e]at h2;cases h2;rfl
  obtain⟨u,hu,rv⟩:=r.get ha
  have hp:ps[i]?=some y:=by
   rw[←S.pre,List.getElem?_take_of_lt (by omega)];exact h1
  have ndP:ps.Nodup:=by rw[←S.pre];exact S.nd.sublist (List.take_sublist _ _)
  refine⟨u,rv,?_⟩
  rcases S.par y (List.mem_of_getElem? hp)with k|k
  ·exact .inl ⟨k,bindL_get ndP hp hu k⟩
  ·obtain⟨c,e⟩:=cell_has (n:=s.heap.objs.size+1) k
   refine .inr ⟨.inl k,c,e,?_⟩
   have q:=x.cell y c e
   rw[bindC_get ndP hp hu (by show scope.names.lookup y≠_;rw[k];decide)]at q
   exact q
 ·exact e0.hok.fresh (Nat.le_of_lt (x.above y c (mem_of_lookup h)))
 ·unfold start
  show _=N.length
  rw[List.length_append,List.length_map,List.length_replicate]
  omega
theorem fn_of{CX:CXT}{P:Program}{w:World}{K:W.Frag}{mg:Str→Option Value}{base:Heap}{k:Nat}{f:Addr}{name qual:Str}{params:Arguments}{body:List Stmt}{scope:Scope}{dV kV doc pm cdv ct oc:Value}{an od:Option Addr}
  {osl:Array (Option Value)} {N ps:List Str} {sp:Sp} (lk:K.lookup f=some ⟨oc,od,.func (W.fnOf name qual params body scope dV kV doc pm an cdv ct),osl⟩) (hcd:W.codeIn K cdv qual=true) (S:FnScope N ps scope)
  (len:∀vs H Q E,sp vs H Q E→vs.length=ps.length)
  (hbody:∀(A:Around) (outer:List Env) (s:Shared) (H:Hp) (vs:List V) (Q:VK) (E:XK),Room k (A.deeper (envOfC qual scope s.heap.objs.size f cdv))→sp vs H Q E→
   ∃t,PSs (cxOf CX P w K mg base N qual scope f cdv A outer s H E) body t∧t {nx:=fun _ H'=>Q .non H',rt:=Q} (start N vs) H):
  FnOk P w K mg base CX (k+1) f (W.fnOf name qual params body scope dV kV doc pm an cdv ct) ps sp:=by
 refine⟨len,fun A outer s H args us vs Q E hr e0 hb r hsp=>?_⟩
 have hl:=len _ _ _ _ hsp
 have KX:K.In s.heap:=e0.mod.kin.keeps fun b o e=>(e0.bs b o e).1
 have lim:s.heap.NoLimit:=e0.mod.nolimit.keeps fun b o e=>(e0.bs b o e).1
 have hkind:∀y∈ps.zip us,scope.names.lookup y.1=some .local ∨(scope.names.lookup y.1=some .cell∧((cellsFrom (s.heap.objs.size+1) scope.names []).lookup y.1).isSome=true):=fun⟨n,v⟩ hy=>by
  rcases S.par n (List.of_mem_zip hy).1 with q|q
  ·exact .inl q
  ·exact .inr ⟨q,W.cellsFrom_some _ _ _ (.inl q)⟩
 refine codeAny_call_function hr.depth (KX _ _ lk) rfl S.co S.gen rfl (W.codeRec_of KX hcd) (hb _ _ _ _ ?_)
 refine wpAny_newFunctionEnv_cells S.kind hkind fun env he s1 x=>?_
 subst he
 refine⟨lim.keeps x.toInCall.keep,codeAny_func ?_⟩
 obtain⟨t,ht,hq⟩:=hbody A outer s H vs Q E (hr.deeper _) hsp
 have I:Inv (cxOf CX P w K mg base N qual scope f cdv A outer s H E) [] (start N vs) H s1:=inv_start S hr.hd e0 hl r x
 refine wpAny_mono (ht [] s1 (start N vs) H _ I hq) (fun fl s' hs=>?_) fun e s' hs=>hs
 have fin:∀{σ':St} {H':Hp} {v:V} {u:Value},Inv (cxOf CX P w K mg base N qual scope f cdv A outer s H E) [] σ' H' s'→RelV v u→Q v H'→CE outer P w H s Q u s':=
  fun{σ' H' v u} J rv q=>⟨v,H',J.os,J.bare,J.base,J.hok,rv,q⟩
 cases fl with
 |ret u=>
  obtain⟨v,σ',H',J,rv,q⟩:=hs
  exact fin J rv q
 |next=>
  obtain⟨σ',H',J,q⟩:=hs
  exact fin (v:=V.non) (u:=Value.none) J rfl q
 |brk=>
  obtain⟨_,_,_,q⟩:=hs
  exact False.elim q
 |cont=>
  obtain⟨_,_,_,q⟩:=hs
  exact False.elim q
section
variable{X:Cx}{x:Str}{p pos:Pos}{e:Expr}{es:List Expr}{t:TA}{id T:String}{r:List V→Hp→VK→Prop}
noncomputable def tCB(r:List V→Hp→VK→Prop)(t:TA):TE:=fun σ H Q=>t σ H fun vs H1=>r vs H1 Q
theorem pe_callB(hc:CallR X (.builtin id) r)(hg:Gl X x)(hm:X.mg x=none)(hv:bootBuiltins x=some (.builtin id))(ha:PA X (e::es) t)(hn:x≠"__name__":=by decide)(hdb:(x==("__debug__":Str))=false:=by decide)
  (he:starEach (e::es) X.env=(false,eval e X.env)::starEach es X.env:=by rfl) (hpl:(backTo pos (starEach es X.env)).any (·.1)=false:=by rfl):PE X (.Call (.Name x p) (e::es) [] pos) (tCB r t):=by
 intro pins s σ H Q I h
 refine wpAny_Call_Name_kw (ld_blt I hg hm hv ?_ hn hdb)
 exact PyProof.Rows.callWith_builtin1 (thn (ha pos pins s σ H _ I h) fun us s1 ⟨vs,H1,I1,r1,q1⟩=>hc pins s1 σ H1 vs us Q I1 r1 q1) he hpl
theorem pe_callTy(hc:CallR X (.type T) r)(hg:Gl X x)(hm:X.mg x=none)(hv:bootBuiltins x=some (.type T))(ha:PA X (e::es) t)(hn:x≠"__name__":=by decide)(hdb:(x==("__debug__":Str))=false:=by decide)
  (he:starEach (e::es) X.env=(false,eval e X.env)::starEach es X.env:=by rfl) (hpl:(backTo pos (starEach es X.env)).any (·.1)=false:=by rfl):PE X (.Call (.Name x p) (e::es) [] pos) (tCB r t):=by
 intro pins s σ H Q I h
 refine wpAny_Call_Name_kw (ld_blt I hg hm hv ?_ hn hdb)
 exact PyProof.Rows.callWith_type1 (thn (ha pos pins s σ H _ I h) fun us s1 ⟨vs,H1,I1,r1,q1⟩=>hc pins s1 σ H1 vs us Q I1 r1 q1) he hpl
end
end L2
namespace HT
open PySem PyProof.Rows
section
open PySem.SeqAt
open PySem.AutoSeq1 (wpAny_loadPart')
open PySem.MeetsSeq PySem.MeetsSeq2 PySem.MeetsSeq3
end
section
variable{prog:Program}{w:World}{A:Around}{E:Value→Shared→Prop}{s:Shared}
noncomputable def sIx(n d:Nat):Option Int→Nat
 |none=>d
 |some v=>if v<0 then(v+(n:Int)).toNat else min v.toNat n
theorem sIx_none(n d:Nat):sIx n d none=d:=rfl
theorem sIx_nat(n d k:Nat):sIx n d (some (k:Int))=min k n:=by
 show(if(k:Int)<0 then((k:Int)+(n:Int)).toNat else min (k:Int).toNat n)=min k n
 rw[if_neg (by omega),Int.toNat_natCast]
end
end HT
namespace L2
open PySem PySem.Spec PyProof.Rows
abbrev TO:=St→Hp→(Option Int→Hp→Prop)→Prop
noncomputable def PO(X:Cx)(e:Option Expr)(t:TO):Prop:=
 ∀(pins:List (Addr×Obj)) (s:Shared) (σ:St) (H:Hp) (Q:Option Int→Hp→Prop),Inv X pins σ H s→t σ H Q→
  wpAny (model X.prog X.w) X.A (evalPart e X.env) (fun u s'=>∃o H',Inv X pins σ H' s'∧IsPart u o∧Q o H') X.xe s
noncomputable def tNoPart:TO:=fun _ H Q=>Q none H
noncomputable def tPart(t:TE):TO:=fun σ H Q=>t σ H fun x H1=>∃i,x=.int i∧Q (some i) H1
section
variable{X:Cx}{e:Expr}{te:TE}{lo hi:Option Expr}{tl th:TO}{pos p2:Pos}
theorem po_none:PO X none tNoPart:=by
 intro pins s σ H Q I h
 rw[evalPart_none]
 exact wpAny_pure ⟨none,H,I,.none,h⟩
theorem po_some(h:PE X e te):PO X (some e) (tPart te):=by
 intro pins s σ H Q I hw
 rw[evalPart_some]
 refine thn (h pins s σ H _ I hw) fun u s1 ⟨x,H1,I1,r1,q1⟩=>?_
 obtain⟨i,rfl,q⟩:=q1
 obtain⟨t,rfl⟩:=r1
 exact⟨some i,H1,I1,.int i t,q⟩
noncomputable def SlR(X:Cx)(r:V→Option Int→Option Int→Hp→VK→Prop):Prop:=
 ∀(pins:List (Addr×Obj)) (s:Shared) (σ:St) (H:Hp) (x:V) (v vl vu:Value) (lo hi:Option Int) (sl:Addr) (Q:VK),Inv X pins σ H s→RelV x v→s.heap.IsSliceOf sl vl vu .none→IsPart vl lo→IsPart vu hi→r x lo hi H Q→
  ∃T id,typeLookup (.type T) "__getitem__"=pure (some (.builtin id))∧s.TypeIs v T∧wpAny (model X.prog X.w) X.A (getItem v (.ref sl)) (EP X pins σ Q) X.xe s
noncomputable def tSl(r:V→Option Int→Option Int→Hp→VK→Prop)(te:TE)(tl th:TO):TE:=fun σ H Q=>te σ H fun x H1=>tl σ H1 fun l H2=>th σ H2 fun u H3=>r x l u H3 Q
theorem pe_slice{r:V→Option Int→Option Int→Hp→VK→Prop}(hr:SlR X r)(he:PE X e te)(hl:PO X lo tl)(hu:PO X hi th):PE X (.Subscript e (.Slice lo hi none p2) pos) (tSl r te tl th):=by
 intro pins s σ H Q I h
 refine Subscript_ (thn (he pins s σ H _ I h) fun v s1 ⟨x,H1,I1,r1,q1⟩=>?_)
 refine wpAny_Slice (thn (hl pins s1 σ H1 _ I1 q1) fun vl s2 ⟨l,H2,I2,pl,q2⟩=>thn (hu pins s2 σ H2 _ I2 q2) fun vu s3 ⟨u,H3,I3,pu,q3⟩=>?_)
 rw[evalPart_none]
 refine wpAny_pure ?_
 have I4:Inv X pins σ H3 {s3 with heap:=s3.heap.push {cls:=.type "slice",data:=.fields #[vl,vu,.none]}}:=I3.kept (t':=s3.toks) fun b ob q=>Heap.get?_push_of_some _ q
 obtain⟨T,id,hT,ht,hg⟩:=hr pins {s3 with heap:=s3.heap.push {cls:=.type "slice",data:=.fields #[vl,vu,.none]}} σ H3 x v vl vu l u s3.heap.objs.size Q I4 r1 (Heap.IsSliceOf.new ..) pl pu q3
 show wpAny (model X.prog X.w) X.A (subscriptTail e (.Slice lo hi none p2) v (.ref s3.heap.objs.size)) (EP X pins σ Q) X.xe {s3 with heap:=s3.heap.push {cls:=.type "slice",data:=.fields #[vl,vu,.none]}}
 exact tail_any (ops:=[.ref s3.heap.objs.size,v]) ht hT hg (by with_unfolding_all rfl)
noncomputable def cutV(xs:List V)(lo hi:Option Int):List V:=(xs.drop (HT.sIx xs.length 0 lo)).take (HT.sIx xs.length xs.length hi - HT.sIx xs.length 0 lo)
theorem cutV_length(xs:List V)(lo hi:Option Int):(cutV xs lo hi).length≤xs.length:=by
 unfold cutV
 rw[List.length_take,List.length_drop]
 omega
end
noncomputable def ixN(n:Nat)(i:Int):Option Nat:=if 0≤i then(if i<n then some i.toNat else none)else if -(n:Int)≤i then some (i+n).toNat else none
noncomputable def atI{α:Type}(xs:List α)(i:Int):Option α:=(ixN xs.length i).bind fun j=>xs[j]?
theorem ixN_seq{n:Nat}{i:Int}{j:Nat}(h:ixN n i=some j):seqIndex? i n=some j∧j<n∧ -(n:Int)≤i∧i<n:=by
 unfold ixN at h
 by_cases h0:0≤i
 ·rw[if_pos h0]at h
  by_cases h1:i<n
  ·rw[if_pos h1]at h
   have e:i.toNat=j:=Option.some.inj h
   exact⟨by rw[seqIndex_of h0 h1,e],by omega,by omega,h1⟩
  ·rw[if_neg h1]at h;cases h
 ·rw[if_neg h0]at h
  by_cases h1: -(n:Int)≤i
  ·rw[if_pos h1]at h
   have e:(i+n).toNat=j:=Option.some.inj h
   exact⟨by rw[seqIndex_neg (by omega) h1,e],by omega,h1,by omega⟩
  ·rw[if_neg h1]at h;cases h
theorem atI_get{α:Type}{xs:List α}{i:Int}{v:α}(h:atI xs i=some v):∃j,seqIndex? i xs.length=some j∧xs[j]?=some v∧j<xs.length∧ -(xs.length:Int)≤i∧i<xs.length:=by
 unfold atI at h
 cases e:ixN xs.length i with
 |none=>rw[e]at h;cases h
 |some j=>
  rw[e]at h
  obtain⟨h1,h2,h3,h4⟩:=ixN_seq e
  exact⟨j,h1,h,h2,h3,h4⟩
theorem atI_nat{α:Type}{xs:List α}{j:Nat}{v:α}(h:xs[j]?=some v):atI xs (j:Int)=some v:=by
 have hj:j<xs.length:=(List.getElem?_eq_some_iff.mp h).1
 have e:ixN xs.length (j:Int)=some j:=by
  unfold ixN
  rw[if_pos (by omega),if_pos (by omega)];simp
 unfold atI;rw[e];exact h
noncomputable def PlainIx(b:Expr):Prop:=∀o i,subscripted b false o i=operate [o,i] (getItem o i)
noncomputable def IxR(X:Cx)(r:R2):Prop:=
 ∀(value slice:Expr) (pins:List (Addr×Obj)) (s:Shared) (σ:St) (H:Hp) (x y:V) (v u:Value) (Q:VK),Inv X pins σ H s→RelV x v→RelV y u→r x y H Q→
  subscripted slice false v u=operate [v,u] (getItem v u)→wpAny (model X.prog X.w) X.A (subscriptTail value slice v u) (EP X pins σ Q) X.xe s
noncomputable def MtR(X:Cx)(id:String)(r:V→List V→Hp→VK→Prop):Prop:=
 ∀(pins:List (Addr×Obj)) (s:Shared) (σ:St) (H:Hp) (x:V) (xs:List V) (v:Value) (us:List Value) (Q:VK),Inv X pins σ H s→RelV x v→Vals xs us→r x xs H Q→
  wpAny (model X.prog X.w) X.A (call (.builtin id) (v::us)) (EP X pins σ Q) X.xe s
section
variable{X:Cx}{a b:Expr}{ta tb:TE}{pos:Pos}
theorem pe_ix{r:R2}(hr:IxR X r)(ha:PE X a ta)(hb:PE X b tb)(hs:PlainIx b):PE X (.Subscript a b pos) (tOp r ta tb):=by
 intro pins s σ H Q I h
 exact Subscript_ (binT ha hb I h fun v u s2 x y H2 I2 rx ry q=>hr a b pins s2 σ H2 x y v u Q I2 rx ry q (hs _ _))
noncomputable def rIxL(K:W.Frag):R2:=fun x y H Q=>∃p xs i v,x=.ref p∧y=.int i∧SqL K H p xs∧atI xs i=some v∧Q v H
noncomputable def rIxT(K:W.Frag):R2:=fun x y H Q=>∃p xs i v,x=.ref p∧y=.int i∧SqT K H p xs∧atI xs i=some v∧Q v H
theorem ix_list:IxR X (rIxL X.K):=by
 intro value slice pins s σ H x y v u Q I rx ry h hs
 obtain⟨p,xs,i,z,rfl,rfl,hq,he,q⟩:=h
 cases rx
 obtain⟨t,rfl⟩:=ry
 obtain⟨its,r,pl,hz⟩:=I.list hq
 obtain⟨j,h1,h2,h3,h4,h5⟩:=atI_get he
 obtain⟨w,ew,rw'⟩:=r.get h2
 have hl:=r.length
 have hn:=line63
 have fin:EP X pins σ Q w s:=⟨z,H,I,rw',q⟩
 by_cases h0:0≤i
 ·have hj:i.toNat=j:=by
   rw[seqIndex_of h0 h5]at h1
   exact Option.some.inj h1
  exact item_listR pl.isList h0 (by omega) (by rw[hj];simpa using ew) fin hs
 ·have hj:(i+(its.toArray.size:Int)).toNat=j:=by
   rw[seqIndex_neg (by omega) h4]at h1
   rw[List.size_toArray,←hl]
   exact Option.some.inj h1
  exact subscriptTail_builtinR (x:=w) pl.isList.typeIs slot_list_getitem.lookup
   (wpAny_getItem_list_neg (Q:=fun r s'=>r=w∧EP X pins σ Q r s') pl.isList (by omega) (by rw[List.size_toArray]<;>omega) (by omega) (by rw[hj];simpa using ew) ⟨rfl,fin⟩) hs
theorem ix_tup:IxR X (rIxT X.K):=by
 intro value slice pins s σ H x y v u Q I rx ry h hs
 obtain⟨p,xs,i,z,rfl,rfl,hq,he,q⟩:=h
 cases rx
 obtain⟨t,rfl⟩:=ry
 obtain⟨its,r,pl,hz⟩:=I.tuple hq
 obtain⟨j,h1,h2,h3,h4,h5⟩:=atI_get he
 obtain⟨w,ew,rw'⟩:=r.get h2
 have hl:=r.length
 have hn:=line63
 have fin:EP X pins σ Q w s:=⟨z,H,I,rw',q⟩
 exact subscriptTail_builtinR (x:=w) pl.typeIs slot_tuple_getitem.lookup
  (getItem_tuple (j:=j) (Q:=fun r s'=>r=w∧EP X pins σ Q r s') pl (by omega) (by omega) (by rw[List.size_toArray,←hl];exact h1) (by simpa using ew) ⟨rfl,fin⟩) hs
theorem mapSeq_set(its:List Value)(n j:Nat)(u:Value):Obj.mapSeq (·.setIfInBounds j u) {cls:=.type "list",data:=.seq its.toArray n}={cls:=.type "list",data:=.seq (its.set j u).toArray n}:=by
 simp[Obj.mapSeq]
theorem Inv.lst{pins:List (Addr×Obj)}{σ:St}{H:Hp}{s:Shared}{p:Addr}{xs:List V}(I:Inv X pins σ H s)(h:H p=some (.lst xs)):
  ∃(its:List Value) (n:Nat),Vals xs its∧s.heap.get? p=some {cls:=.type "list",data:=.seq its.toArray n}∧xs.length≤sizeLine:=by
 obtain⟨z,its,n,r,e⟩:=I.hok p _ h
 exact⟨its,n,r,e,z⟩
theorem Inv.lstUpd{pins:List (Addr×Obj)}{σ:St}{H:Hp}{s:Shared}{p:Addr}{xs ys:List V}{its its':List Value}{n n':Nat}{f:Obj→Obj}(I:Inv X pins σ H s)(h:H p=some (.lst xs))
  (ho:s.heap.get? p=some {cls:=.type "list",data:=.seq its.toArray n}) (hf:f {cls:=.type "list",data:=.seq its.toArray n}={cls:=.type "list",data:=.seq its'.toArray n'}) (r:Vals ys its') (hz:ys.length≤sizeLine) (t:Nat):
  Inv X pins σ (upd H p (.lst ys)) {s with heap:=s.heap.update p f,toks:=t}:=by
 have e:(s.heap.update p f).get? p=some {cls:=.type "list",data:=.seq its'.toArray n'}:=by
  rw[Heap.get?_update_self f ho (by rw[hf]<;>rfl),hf]
 refine I.write (x:=p) (e:=p) (by rw[h];trivial) (.inl rfl) (fun b u hb q=>(Heap.get?_update_other _ _ (Ne.symm hb)).trans q) ⟨_,e⟩ ?_
 exact⟨hz,its',n',r,e⟩
noncomputable def rSetL:V→V→V→Hp→(Hp→Prop)→Prop:=fun o i v H Q=>∃p xs k j,o=.ref p∧i=.int k∧H p=some (.lst xs)∧ixN xs.length k=some j∧Q (upd H p (.lst (xs.set j v)))
theorem set_list:PSet X rSetL:=by
 intro pins s σ H o i v ov iv u Q I ro ri rv h
 obtain⟨p,xs,k,j,rfl,rfl,hp,hj,q⟩:=h
 cases ro
 obtain⟨t,rfl⟩:=ri
 obtain⟨its,n,r,ho,hz⟩:=I.lst hp
 obtain⟨h1,h2,h3,h4⟩:=ixN_seq hj
 have hl:=r.length
 have hn:=line63
 have I':Inv X pins σ (upd H p (.lst (xs.set j v))) {s with heap:=s.heap.update p (Obj.mapSeq (·.setIfInBounds j u))}:=
  I.lstUpd hp ho (mapSeq_set its n j u) (r.set rv j) (by rw[List.length_set];exact hz) s.toks
 by_cases h0:0≤k
 ·have hk:k.toNat=j:=by
   rw[seqIndex_of h0 h4]at h1
   exact Option.some.inj h1
  exact W.ki_setAt ho h0 (by omega) (by rw[List.size_toArray,←hl];exact h4) (by rw[hk];exact⟨_,I',q⟩)
 ·have hk:(k+(its.toArray.size:Int)).toNat=j:=by
   rw[seqIndex_neg (by omega) h3]at h1
   rw[List.size_toArray,←hl]
   exact Option.some.inj h1
  exact W.ki_setBack ho (by omega) (by rw[List.size_toArray,←hl];exact h3) (by omega) (by rw[hk];exact⟨_,I',q⟩)
theorem slice_bounds(lo hi:Option Int)(n:Nat):(sliceBounds lo hi none n).1=((HT.sIx n 0 lo:Nat):Int)∧(sliceBounds lo hi none n).2.1=((HT.sIx n n hi:Nat):Int)∧(sliceBounds lo hi none n).2.2=1:=by
 refine⟨?_,?_,rfl⟩
 ·cases lo with
  |none=>simp[sliceBounds,HT.sIx]
  |some i=>
   simp only[sliceBounds,HT.sIx,Option.getD_none,show(1:Int) >0 by decide,if_true]
   by_cases h:i<0
   ·simp only[h,if_true]<;>omega
   ·simp only[h,if_false]<;>omega
 ·cases hi with
  |none=>simp[sliceBounds,HT.sIx]
  |some i=>
   simp only[sliceBounds,HT.sIx,Option.getD_none,show(1:Int) >0 by decide,if_true]
   by_cases h:i<0
   ·simp only[h,if_true]<;>omega
   ·simp only[h,if_false]<;>omega
theorem slicePick_cut(its:List Value)(lo hi:Option Int):slicePick its.toArray lo hi none=((its.drop (HT.sIx its.length 0 lo)).take (HT.sIx its.length its.length hi - HT.sIx its.length 0 lo)).toArray:=by
 obtain⟨h1,h2,h3⟩:=slice_bounds lo hi its.toArray.size
 unfold slicePick
 rw[h1,h2,h3]
 simp only[sliceRange_one,pick_run,List.size_toArray]<;>rfl
noncomputable def rSlL(K:W.Frag):V→Option Int→Option Int→Hp→VK→Prop:=fun x lo hi H Q=>∃a xs,x=.ref a∧SqL K H a xs∧∀p,H p=none→Q (.ref p) (upd H p (.lst (cutV xs lo hi)))
theorem sl_list:SlR X (rSlL X.K):=by
 intro pins s σ H x v vl vu lo hi sl Q I rx hs pl pu h
 obtain⟨a,xs,rfl,hx,q⟩:=h
 cases rx
 obtain⟨its,r,ht,hz⟩:=I.list hx
 have hlen:=r.length
 refine⟨"list",_,slot_list_getitem.lookup,ht.isList.typeIs,?_⟩
 refine wpAny_getItem_list_slice ht.isList hs pl pu .none (by simp) ?_ (by rw[List.size_toArray]<;>omega)
 rw[slicePick_cut,←hlen]
 refine⟨.ref s.heap.objs.size,_,I.laid (t':=s.toks) (o:=.lst (cutV xs lo hi)) (fun b ob q=>Heap.get?_push_of_some _ q) (Nat.le_refl _) ?_,rfl,q _ (I.hok.fresh (Nat.le_refl _))⟩
 exact⟨Nat.le_trans (cutV_length xs lo hi) hz,_,0,(r.drop (HT.sIx xs.length 0 lo)).take (HT.sIx xs.length xs.length hi - HT.sIx xs.length 0 lo),Heap.get?_push_size _ rfl⟩
noncomputable def flatV:V→Bool
 |.non=>true
 |.bl _=>true
 |.int _=>true
 |.str _=>true
 |_=>false
noncomputable def eqV:V→V→Bool
 |.non,.non=>true
 |.bl a,.bl b=>a==b
 |.bl a,.int b=>(if a then 1 else 0)==b
 |.int a,.bl b=>a==(if b then 1 else 0)
 |.int a,.int b=>a==b
 |.str a,.str b=>a==b
 |_,_=>false
theorem eqAt_V{A:Around}{s:Shared}{y x:V}{u v:Value}(ry:RelV y u)(rx:RelV x v)(fy:flatV y=true)(fx:flatV x=true):SeqAt.EqAt A s u v (eqV y x):=by
 cases y with
 |non=>
  cases ry
  cases x with
  |non=>cases rx;exact SeqAt.EqAt.same _
  |bl b=>cases rx;exact SeqAt.EqAt.none_bool b
  |int b=>obtain⟨t,rfl⟩:=rx;exact SeqAt.EqAt.none_int b t
  |str b=>obtain⟨t,rfl⟩:=rx;exact SeqAt.EqAt.none_str b t
  |_=>exact absurd (show false=true from fx) Bool.false_ne_true
 |bl a=>
  cases ry
  cases x with
  |non=>cases rx;exact SeqAt.EqAt.bool_none a
  |bl b=>cases rx;exact SeqAt.EqAt.bool_bool a b
  |int b=>obtain⟨t,rfl⟩:=rx;exact SeqAt.EqAt.bool_int a b t
  |str b=>obtain⟨t,rfl⟩:=rx;exact SeqAt.EqAt.bool_str a b t
  |_=>exact absurd (show false=true from fx) Bool.false_ne_true
 |int a=>
  obtain⟨t',rfl⟩:=ry
  cases x with
  |non=>cases rx;exact SeqAt.EqAt.int_none a t'
  |bl b=>cases rx;exact SeqAt.EqAt.int_bool a t' b
  |int b=>obtain⟨t,rfl⟩:=rx;exact SeqAt.EqAt.int_int a t' b t
  |str b=>obtain⟨t,rfl⟩:=rx;exact SeqAt.EqAt.int_str a t' b t
  |_=>exact absurd (show false=true from fx) Bool.false_ne_true
 |str a=>
  obtain⟨t',rfl⟩:=ry
  cases x with
  |non=>cases rx;exact SeqAt.EqAt.str_none a t'
  |bl b=>cases rx;exact SeqAt.EqAt.str_bool a t' b
  |int b=>obtain⟨t,rfl⟩:=rx;exact SeqAt.EqAt.str_int a t' b t
  |str b=>obtain⟨t,rfl⟩:=rx;exact SeqAt.EqAt.str_str a t' b t
  |_=>exact absurd (show false=true from fx) Bool.false_ne_true
 |_=>exact absurd (show false=true from fy) Bool.false_ne_true
noncomputable def eqU(x:V)(u:Value):Bool:=match u with
 |.none=>eqV .non x
 |.bool b=>eqV (.bl b) x
 |.int i _=>eqV (.int i) x
 |.str z _=>eqV (.str z) x
 |_=>false
theorem eqU_of{x y:V}{u:Value}(r:RelV y u)(f:flatV y=true):eqU x u=eqV y x:=by
 cases y with
 |non=>cases r;rfl
 |bl b=>cases r;rfl
 |int i=>obtain⟨t,rfl⟩:=r;rfl
 |str z=>obtain⟨t,rfl⟩:=r;rfl
 |_=>exact absurd (show false=true from f) Bool.false_ne_true
theorem any_eqU{x:V}:∀{xs:List V} {us:List Value},Vals xs us→xs.all flatV=true→us.any (eqU x)=xs.any fun y=>eqV y x
 |_,_,.nil,_=>rfl
 |y::xs,u::us,.cons r t,f=>by
  rw[List.all_cons,Bool.and_eq_true]at f
  rw[List.any_cons,List.any_cons,eqU_of r f.1,any_eqU t f.2]
theorem mem_eqAt{A:Around}{s:Shared}{x:V}{v:Value}(rx:RelV x v)(fx:flatV x=true):∀{xs:List V} {us:List Value},Vals xs us→xs.all flatV=true→∀u∈us,SeqAt.EqAt A s u v (eqU x u)
 |_,_,.nil,_=>fun u hu=>by cases hu
 |y::xs,u::us,.cons r t,f=>fun u' hu=>by
  rw[List.all_cons,Bool.and_eq_true]at f
  rcases List.mem_cons.mp hu with rfl|hu
  ·rw[eqU_of r f.1];exact eqAt_V r rx f.1 fx
  ·exact mem_eqAt rx fx t f.2 u' hu
noncomputable def inV(x:V)(xs:List V):Bool:=xs.any fun y=>eqV y x
noncomputable def rIn(K:W.Frag)(neg:Bool):R2:=fun x y H Q=>∃p xs,y=.ref p∧(SqL K H p xs∨SqT K H p xs)∧flatV x=true∧xs.all flatV=true∧Q (.bl (if neg then !inV x xs else inV x xs)) H
theorem op_in_seq:OpR X (compareOp .In) (rIn X.K false):=by
 intro pins s σ H x y v u Q I rx ry h
 obtain⟨p,xs,rfl,hq,fx,fs,q⟩:=h
 cases ry
 rcases hq with hq|hq
 ·obtain⟨its,r,pl,hz⟩:=I.list hq
  refine SeqAt.in_listAt (eqU x) pl.isList (fun w hw=>mem_eqAt rx fx r fs w (by simpa using hw)) ⟨.bl _,H,I,rfl,?_⟩
  rw[show its.toArray.any (eqU x)=its.any (eqU x) by simp,any_eqU r fs]
  exact q
 ·obtain⟨its,r,pl,hz⟩:=I.tuple hq
  refine SeqAt.in_tupleAt (eqU x) pl (fun w hw=>mem_eqAt rx fx r fs w (by simpa using hw)) ⟨.bl _,H,I,rfl,?_⟩
  rw[show its.toArray.any (eqU x)=its.any (eqU x) by simp,any_eqU r fs]
  exact q
theorem op_notIn_seq:OpR X (compareOp .NotIn) (rIn X.K true):=by
 intro pins s σ H x y v u Q I rx ry h
 obtain⟨p,xs,rfl,hq,fx,fs,q⟩:=h
 cases ry
 rcases hq with hq|hq
 ·obtain⟨its,r,pl,hz⟩:=I.list hq
  refine SeqAt.notIn_listAt (eqU x) pl.isList (fun w hw=>mem_eqAt rx fx r fs w (by simpa using hw)) ⟨.bl _,H,I,rfl,?_⟩
  rw[show its.toArray.any (eqU x)=its.any (eqU x) by simp,any_eqU r fs]
  exact q
 ·obtain⟨its,r,pl,hz⟩:=I.tuple hq
  refine SeqAt.notIn_tupleAt (eqU x) pl (fun w hw=>mem_eqAt rx fx r fs w (by simpa using hw)) ⟨.bl _,H,I,rfl,?_⟩
  rw[show its.toArray.any (eqU x)=its.any (eqU x) by simp,any_eqU r fs]
  exact q
theorem call_len_seq:CallR X (.builtin "len") (fun xs H Q=>∃p ys,xs=[.ref p]∧(SqL X.K H p ys∨SqT X.K H p ys)∧Q (.int ys.length) H):=by
 intro pins s σ H xs us Q I r h
 obtain⟨p,ys,rfl,hq,q⟩:=h
 obtain⟨u,rfl,rx⟩:=vals1 r
 cases rx
 have hn:=line63
 rcases hq with hq|hq
 ·obtain⟨its,r',pl,hz⟩:=I.list hq
  have hlen:=r'.length
  exact Calls.call_len_list pl.isList (by simp only[List.size_toArray]<;>omega) ⟨.int ys.length,H,I.tok _,⟨s.toks+1,by rw[List.size_toArray,hlen]⟩,q⟩
 ·obtain⟨its,r',pl,hz⟩:=I.tuple hq
  have hlen:=r'.length
  exact len_tuple pl (by simp only[List.size_toArray]<;>omega) ⟨.int ys.length,H,I.tok _,⟨s.toks+1,by rw[List.size_toArray,hlen]⟩,q⟩
theorem call_list_of:CallR X (.type "list") (fun xs H Q=>∃p ys,xs=[.ref p]∧(SqL X.K H p ys∨SqT X.K H p ys)∧∀l,H l=none→Q (.ref l) (upd H l (.lst ys))):=by
 intro pins s σ H xs us Q I r h
 obtain⟨p,ys,rfl,hq,q⟩:=h
 obtain⟨u,rfl,rx⟩:=vals1 r
 cases rx
 have fin:∀(its:List Value),Vals ys its→ys.length≤sizeLine→∀(h':Heap) (c':Nat),(∀b o',s.heap.get? b=some o'→h'.get? b=some o')→
   h'.get? s.heap.objs.size=some {cls:=.type "list",dict:=none,data:=.seq its.toArray c',slots:= #[]}→EP X pins σ Q (.ref s.heap.objs.size) {s with heap:=h'}:=fun its r' hz h' c' kp e=>
  ⟨.ref s.heap.objs.size,_,I.laid (t':=s.toks) kp (Nat.le_refl _) (show ObjOk X.prog X.w _ h' _ (.lst ys)from⟨hz,its,c',r',e⟩),rfl,q _ (I.hok.fresh (Nat.le_refl _))⟩
 rcases hq with hq|hq
 ·obtain⟨its,r',pl,hz⟩:=I.list hq
  have hlen:=r'.length
  obtain⟨o,ho,hc,n,hd⟩:=pl.isList
  exact call_list_seq p (.inl rfl) ho hc hd (fun h' c' kp e=>fin its r' hz h' c' kp e) (by simp only[List.size_toArray]<;>omega)
 ·obtain⟨its,r',pl,hz⟩:=I.tuple hq
  have hlen:=r'.length
  obtain⟨o,ho,hc,n,hd⟩:=pl
  exact call_list_seq p (.inr rfl) ho hc hd (fun h' c' kp e=>fin its r' hz h' c' kp e) (by simp only[List.size_toArray]<;>omega)
noncomputable def tyV(K:W.Frag)(T:String)(x:V)(H:Hp):Prop:=match x with
 |.str _=>T="str"
 |.int _=>T="int"
 |.ref p=>(T="list"∧∃xs,SqL K H p xs)∨(T="tuple"∧∃o,K.lookup p=some o∧o.cls=.type "tuple"∧o.dict=none)∨
   (T="dict"∧((∃kvs,H p=some (.dK kvs))∨∃kvs,H p=some (.dT kvs)))∨(T="set"∧∃S n,H p=some (.set S n))
 |_=>False
theorem tyV_is{pins:List (Addr×Obj)}{σ:St}{H:Hp}{s:Shared}{T:String}{x:V}{v:Value}(I:Inv X pins σ H s)(r:RelV x v)(ty:tyV X.K T x H):
  s.TypeIs v T∧∀a,v=.ref a→∃ob,s.heap.get? a=some ob∧ob.dict=none:=by
 cases x with
 |str z=>
  obtain⟨t,rfl⟩:=r
  cases(show T="str" from ty)
  exact⟨typeIs_str s z t,fun _ e=>nomatch e⟩
 |int i=>
  obtain⟨t,rfl⟩:=r
  cases(show T="int" from ty)
  exact⟨typeIs_int s i t,fun _ e=>nomatch e⟩
 |ref p=>
  cases r
  rcases ty with⟨rfl,xs,hq⟩|⟨rfl,o,hk,hc,hd⟩|⟨rfl,hk⟩|⟨rfl,S,n,hk⟩
  ·obtain⟨its,_,pl,_⟩:=I.list hq
   refine⟨pl.isList.typeIs,fun a e=>?_⟩
   cases e
   obtain⟨o,n,e,c,hd,_⟩:=pl
   exact⟨o,e,hd⟩
  ·refine⟨⟨o,I.kIn p o hk,hc⟩,fun a e=>?_⟩
   cases e
   exact⟨o,I.kIn _ o hk,hd⟩
  ·have z:∃o,s.heap.get? p=some o∧o.ExactDict:=by
    rcases hk with⟨kvs,hk⟩|⟨kvs,hk⟩
    ·obtain⟨_,_,_,_,o,_,_,e,ex,_⟩:=I.hok p _ hk
     exact⟨o,e,ex⟩
    ·obtain⟨_,_,_,_,o,_,_,e,ex,_⟩:=I.hok p _ hk
     exact⟨o,e,ex⟩
   obtain⟨o,e,ex⟩:=z
   refine⟨⟨o,e,ex.1⟩,fun a e2=>?_⟩
   cases e2
   exact⟨o,e,ex.2.1⟩
  ·obtain⟨o,_,_,_,e,ex,_⟩:=I.hok p _ hk
   refine⟨⟨o,e,ex.1⟩,fun a e2=>?_⟩
   cases e2
   exact⟨o,e,ex.2.1⟩
 |_=>exact False.elim ty
noncomputable def tBM(K:W.Frag)(T:String)(r:V→List V→Hp→VK→Prop)(to:TE)(t:TA):TE:=fun σ H Q=>to σ H fun x H1=>tyV K T x H1∧t σ H1 fun xs H2=>r x xs H2 Q
variable{o e:Expr}{es:List Expr}{to:TE}{t:TA}{name:Str}{apos cpos:Pos}{T id:String}{r:V→List V→Hp→VK→Prop}
theorem pe_bm(pa:PlainAttrs T)(slot:Slot T name id)(hty:typeOf (.builtin id)=pure (.type "method_descriptor"))(hm:MtR X id r)(ho:PE X o to)(ha:PA X (e::es) t)
  (hbase:attributeBase o name X.env (eval o X.env)=eval o X.env:=by rfl)
  (hfew:((backTo cpos (starEach (e::es) X.env)).all (fun x=>!x.1) && (backToKw cpos (keywordEach [] X.env)).all (fun x=>x.1.isSome)
   && decide ((e::es).length+([]:List Keyword).length+(if([]:List Keyword).isEmpty then 0 else 1)<30))=true:=by rfl)
  (hline:(apos.endLine==cpos.line)=true:=by rfl) (hs:starEach (e::es) X.env=(false,eval e X.env)::starEach es X.env:=by rfl) (hplain:(backTo cpos (starEach es X.env)).any (·.1)=false:=by rfl):
  PE X (.Call (.Attribute o name apos) (e::es) [] cpos) (tBM X.K T r to t):=by
 intro pins s σ H Q I h
 refine wpAny_Call_method_late hbase hfew hline rfl (thn (ho pins s σ H _ I h) fun v s1 ⟨x,H1,I1,r1,ty,q1⟩=>?_)
 obtain⟨h1,h2⟩:=tyV_is I1 r1 ty
 refine⟨T,id,pa,slot,hty,h1,h2,?_⟩
 have hA:=ha cpos pins s1 σ H1 _ I1 q1
 rw[hs]at hA⊢
 refine Calls.callWith_builtin (by show(false||(backTo cpos (starEach es X.env)).any (·.1))=false;rw[hplain]<;>rfl) (Calls.evalArgs_plain ?_)
 exact thn hA fun us s2 ⟨vs,H2,I2,r2,q2⟩=>hm pins s2 σ H2 x vs v us Q I2 r1 r2 q2
end
noncomputable def MtM(X:Cx)(id:String)(r:V→List V→Hp→VK→Prop):Prop:=
 ∀(pins:List (Addr×Obj)) (s:Shared) (σ:St) (H:Hp) (x:V) (xs:List V) (v:Value) (us:List Value) (Q:VK),Inv X pins σ H s→RelV x v→Vals xs us→r x xs H Q→
  wpAny (model X.prog X.w) X.A (call (.builtin id) (v::us)) (EP X pins σ Q) X.xe s
theorem Vals.one:∀{x:V} {us:List Value},Vals [x] us→∃u,us=[u]∧RelV x u
 |_,_,.cons r .nil=>⟨_,rfl,r⟩
theorem Vals.eraseIdx:∀{xs:List V} {us:List Value} (i:Nat),Vals xs us→Vals (xs.eraseIdx i) (us.eraseIdx i)
 |_,_,_,.nil=>.nil
 |_,_,0,.cons _ t=>t
 |_,_,i+1,.cons r t=>.cons r (Vals.eraseIdx i t)
theorem len_erase{α:Type}:∀(l:List α) (i:Nat),(l.eraseIdx i).length≤l.length
 |[],_=>Nat.le_refl _
 |_::_,0=>Nat.le_succ _
 |_::r,i+1=>Nat.succ_le_succ (len_erase r i)
section
variable{X:Cx}{pins:List (Addr×Obj)}{σ:St}{H:Hp}{s:Shared}{l b:Addr}{xs ys zs:List V}
theorem Inv.lset{its its':List Value}{n:Nat}{f:Array Value→Array Value}{t':Nat}(I:Inv X pins σ H s)(hH:H l=some (.lst xs))
  (e:s.heap.get? l=some {cls:=.type "list",data:=.seq its.toArray n}) (hf:f its.toArray=its'.toArray) (hv:Vals ys its') (hz:ys.length≤sizeLine):
  Inv X pins σ (upd H l (.lst ys)) {s with heap:=s.heap.update l (Obj.mapSeq f),toks:=t'}:=by
 have q:=PySem.IsL.update e f
 rw[hf]at q
 refine I.write (x:=l) (e:=l) (by rw[hH];exact trivial) (.inl rfl) (fun b' u hb hu=>(Heap.get?_update_other s.heap (Obj.mapSeq f) (Ne.symm hb)).trans hu) ⟨_,q⟩ ?_
 exact⟨hz,its',_,hv,q⟩
theorem Inv.lnew{its:List Value}{t':Nat}(I:Inv X pins σ H s)(hv:Vals ys its)(hz:ys.length≤sizeLine):
  Inv X pins σ (upd H s.heap.objs.size (.lst ys)) {s with heap:=s.heap.push {cls:=.type "list",data:=.seq its.toArray},toks:=t'}:=
 I.laid (fun _ _ q=>Heap.get?_push_of_some _ q) (Nat.le_refl _) ⟨hz,its,0,hv,Heap.get?_push_size _ rfl⟩
theorem Inv.fresh(I:Inv X pins σ H s):H s.heap.objs.size=none:=I.hok.fresh (Nat.le_refl _)
theorem Inv.lstM(I:Inv X pins σ H s)(hH:H l=some (.lst xs)):xs.length≤sizeLine∧∃(its:List Value) (n:Nat),Vals xs its∧xs.length=its.length∧s.heap.get? l=some {cls:=.type "list",data:=.seq its.toArray n}:=by
 obtain⟨z,its,n,r,e⟩:=I.hok l _ hH
 exact⟨z,its,n,r,r.length,e⟩
theorem notLongL{n:Nat}(h:n≤sizeLine):Builtin.List.listTooLong n=false:=by
 unfold Builtin.List.listTooLong
 exact decide_eq_false (by omega)
end
section
variable{X:Cx}
noncomputable def rAppend:V→List V→Hp→VK→Prop:=fun x vs H Q=>∃l xs y,x=.ref l∧vs=[y]∧H l=some (.lst xs)∧xs.length<sizeLine∧Q .non (upd H l (.lst (xs++[y])))
theorem mt_append:MtM X "list.append" rAppend:=by
 intro pins s σ H x vs v us Q I rx rv h
 obtain⟨l,xs,y,rfl,rfl,hH,hz,q⟩:=h
 cases rx
 obtain⟨u,rfl,ru⟩:=rv.one
 obtain⟨z,its,n,r,hl,e⟩:=I.lstM hH
 refine call_meets F.slot_list_append ⟨_,e,rfl⟩ F.entry_list_append (F.args_list_append_2 _ _) (PySem.list_append l its.toArray n u (by rw[List.size_toArray];omega)) ⟨e,?_⟩
 refine⟨.non,_,I.lset (its':=its++[u]) hH e (by simp) (r.append (.cons ru .nil)) ?_,rfl,q⟩
 rw[List.length_append,List.length_singleton]
 omega
noncomputable def rExtend:V→List V→Hp→VK→Prop:=fun x vs H Q=>∃l b xs zs,x=.ref l∧vs=[.ref b]∧H l=some (.lst xs)∧H b=some (.lst zs)∧xs.length+zs.length≤sizeLine∧Q .non (upd H l (.lst (xs++zs)))
theorem mt_extend:MtM X "list.extend" rExtend:=by
 intro pins s σ H x vs v us Q I rx rv h
 obtain⟨l,b,xs,zs,rfl,rfl,hH,hB,hz,q⟩:=h
 cases rx
 obtain⟨u,rfl,ru⟩:=rv.one
 cases ru
 obtain⟨z,its,n,r,hl,e⟩:=I.lstM hH
 obtain⟨z2,its2,n2,r2,hl2,e2⟩:=I.lstM hB
 have hsz:its.toArray.size+its2.toArray.size≤sizeLine:=by rw[List.size_toArray,List.size_toArray];omega
 have hlong:¬(!its.toArray.isEmpty && Builtin.List.listTooLong (its.toArray.size+its2.toArray.size))=true:=by
  rw[notLongL hsz,Bool.and_false]
  exact Bool.false_ne_true
 refine call_meets F.slot_list_extend ⟨_,e,rfl⟩ F.entry_list_extend (F.args_list_extend_2 _ _)
  (AutoSeq1.list_extend_list_list_0 l its.toArray n b its2.toArray n2 hlong (by rw[List.size_toArray];omega) (by omega)) ⟨e,e2,?_⟩
 refine⟨.non,_,I.lset (its':=its++its2) hH e (by simp) (r.append r2) ?_,rfl,q⟩
 rw[List.length_append]
 omega
noncomputable def rPopAt:V→List V→Hp→VK→Prop:=fun x vs H Q=>∃l xs i k y,x=.ref l∧vs=[.int i]∧H l=some (.lst xs)∧ -(2 ^ 63)≤i∧i<2 ^ 63∧seqIndex? i xs.length=some k∧xs[k]?=some y∧Q y (upd H l (.lst (xs.eraseIdx k)))
theorem mt_popAt:MtM X "list.pop" rPopAt:=by
 intro pins s σ H x vs v us Q I rx rv h
 obtain⟨l,xs,i,k,y,rfl,rfl,hH,h1,h2,hk,hy,q⟩:=h
 cases rx
 obtain⟨u,rfl,ru⟩:=rv.one
 obtain⟨t,rfl⟩:=ru
 obtain⟨z,its,n,r,hl,e⟩:=I.lstM hH
 obtain⟨w,hw,rw'⟩:=r.get hy
 refine call_meets F.slot_list_pop ⟨_,e,rfl⟩ F.entry_list_pop (F.args_list_pop_2 _ _)
  (MeetsSeq.list_pop_at l its.toArray n i t k w (fitsIndex_both h1 h2) (by rw[List.size_toArray,←hl];exact hk) (by rw[←Array.getElem?_toList];exact hw) (by rw[List.size_toArray];omega)) ⟨e,?_⟩
 refine⟨y,_,I.lset (its':=its.eraseIdx k) hH e ?_ (r.eraseIdx k) ?_,rw',q⟩
 ·show its.toArray.eraseIdxIfInBounds k=(its.eraseIdx k).toArray
  rw[List.eraseIdxIfInBounds_toArray]
 ·have:=len_erase xs k
  omega
noncomputable def rCat:R2:=fun x y H Q=>∃l b xs zs,x=.ref l∧y=.ref b∧H l=some (.lst xs)∧H b=some (.lst zs)∧xs.length+zs.length≤sizeLine∧∀p,H p=none→Q (.ref p) (upd H p (.lst (xs++zs)))
theorem op_cat:OpR X (binaryOp .Add) rCat:=by
 intro pins s σ H x y v u Q I rx ry h
 obtain⟨l,b,xs,zs,rfl,rfl,hH,hB,hz,q⟩:=h
 cases rx
 cases ry
 obtain⟨z,its,n,r,hl,e⟩:=I.lstM hH
 obtain⟨z2,its2,n2,r2,hl2,e2⟩:=I.lstM hB
 refine PySem.P.add_list e e2 ?_ (by rw[List.size_toArray,List.size_toArray];omega)
 have ea:its.toArray++its2.toArray=(its++its2).toArray:=by simp
 rw[ea]
 exact⟨.ref _,_,I.lnew (t':=s.toks) (r.append r2) (by rw[List.length_append];omega),rfl,q _ I.fresh⟩
end
section
variable{prog:Program}{w:World}{A:Around}{E:Value→Shared→Prop}{s:Shared}
end
section
variable{X:Cx}
end
end L2
namespace Att
open PySem PySem.W PySem.Calls PyProof.Rows
theorem ints_of_wellAll{P:Params}{h:Heap}:∀(ns:List Int) (vs:List Value),WellAll P h vs (ns.map WData.int)→IntsAre vs ns:=by
 intro ns
 induction ns with
 |nil=>
  intro vs w
  rw[List.map_nil]at w
  cases w
  exact .nil
 |cons n ns ih=>
  intro vs w
  rw[List.map_cons]at w
  cases w with
  |cons a b=>
   cases a
   exact .cons _ _ (ih _ b)
theorem script_of{l:OpenLaw}{n:Nat}(hn:l.most=some n){P:Params}{h:Heap}{args:List WData}{vals:List Value}
  (hpre:l.row.toRowW.claim.pre args=true) (hwl:WellAll P h vals args):
  ∃a vs ns,vals=[Value.ref a]∧args=[WData.list (ns.map WData.int)]∧h.get? a=some {cls:=.type "list",data:=.seq vs.toArray}∧IntsAre vs ns∧ns.length≤n:=by
 have hsh:WShape.hasAll [] args [.list .int]=true:=(pre_splitW hpre).1
 have hc:l.pre.holds [] {args:=args}=true:=(pre_splitW hpre).2
 obtain⟨d,r,rfl,h1,h2⟩:=hasAllW_cons hsh
 obtain rfl:=hasAllW_nil h2
 obtain⟨xs,rfl,h3⟩:=hasW_list h1
 obtain⟨ns,rfl⟩:=items_int h3
 have hlen:ns.length≤n:=by
  unfold OpenLaw.pre at hc
  have h4:(WTm.not (.lt (.lit (.int (n:Int))) (.len (.arg 0)))).holds [] {args:=[.list (ns.map .int)]}=true:=by
   have h4:=(holds_andW hc).1
   rw[hn]at h4
   exact h4
  have h5:=condW_of h4 (w_not (w_lt w_lit (w_len_list (w_arg rfl))))
  rw[List.length_map]at h5
  refine Nat.le_of_not_lt fun q=>?_
  have q':(n:Int)<((ns.length:Nat):Int):=by omega
  first
   |(rw[decide_eq_true q']at h5;exact absurd h5 (by decide))
   |(simp at h5;omega)
 cases hwl with
 |cons w1 w2=>
  cases w2
  cases w1 with
  |list ho hall=>exact⟨_,_,ns,rfl,rfl,ho,ints_of_wellAll ns _ hall,hlen⟩
theorem post_true(l:OpenLaw)(args:List WData):l.row.toRowW.claim.post args (.bool true) args=true:=
 postW_of (r:=l.row.toRowW) (X:=(true==true))
  (show WShape.has [] (.bool true) .bool=true by first|rfl|decide|simp[WShape.has,WShape.arms,WShape.armsAll])
  (show(WTm.eq .res (.lit (.bool true))).value [] {args:=args,res:=some (.bool true),after:=args}=some (.bool (true==true))from w_eq_bool (w_res rfl) w_lit) rfl
theorem attach_call{l:OpenLaw}{n:Nat}{q:Program}{loose:List Str}{XP:(Str→Option Value)→Heap→Prop}{YP:World→Heap→Prop}{d:DefRec}
  (hn:l.most=some n) (hdf:d.params.defaults=[])
  (call:∀(w:World) (s₀ s₁:Shared) (mg mb:Str→Option Value) (fa:Addr) (o:Obj) (pm cd doc:Value) (a:Addr) (vs:List Value) (ns:List Int),
   Ground q loose [] XP w s₀ mg mb s₁.heap→YP w s₁.heap→
   s₁.heap.get? fa=some o→o.data=.func (docDef d.name d.params d.body d.scope pm cd doc)→s₁.heap.CodeRec cd d.name→mg d.name=some (.ref fa)→
   s₁.heap.get? a=some {cls:=.type "list",data:=.seq vs.toArray}→IntsAre vs ns→ns.length≤n→s₁.gens= #[]→
   codeAny (model l.prog w) callerA (.call (.ref fa) ⟨[.ref a],[]⟩) (fun r s'=>r=.ok (.ret (.bool true))∧OldK s₁.heap s'.heap∧s'.os=s₁.os∧AllBare s'.gens) s₁):
  WalkO q loose XP YP l.row.toRowW d [] (fun f vs=>PySem.call f vs):=by
 intro w s₀ s₁ mg mb G Y fa o pm cd doc dV kV ho hd hcd hD hmg hg args vals as hpre hlay hrd hwl hlo
 obtain rfl:dV=.none:=Dflts.none hD hdf
 obtain rfl:kV=.none:=Dflts.noKw hD
 obtain⟨a,vs,ns,rfl,rfl,hobj,hints,hlen⟩:=script_of hn hpre hwl
 refine enter_call (codeAny_mono (call w s₀ s₁ mg mb fa o pm cd doc a vs ns G Y ho (fd_plain hd) hcd hmg hobj hints hlen hg) fun r s' hq=>?_)
 obtain⟨rfl,h2,h3,h4⟩:=hq
 exact⟨.inl ⟨.bool true,.bool true,[],rfl,fun _=>rfl,.bool true,post_true l _,fun _=>⟨List.Pairwise.nil,fun _ hm=>(nomatch hm)⟩⟩,h2,h3,h4⟩
section
variable{prog:Program}{w:World}{A:Around}{E:Value→Shared→Prop}{s:Shared}{K:Frag}
end
end Att
namespace L2
open PySem PySem.Spec PyProof.Rows
theorem vals_ints:∀{vs:List Value} {ns:List Int},IntsAre vs ns→Vals (ns.map V.int) vs
 |_,_,.nil=>.nil
 |_,_,.cons n t h=>.cons ⟨t,rfl⟩ (vals_ints h)
noncomputable def Only(H:Hp):Prop:=∀b,H b=none∨∃o xs,H b=some (.frz o (.lst xs))
theorem law_call{P:Program}{w:World}{K:W.Frag}{mg mb:Str→Option Value}{CX:CXT}{k:Nat}{fa a:Addr}{fd:FuncData}{x:Str}{sp:Sp}{s₁:Shared}{vs:List Value}{ns:List Int}
  (KX:K.In s₁.heap) (hns:s₁.heap.Ns mainGlobals mg) (hb:s₁.heap.Ns builtinsNs mb) (hbb:∀x:Str,x≠"__name__"→mb x=bootBuiltins x) (hlim:s₁.heap.NoLimit) (hg:s₁.gens= #[])
  (ha:s₁.heap.get? a=some {cls:=.type "list",data:=.seq vs.toArray}) (hi:IntsAre vs ns) (hl:ns.length≤sizeLine) (hr:Room k callerA)
  (F:∀base:Heap,K.In base→base.Ns mainGlobals mg→FnOk P w K mg base CX k fa fd [x] sp) (hbind:∀(s:Shared) (u:Value),BindsTo s fd ⟨[u],[]⟩ [(x,u)])
  (hsp:∀H:Hp,Only H→SqL K H a (ns.map V.int)→sp [.ref a] H (fun v _=>v=.bl true) fun _ _ _=>False)
  (hCX:∀H e s',CX [] H s₁ (fun _ _ _=>False) e s'→False):
  codeAny (model P w) callerA (.call (.ref fa) ⟨[.ref a],[]⟩) (fun r s'=>r=.ok (.ret (.bool true))∧OldK s₁.heap s'.heap∧s'.os=s₁.os∧AllBare s'.gens) s₁:=by
 have rv:=vals_ints hi
 have lenV:=hi.length
 have core:∀H:Hp,Only H→SqL K H a (ns.map V.int)→HOk P w H s₁.heap→(∀b,H b≠none→b=a)→(H a≠none→K.lookup a=none)→
   codeAny (model P w) callerA (.call (.ref fa) ⟨[.ref a],[]⟩) (fun r s'=>r=.ok (.ret (.bool true))∧OldK s₁.heap s'.heap∧s'.os=s₁.os∧AllBare s'.gens) s₁:=by
  intro H hO hS hok hA hK
  have base_of:∀{b:Addr} {o:Obj},s₁.heap.get? b=some o→H b=none→(hidT s₁.heap H).get? b=some o:=fun e n=>hidT_get e n
  have noA:∀{b:Addr} {o:Obj} {es:Array DictEntry} {ep:Nat},s₁.heap.get? b=some o→o.data=.dict es ep→H b=none:=fun{b o es ep} e d=>by
   cases q:H b with
   |none=>rfl
   |some u=>
    have e':b=a:=hA b (by rw[q];simp)
    subst e'
    rw[ha]at e;cases e
    have d':Data.seq vs.toArray _=Data.dict es ep:=d
    cases d'
  have nsK:∀{b:Addr} {m:Str→Option Value},s₁.heap.Ns b m→(hidT s₁.heap H).Ns b m:=fun{b m} ⟨o,es,ep,e,d,r⟩=>⟨o,es,ep,base_of e (noA e d),d,r⟩
  have hKb:K.In (hidT s₁.heap H):=fun b o e=>base_of (KX b o e) (by
   cases q:H b with
   |none=>rfl
   |some u=>
    have e':b=a:=hA b (by rw[q];simp)
    subst e'
    rw[hK (by rw[q];simp)]at e;cases e)
  have hM:Mod K mg (hidT s₁.heap H):=⟨hKb,nsK hns,⟨mb,nsK hb,hbb⟩,let⟨mc,h1,h2⟩:=hlim;⟨mc,nsK h1,h2⟩⟩
  have e0:Env0 P w K mg (hidT s₁.heap H) callerA [] s₁ H:=⟨rfl,hM,fun b o e=>of_hidT e,Nat.le_of_eq (hidT_size _ _),trivial,fun b hb=>absurd (show b∈([]:List Addr)from hb) (by simp),hok,.of_eq hg⟩
  refine codeAny_mono ((F _ hKb (nsK hns)).run callerA [] s₁ H ⟨[.ref a],[]⟩ [.ref a] [.ref a] _ _ hr e0 (hbind s₁ (.ref a)) (.cons rfl .nil) (hsp H hO hS)) fun r s' h=>?_
  cases r with
  |error e=>exact(hCX H e s' h).elim
  |ok fl=>
   cases fl with
   |next=>exact False.elim h
   |brk=>exact False.elim h
   |cont=>exact False.elim h
   |ret u=>
    obtain⟨v,H',os,bare,un,hok',r',q⟩:=h
    have q':v=.bl true:=q
    subst q'
    obtain rfl:u=Value.bool true:=r'
    refine⟨rfl,OldK.of_keep fun b o e=>?_,os,bare⟩
    cases q:H b with
    |none=>exact un.keep b o e q (by intro z;exact absurd (show b∈([]:List Addr)from z) (by simp)) (by simp)
    |some u=>
     rcases hO b with z|⟨ob,xs,z⟩
     ·rw[q]at z;cases z
     ·have z2:=un.frzs b ob _ z
      obtain⟨e1,_⟩:=hok b _ z
      obtain⟨e2,_⟩:=hok' b _ z2
      rw[e]at e1;cases e1
      exact e2
 cases hk:K.lookup a with
 |some o=>
  have e:=KX a o hk
  rw[ha]at e
  cases e
  refine core (fun _=>none) (fun _=>.inl rfl) (.inr ⟨_,vs.toArray,_,hk,rfl,rfl,rfl,by rw[List.size_toArray,lenV];exact hl,by simpa using rv⟩) (fun b u z=>by have z':(none:Option HO)=some u:=z;cases z') (fun b z=>absurd rfl z) fun z=>absurd rfl z
 |none=>
  refine core (fun b=>if b=a then some (.frz {cls:=.type "list",data:=.seq vs.toArray} (.lst (ns.map V.int)))else none) (fun b=>?_) (.inl (.inr ⟨{cls:=.type "list",data:=.seq vs.toArray},if_pos rfl⟩)) (fun b u z=>?_) (fun b z=>?_) fun _=>hk
  ·by_cases hb:b=a
   ·exact .inr ⟨_,_,if_pos hb⟩
   ·exact .inl (if_neg hb)
  ·by_cases hb:b=a
   ·have z':=(if_pos hb).symm.trans z
    cases z'
    subst hb
    exact⟨ha,by rw[List.length_map];exact hl,vs,_,rv,ha⟩
   ·have z':=(if_neg hb).symm.trans z
    cases z'
  ·by_cases hb:b=a
   ·exact hb
   ·exact absurd (if_neg hb) z
theorem walk_of{l:W.OpenLaw}{n k:Nat}{q:Program}{loose:List Str}{XP:(Str→Option Value)→Heap→Prop}{YP:World→Heap→Prop}{d:DefRec}{K:Params→W.Frag}{CX:World→CXT}{sp:World→Sp}{x:Str}
  (hn:l.most=some n) (hn2:n≤sizeLine) (hdf:d.params.defaults=[]) (hr:Room k callerA)
  (hY:∀(w:World) (h:Heap),YP w h→(K w.params).In h)
  (F:∀(w:World) (mg:Str→Option Value) (fa:Addr) (h:Heap),(K w.params).In h→h.Ns mainGlobals mg→mg d.name=some (.ref fa)→
   ∃fd:FuncData,(∀(s:Shared) (u:Value),BindsTo s fd ⟨[u],[]⟩ [(x,u)])∧
    ∀base:Heap,(K w.params).In base→base.Ns mainGlobals mg→FnOk l.prog w (K w.params) mg base (CX w) k fa fd [x] (sp w))
  (hsp:∀(w:World) (H:Hp) (a:Addr) (ns:List Int),ns.length≤n→Only H→SqL (K w.params) H a (ns.map V.int)→sp w [.ref a] H (fun v _=>v=.bl true) fun _ _ _=>False)
  (hCX:∀(w:World) (H:Hp) (s:Shared) (e:Value) (s':Shared),CX w [] H s (fun _ _ _=>False) e s'→False):
  W.WalkO q loose XP YP l.row.toRowW d [] (fun f vs=>PySem.call f vs):=by
 refine Att.attach_call hn hdf fun w s₀ s₁ mg mb fa o pm cd doc a vs ns G Y ho hd hcd hmg hobj hints hlen hg=>?_
 have KX:=hY w _ Y
 obtain⟨fd,hb,hF⟩:=F w mg fa _ KX G.T.g hmg
 exact law_call KX G.T.g G.T.b G.T.builtins G.T.nolimit hg hobj hints (Nat.le_trans hlen hn2) hr hF hb (fun H hO hS=>hsp w H a ns hlen hO hS) fun H e s'=>hCX w H s₁ e s'
noncomputable def defArgs(s:Stmt):Arguments:=match s with
 |.FunctionDef _ a _ _ _ _ _ _ _ _=>a
 |_=>{posonlyargs:=[],args:=[],vararg:=none,kwonlyargs:=[],kw_defaults:=[],kwarg:=none,defaults:=[]}
noncomputable def defBody(s:Stmt):List Stmt:=match s with
 |.FunctionDef _ _ b _ _ _ _ _ _ _=>b
 |_=>[]
noncomputable def defScope(s:Stmt):Scope:=match s with
 |.FunctionDef _ _ _ _ _ _ sc _ _ _=>sc
 |_=>{kind:=.function,names:=[],isGenerator:=false,isCoroutine:=false}
abbrev CX0:CXT:=fun _ _ _ _ _ _=>False
abbrev E0:XK:=fun _ _ _=>False
theorem pass0{X:Cx}:Passes CX0 X E0:=fun _ _ _ _ _ _ _ h=>h.elim
structure Fun(K:W.Frag)(x qual:Str)(st:Stmt)(f:Addr)(fd:FuncData):Prop where
 ex:∃(oc:Value) (od:Option Addr) (kV doc pm:Value) (an:Option Addr) (cdv ct:Value) (osl:Array (Option Value)),
  fd=W.fnOf x qual (defArgs st) (defBody st) (defScope st) .none kV doc pm an cdv ct∧K.lookup f=some ⟨oc,od,.func fd,osl⟩∧W.codeIn K cdv qual=true
 kp:W.keepIn K (.ref f)=true
section
variable{P:Program}{w:World}{K:W.Frag}{mg:Str→Option Value}{base:Heap}
theorem Fun.ok{x qual:Str}{st:Stmt}{f:Addr}{fd:FuncData}{N ps:List Str}{k:Nat}{sp:Sp}(F:Fun K x qual st f fd)(S:FnScope N ps (defScope st))(len:∀vs H Q E,sp vs H Q E→vs.length=ps.length)
  (hbody:∀(cdv:Value) (A:Around) (outer:List Env) (s:Shared) (H:Hp) (vs:List V) (Q:VK) (E:XK),Room k (A.deeper (envOfC qual (defScope st) s.heap.objs.size f cdv))→sp vs H Q E→
   ∃t,PSs (cxOf CX0 P w K mg base N qual (defScope st) f cdv A outer s H E).nox (defBody st) t∧t {nx:=fun _ H'=>Q .non H',rt:=Q} (start N vs) H):FnOk P w K mg base CX0 (k+1) f fd ps sp:=by
 obtain⟨oc,od,kV,doc,pm,an,cdv,ct,osl,rfl,lk,hcd⟩:=F.ex
 refine fn_of lk hcd S len fun A outer s H vs Q E hr hsp=>?_
 obtain⟨t,h,q⟩:=hbody cdv A outer s H vs Q E hr hsp
 exact⟨t,h.nox,q⟩
theorem Fun.binds{x qual:Str}{st:Stmt}{f:Addr}{fd:FuncData}{ps:List Str}(F:Fun K x qual st f fd)
  (h:∀(kV doc pm:Value) (an:Option Addr) (cdv ct:Value) (us:List Value),us.length=ps.length→bindArgs (W.fnOf x qual (defArgs st) (defBody st) (defScope st) .none kV doc pm an cdv ct) ⟨us,[]⟩=pure (ps.zip us)):Binds K fd ps []:=by
 obtain⟨oc,od,kV,doc,pm,an,cdv,ct,osl,rfl,lk,hcd⟩:=F.ex
 exact .all (h kV doc pm an cdv ct)
theorem fun_mk{x qual:Str}{st:Stmt}{f:Addr}{oc:Value}{od an:Option Addr}{osl:Array (Option Value)}{kV doc pm cdv ct:Value}(l:K.lookup f=some ⟨oc,od,.func (W.fnOf x qual (defArgs st) (defBody st) (defScope st) .none kV doc pm an cdv ct),osl⟩)
  (c:W.codeIn K cdv qual=true) (k:W.keepIn K (.ref f)=true):Fun K x qual st f (W.fnOf x qual (defArgs st) (defBody st) (defScope st) .none kV doc pm an cdv ct):=⟨⟨oc,od,kV,doc,pm,an,cdv,ct,osl,rfl,l,c⟩,k⟩
end
theorem small1000{n:Nat}(h:n≤1000):n<sizeLine:=Nat.lt_of_le_of_lt h (by decide)
section
variable{X:Cx}
theorem pv(i:Nat){x:Str}{pos:Pos}(hN:X.N[i]?=some x:=by rfl)(hv:Vis X.env.scope x:=by first|exact Or.inl rfl|exact Or.inr (Or.inl rfl)|exact Or.inr (Or.inr rfl))(hd:(x==("__debug__":Str))=false:=by decide)
  (hcd:(x==("__classdict__":Str))=false:=by decide):PE X (.Name x pos) (tVar i):=pe_var hN hv hd hcd
end
theorem iteF{A B:Prop}(h:B):if false=true then A else B:=by
 rw[if_neg Bool.false_ne_true]
 exact h
theorem iteT{A B:Prop}(h:A):if true=true then A else B:=by
 rw[if_pos rfl]
 exact h
theorem ite2{c A B:Prop}[Decidable c](h1:c→A)(h2:¬c→B):if c then A else B:=by
 by_cases h:c
 ·rw[if_pos h]
  exact h1 h
 ·rw[if_neg h]
  exact h2 h
theorem iteNS{c A B:Prop}[Decidable c](hc:c)(h:B):if(!decide c)=true then A else B:=by
 rw[decide_eq_true hc]
 exact iteF h
noncomputable def Same(H H':Hp):Prop:=∀b o,H b=some o→H' b=some o
theorem Same.refl(H:Hp):Same H H:=fun _ _ h=>h
theorem Same.trans{H H1 H2:Hp}(a:Same H H1)(b:Same H1 H2):Same H H2:=fun c o h=>b c o (a c o h)
theorem Same.free{H H':Hp}(e:Same H H'){l:Addr}(h:H' l=Option.none):H l=Option.none:=by
 cases q:H l with
 |none=>rfl
 |some o=>
  rw[e l o q]at h
  cases h
theorem Same.seq{K:W.Frag}{H H':Hp}{a:Addr}{xs:List V}(e:Same H H')(h:SqL K H a xs):SqL K H' a xs:=by
 rcases h with(h|⟨o,h⟩)|h
 ·exact .inl (.inl (e _ _ h))
 ·exact .inl (.inr ⟨o,e _ _ h⟩)
 ·exact .inr h
end L2
set_option maxHeartbeats 4000000
namespace L2
open PySem PySem.Spec PyProof.Rows
noncomputable def CDivB(_ j:Int):Prop:=0<j∧j.natAbs.log2<9000
noncomputable def CMulB(i j:Int):Prop:=i.natAbs.log2<1000000∧j.natAbs.log2<1000000
theorem bits_of_log{i:Int}(h:i.natAbs.log2<1000000):Builtin.Int.intBits i≤2 ^ 20:=by
 have e:(2:Nat) ^ 20=1048576:=by decide
 rw[e]
 unfold Builtin.Int.intBits
 split<;>omega
section
variable{X:Cx}
theorem op_fdivB:OpR X (binaryOp .FloorDiv) (rI CDivB fun i j=>.int (i / j)):=opI fun i j _ _ _ _ _ hc q=>by
 have h1:(0:Int)<j:=hc.1
 exact floordiv_int (by omega) (by rw[Int.fdiv_eq_ediv_of_nonneg i (by omega)];exact q) (.inl (PyProof.noPylong_of_log2 hc.2))
theorem op_mulB:OpR X (binaryOp .Mult) (rI CMulB fun i j=>.int (i*j)):=opI fun _ _ _ _ _ _ _ hc q=>mul_int q (.of_bits (bits_of_log hc.1) (bits_of_log hc.2))
end
theorem log2_lt_of{n k:Nat}(h:n<2 ^ k)(hk:0<k):n.log2<k:=by
 rcases Nat.eq_zero_or_pos n with h0|hp
 ·rw[h0];exact hk
 ·exact(Nat.log2_lt (Nat.ne_of_gt hp)).mpr h
section
variable{X:Cx}{pins:List (Addr×Obj)}{σ:St}{H:Hp}{s:Shared}{h':Heap}{ch:List Addr}{a:Addr}{o:HO}
theorem Inv.chg{t':Nat}(I:Inv X pins σ H s)(hch:∀b∈ch,FpOk X pins H b)(k:∀b u,b∉ch→s.heap.get? b=some u→h'.get? b=some u):Inv X pins σ H {s with heap:=h',toks:=t'}:=by
 have nch:∀b u,H b=some u→b∉ch:=fun b u e z=>by rw[(hch b z).1]at e;cases e
 refine I.step (g':=s.gens) (d':=s.drawn) (ch:=ch) (fun b hb=>?_) (fun b u _ _ hc e _=>k b u hc e) (fun b u _ _ hc e _=>⟨u.slots,k b u hc e⟩) (fun _ _ _ _ n=>n)
  (fun b u hc e=>⟨u,k b u hc e⟩) (fun _ _ e=>e) (fun _ _ _ e=>e) (fun b ps e=>⟨#[],by rw[e];simp⟩) (fun m hm=>?_) (fun b u e=>?_) I.bare
 ·obtain⟨_,f1,_,f3,f4,f5⟩:=hch b hb
  exact⟨f3,f1,f4,f5⟩
 ·obtain⟨u,es,ep,ho,r⟩:=hm
  exact⟨u,es,ep,k _ u (fun z=>(hch _ z).2.1 rfl) ho,r⟩
 ·refine(I.hok b u e).stay (fun c v hc q=>k c v ?_ q) (fun _ q=>q) fun _ _ q=>q
  rcases hc with z|z
  ·rw[z];exact nch b u e
  ·exact nch c _ z
theorem Inv.chgLaid{t':Nat}(I:Inv X pins σ H s)(hch:∀b∈ch,FpOk X pins H b)(k:∀b u,b∉ch→s.heap.get? b=some u→h'.get? b=some u)(hp:s.heap.objs.size≤a)
  (new:ObjOk X.prog X.w (upd H a o) h' a o):Inv X pins σ (upd H a o) {s with heap:=h',toks:=t'}:=by
 have nch:∀b u,H b=some u→b∉ch:=fun b u e z=>by rw[(hch b z).1]at e;cases e
 have hn:H a=none:=I.hok.fresh hp
 refine I.step (g':=s.gens) (d':=s.drawn) (ch:=ch) (fun b hb=>?_) (fun b u _ _ hc e _=>k b u hc e) (fun b u _ _ hc e _=>⟨u.slots,k b u hc e⟩)
  (fun b u _ e n=>by rw[upd_ne (Nat.ne_of_lt (Nat.lt_of_lt_of_le (Heap.lt_size e) hp))];exact n)
  (fun b u hc e=>⟨u,k b u hc e⟩) (fun b xs e=>by rw[upd_ne (ne_of_none e hn)];exact e) (fun b u v e=>by rw[upd_ne (ne_of_none e hn)];exact e) (fun b ps e=>⟨#[],by rw[upd_ne (ne_of_none e hn),e];simp⟩) (fun m hm=>?_) (fun b u e=>?_) I.bare
 ·obtain⟨_,f1,_,f3,f4,f5⟩:=hch b hb
  exact⟨f3,f1,f4,f5⟩
 ·obtain⟨u,es,ep,ho,r⟩:=hm
  exact⟨u,es,ep,k _ u (fun z=>(hch _ z).2.1 rfl) ho,r⟩
 ·by_cases hb:b=a
  ·subst hb;rw[upd_same]at e;cases e;exact new
  ·rw[upd_ne hb]at e
   refine(I.hok b u e).stay (fun c v hc q=>k c v ?_ q) (fun c q=>by rw[upd_ne (ne_of_none q hn)];exact q) fun c xs q=>by rw[upd_ne (ne_of_none q hn)];exact q
   rcases hc with z|z
   ·rw[z];exact nch b u e
   ·exact nch c _ z
theorem Inv.track(I:Inv X pins σ H s)(f:FpOk X pins H a)(new:ObjOk X.prog X.w (upd H a o) s.heap a o):Inv X pins σ (upd H a o) s:=by
 obtain⟨hn,f1,_,f3,f4,f5⟩:=f
 have z:Inv X pins σ (upd H a o) {s with heap:=s.heap,gens:=s.gens,drawn:=s.drawn,toks:=s.toks}:=by
  refine I.step (g':=s.gens) (d':=s.drawn) (ch:=[a]) (fun b hb=>?_) (fun b u _ _ _ e _=>e) (fun b u _ _ _ e _=>⟨u.slots,e⟩)
   (fun b u hc e n=>by rw[upd_ne (fun z=>hc (by simp[z]))];exact n)
   (fun b u _ e=>⟨u,e⟩) (fun b xs e=>by rw[upd_ne (ne_of_none e hn)];exact e) (fun b u v e=>by rw[upd_ne (ne_of_none e hn)];exact e) (fun b ps e=>⟨#[],by rw[upd_ne (ne_of_none e hn),e];simp⟩) (fun m hm=>hm) (fun b u e=>?_) I.bare
  ·have e:b=a:=by simpa using hb
   subst e
   exact⟨f3,f1,f4,f5⟩
  ·by_cases hb:b=a
   ·subst hb;rw[upd_same]at e;cases e;exact new
   ·rw[upd_ne hb]at e
    exact(I.hok b u e).stay (fun c v hc q=>q) (fun c q=>by rw[upd_ne (ne_of_none q hn)];exact q) fun c xs q=>by rw[upd_ne (ne_of_none q hn)];exact q
 exact z
end
section
variable{prog:Program}{w:World}{A:Around}{E:Value→Shared→Prop}{s:Shared}
theorem nextOf_tuple_item{it l:Addr}{i:Nat}{items}{x:Value}{Q:Value→Shared→Prop}(hit:s.heap.IsTupleIter it l i)
  (hl:s.heap.IsTuple l items) (hx:items[i]?=some x)
  (hQ:∀h',h'.IsTupleIter it l (i+1)→Heap.SameBut it s.heap h'→Q x {s with heap:=h'}):
  wpAny (model prog w) A (Builtin.SmallTypes.nextOf (.ref it)) Q E s:=by
 obtain⟨o,ho,hc,hd⟩:=id hit
 obtain⟨ol,hol,_,nl,hdl⟩:=hl
 unfold Builtin.SmallTypes.nextOf
 refine wpAny_bind (wpAny_callSpecial?_slot (name:=Str.ofString "__next__") hit.typeIs F.slot_tuple_iterator_next
  (wpAny_call_entry F.slot_tuple_iterator_next hit.typeIs F.entry_tuple_iterator_next ?_ (F.args_tuple_iterator_next_1 _)))
 show wpAny _ _ (field (.ref it) 0 >>=_) _ _ s
 refine wpAny_bind (wpAny_field ho hd (x:=.ref l) rfl ?_)
 show wpAny _ _ (if(Value.ref l==Value.none)=true then _ else _) _ _ s
 rw[if_neg (show ¬((Value.ref l==Value.none)=true)from Bool.false_ne_true)]
 show wpAny _ _ (field (.ref it) 1 >>=_) _ _ s
 refine wpAny_bind (wpAny_field ho hd (x:=.int i 0) rfl ?_)
 show wpAny _ _ (seqItems? (.ref l) >>=_) _ _ s
 refine wpAny_bind (wpAny_seqItems hol hdl ?_)
 simp only[Int.toNat_natCast,hx]
 refine wpAny_bind (wpAny_setField ho hd (by simp) (wpAny_pure ⟨x,rfl,wpAny_pure (hQ _ ?_ (Heap.SameBut.update ..))⟩))
 exact⟨_,Heap.get?_update_self _ ho (Obj.isFreed_of_fields (Obj.data_mapFields hd _)),(Obj.cls_mapFields ..).trans hc,by
  rw[Obj.data_mapFields hd];simp[rawInt]⟩
theorem nextOf_tuple_end{it l:Addr}{i:Nat}{items}{Q:Value→Shared→Prop}(hh:A.handled=none)
  (hit:s.heap.IsTupleIter it l i) (hl:s.heap.IsTuple l items) (hx:items[i]?=none)
  (hE:∀h' e,Heap.ExtBut it s.heap h'→(∃o,h'.get? e=some o∧o.cls=.type "StopIteration")→E (.ref e) {s with heap:=h'}):
  wpAny (model prog w) A (Builtin.SmallTypes.nextOf (.ref it)) Q E s:=by
 obtain⟨o,ho,hc,hd⟩:=id hit
 obtain⟨ol,hol,_,nl,hdl⟩:=hl
 unfold Builtin.SmallTypes.nextOf
 refine wpAny_bind (wpAny_callSpecial?_slot (name:=Str.ofString "__next__") hit.typeIs F.slot_tuple_iterator_next
  (wpAny_call_entry F.slot_tuple_iterator_next hit.typeIs F.entry_tuple_iterator_next ?_ (F.args_tuple_iterator_next_1 _)))
 show wpAny _ _ (field (.ref it) 0 >>=_) _ _ s
 refine wpAny_bind (wpAny_field ho hd (x:=.ref l) rfl ?_)
 show wpAny _ _ (if(Value.ref l==Value.none)=true then _ else _) _ _ s
 rw[if_neg (show ¬((Value.ref l==Value.none)=true)from Bool.false_ne_true)]
 show wpAny _ _ (field (.ref it) 1 >>=_) _ _ s
 refine wpAny_bind (wpAny_field ho hd (x:=.int i 0) rfl ?_)
 show wpAny _ _ (seqItems? (.ref l) >>=_) _ _ s
 refine wpAny_bind (wpAny_seqItems hol hdl ?_)
 simp only[Int.toNat_natCast,hx]
 refine wpAny_bind (wpAny_rule (wpAny_bind (wpAny_setField ho hd (by simp) ?_)))
 show wpAny _ _ (newExc (.type "StopIteration") [] >>=_) _ _ _
 refine wpAny_bind ?_
 simp only[newExc,newTuple]
 refine wpAny_bind (wpAny_newObj_type ?_ (by size_fits))
 refine wpAny_bind (m:=firstArgMember _ _) (wpAny_of_eq (a:=Value.none) (by first|rfl|(simp only[firstArgMember];rfl)) ?_)
 refine wpAny_newObj_type ?_ (by size_fits)
 simp only[raiseNew]
 refine wpAny_bind (wpAny_handled ?_)
 first|rw[show A.in1.handled=none from hh]|rw[hh]
 refine wpAny_bind (wpAny_pure (wpAny_throw ?_))
 exact hE _ _ (((Heap.SameBut.update ..).extBut.push _).push _) ⟨_,Heap.get?_push_size _ rfl,rfl⟩
end
structure Src(it l:Addr)(IT:Nat→Heap→Prop)(SL:Array Value→Heap→Prop):Prop where
 obj:∀i h,IT i h→∃o,h.get? it=some o∧∀v,o.data≠ .cell v
 fr:∀i (h h':Heap),IT i h→(∀o,h.get? it=some o→h'.get? it=some o)→IT i h'
 frS:∀xs (h h':Heap),SL xs h→(∀o,h.get? l=some o→h'.get? l=some o)→SL xs h'
 item:∀(prog:Program) (w:World) (A:Around) (i:Nat) (s:Shared) (xs:Array Value) (x:Value) (Q:Value→Shared→Prop) (E:Value→Shared→Prop),IT i s.heap→SL xs s.heap→xs[i]?=some x→
  (∀h',IT (i+1) h'→Heap.SameBut it s.heap h'→Q x {s with heap:=h'})→wpAny (model prog w) A (Builtin.SmallTypes.nextOf (.ref it)) Q E s
 done:∀(prog:Program) (w:World) (A:Around) (i:Nat) (s:Shared) (xs:Array Value) (Q:Value→Shared→Prop) (E:Value→Shared→Prop),A.handled=none→IT i s.heap→SL xs s.heap→xs[i]?=none→
  (∀h' e,Heap.ExtBut it s.heap h'→(∃o,h'.get? e=some o∧o.cls=.type "StopIteration")→E (.ref e) {s with heap:=h'})→wpAny (model prog w) A (Builtin.SmallTypes.nextOf (.ref it)) Q E s
theorem Src.list(it l:Addr):Src it l (fun i h=>h.IsListIter it l i) (fun xs h=>h.IsList l xs) where
 obj:=fun i h st=>by
  obtain⟨o,e,c,d⟩:=st
  exact⟨o,e,fun v z=>by rw[d]at z;cases z⟩
 fr:=fun i h h' st k=>st.at fun o e=>k o e
 frS:=fun xs h h' st k=>st.at fun o e=>k o e
 item:=fun prog w A i s xs x Q E st hl hx hQ=>wpAny_nextOf_list_item st hl hx hQ
 done:=fun prog w A i s xs Q E hh st hl hx hE=>wpAny_nextOf_list_end hh st hl hx hE
theorem Src.tuple(it l:Addr):Src it l (fun i h=>h.IsTupleIter it l i) (fun xs h=>h.IsTuple l xs) where
 obj:=fun i h st=>by
  obtain⟨o,e,c,d⟩:=st
  exact⟨o,e,fun v z=>by rw[d]at z;cases z⟩
 fr:=fun i h h' ⟨o,e,r⟩ k=>⟨o,k o e,r⟩
 frS:=fun xs h h' ⟨o,e,r⟩ k=>⟨o,k o e,r⟩
 item:=fun prog w A i s xs x Q E st hl hx hQ=>nextOf_tuple_item st hl hx hQ
 done:=fun prog w A i s xs Q E hh st hl hx hE=>nextOf_tuple_end hh st hl hx hE
section
variable{prog:Program}{w:World}{A:Around}{E:Value→Shared→Prop}{s:Shared}{z TI TO i1 i2 l1 l2:Addr}{IT1 IT2:Nat→Heap→Prop}{SL1 SL2:Array Value→Heap→Prop}{k:Nat}{xs ys:Array Value}{x y a b:Value}
theorem Src.bt{it l c:Addr}{IT:Nat→Heap→Prop}{SL:Array Value→Heap→Prop}(S:Src it l IT SL){i:Nat}{h h':Heap}(st:IT i h)(hs:Heap.SameBut c h h')(n:it≠c):IT i h':=S.fr i h h' st fun o e=>hs.extBut _ _ n e
theorem Src.bs{it l c:Addr}{IT:Nat→Heap→Prop}{SL:Array Value→Heap→Prop}(S:Src it l IT SL){xs:Array Value}{h h':Heap}(st:SL xs h)(hs:Heap.SameBut c h h')(n:l≠c):SL xs h':=S.frS xs h h' st fun o e=>hs.extBut _ _ n e
theorem zipS_item{Q:Value→Shared→Prop}(D:ZipApart z TI TO i1 i2 l1 l2)(S1:Src i1 l1 IT1 SL1)(S2:Src i2 l2 IT2 SL2)
  (hz:IsZip s.heap z TI TO .none) (hTI:IsPair s.heap TI (.ref i1) (.ref i2)) (hTO:IsPair s.heap TO a b)
  (h1:IT1 k s.heap) (h2:IT2 k s.heap) (hl1:SL1 xs s.heap) (hl2:SL2 ys s.heap) (hx:xs[k]?=some x) (hy:ys[k]?=some y)
  (hQ:∀h',IsZip h' z TI TO (rawInt s.heap.objs.size)→IsPair h' TO x y→IT1 (k+1) h'→IT2 (k+1) h'→IsPair h' s.heap.objs.size x y→h'.objs.size=s.heap.objs.size+1→
   (∀c o,c≠z→c≠TO→c≠i1→c≠i2→s.heap.get? c=some o→h'.get? c=some o)→Q (.ref s.heap.objs.size) {s with heap:=h'}):
  wpAny (model prog w) A (Builtin.«zip.__next__» ⟨[.ref z],[]⟩) (fun fin s'=>∃v,fin=.done (.ret v)∧Q v s') E s:=by
 show wpAny _ _ (field (.ref z) 2 >>=_) _ _ _
 refine wpAny_bind (wpAny_field hz rfl (x:=.bool false) rfl ?_)
 show wpAny _ _ (field (.ref z) 3 >>=_) _ _ _
 refine wpAny_bind (wpAny_field hz rfl (x:=.ref TI) rfl ?_)
 refine wpAny_bind (wpAny_seqItems hTI rfl ?_)
 show wpAny _ _ (Builtin.SmallTypes.ownedTupleIsFree (.ref z) >>=_) _ _ _
 refine wpAny_bind ?_
 unfold Builtin.SmallTypes.ownedTupleIsFree
 refine wpAny_bind (wpAny_field hz rfl (x:=.none) rfl (wpAny_pure ?_))
 simp only[if_true]
 refine wpAny_bind (wpAny_rule ?_)
 refine wpAny_bind (wpAny_field hz rfl (x:=.ref TO) rfl ?_)
 refine wpAny_bind (wpAny_setField_rec hz (by simp) fun h₁ hz₁ hs₁=>?_)
 replace hz₁:IsZip h₁ z TI TO .ellipsis:=hz₁
 refine wpAny_bind ?_
 simp only[List.zipIdx_cons,List.zipIdx_nil,List.forIn_cons,List.forIn_nil]
 refine wpAny_bind (wpAny_bind (wpAny_onRaise ?_))
 show wpAny _ _ (Builtin.SmallTypes.nextOf (.ref i1) >>=_) _ _ _
 refine wpAny_bind (S1.item _ _ _ k _ xs x _ _ (S1.bt h1 hs₁ D.i1z) (S1.bs hl1 hs₁ D.l1z) hx fun h₂ h1₂ hs₂=>wpAny_pure ?_)
 have hTO₂:IsPair h₂ TO a b:=hs₂.extBut _ _ D.TOi1 (hs₁.extBut _ _ D.TOz hTO)
 refine wpAny_bind (wpAny_seqItems hTO₂ rfl ?_)
 refine wpAny_bind (wpAny_updateSeq_pair hTO₂ fun h₃ hTO₃ hs₃=>?_)
 replace hTO₃:IsPair h₃ TO x b:=hTO₃
 refine wpAny_bind (wpAny_letGo (wpAny_pure ?_))
 refine wpAny_bind (wpAny_bind (wpAny_onRaise ?_))
 show wpAny _ _ (Builtin.SmallTypes.nextOf (.ref i2) >>=_) _ _ _
 refine wpAny_bind (S2.item _ _ _ k _ ys y _ _ (S2.bt (S2.bt (S2.bt h2 hs₁ D.i2z) hs₂ D.i12.symm) hs₃ D.TOi2.symm)
  (S2.bs (S2.bs (S2.bs hl2 hs₁ D.l2z) hs₂ D.l2i1) hs₃ D.l2TO) hy fun h₄ h2₄ hs₄=>wpAny_pure ?_)
 have hTO₄:IsPair h₄ TO x b:=hs₄.extBut _ _ D.TOi2 hTO₃
 refine wpAny_bind (wpAny_seqItems hTO₄ rfl ?_)
 refine wpAny_bind (wpAny_updateSeq_pair hTO₄ fun h₅ hTO₅ hs₅=>?_)
 replace hTO₅:IsPair h₅ TO x y:=hTO₅
 refine wpAny_bind (wpAny_letGo (wpAny_pure (wpAny_pure ?_)))
 refine wpAny_bind (wpAny_seqItems hTO₅ rfl ?_)
 refine wpAny_bind (wpAny_newTuple ?_)
 have hsz:h₅.objs.size=s.heap.objs.size:=by rw[hs₅.1,hs₄.1,hs₃.1,hs₂.1,hs₁.1]
 have hz₅:IsZip h₅ z TI TO .ellipsis:=hs₅.extBut _ _ D.TOz.symm (hs₄.extBut _ _ D.i2z.symm (hs₃.extBut _ _ D.TOz.symm (hs₂.extBut _ _ D.i1z.symm hz₁)))
 have hk₅:∀c o,c≠z→c≠TO→c≠i1→c≠i2→s.heap.get? c=some o→h₅.get? c=some o:=fun c o c1 c2 c3 c4 e=>
  hs₅.extBut _ _ c2 (hs₄.extBut _ _ c4 (hs₃.extBut _ _ c2 (hs₂.extBut _ _ c3 (hs₁.extBut _ _ c1 e))))
 have h1₅:IT1 (k+1) h₅:=S1.bt (S1.bt (S1.bt h1₂ hs₃ D.TOi1.symm) hs₄ D.i12) hs₅ D.TOi1.symm
 have h2₅:IT2 (k+1) h₅:=S2.bt h2₄ hs₅ D.TOi2.symm
 have hzlt:z<h₅.objs.size:=Heap.lt_size hz₅
 have hTOlt:TO<h₅.objs.size:=Heap.lt_size hTO₅
 show wpAny _ _ (Builtin.SmallTypes.ownedTupleHandOut (.ref z) (.ref h₅.objs.size) >>=_) _ _ _
 refine wpAny_bind ?_
 unfold Builtin.SmallTypes.ownedTupleHandOut
 have hz₆:IsZip (h₅.push {cls:=.type "tuple",data:=.seq #[x,y]}) z TI TO .ellipsis:=Heap.get?_push_of_some _ hz₅
 refine wpAny_bind (wpAny_setField_rec hz₆ (by simp) fun h₇ hz₇ hs₇=>?_)
 replace hz₇:IsZip h₇ z TI TO (rawInt h₅.objs.size):=hz₇
 refine wpAny_setField_rec hz₇ (by simp) fun h₈ hz₈ hs₈=>?_
 replace hz₈:IsZip h₈ z TI TO (rawInt h₅.objs.size):=hz₈
 have up:∀c o,c≠z→h₅.get? c=some o→h₈.get? c=some o:=fun c o c1 e=>hs₈.extBut _ _ c1 (hs₇.extBut _ _ c1 (Heap.get?_push_of_some _ e))
 have hT₈:IsPair h₈ h₅.objs.size x y:=hs₈.extBut _ _ (Nat.ne_of_gt hzlt) (hs₇.extBut _ _ (Nat.ne_of_gt hzlt) (Heap.get?_push_size _ rfl))
 have hz8:h₈.objs.size=h₅.objs.size+1:=by rw[hs₈.1,hs₇.1,Heap.size_push]
 rw[hsz]at hz₈ hT₈ hz8
 refine wpAny_pure ⟨_,rfl,?_⟩
 show Q (.ref h₅.objs.size) _
 rw[hsz]
 exact hQ h₈ hz₈ (up _ _ D.TOz hTO₅) (S1.fr _ _ _ h1₅ fun o e=>up _ o D.i1z e) (S2.fr _ _ _ h2₅ fun o e=>up _ o D.i2z e) hT₈ hz8 fun c o c1 c2 c3 c4 e=>up c o c1 (hk₅ c o c1 c2 c3 c4 e)
theorem zipS_end{Q:Fin→Shared→Prop}(hh:A.handled=none)(D:ZipApart z TI TO i1 i2 l1 l2)(S1:Src i1 l1 IT1 SL1)(S2:Src i2 l2 IT2 SL2)
  (hz:IsZip s.heap z TI TO .none) (hTI:IsPair s.heap TI (.ref i1) (.ref i2)) (hTO:IsPair s.heap TO a b)
  (h1:IT1 k s.heap) (h2:IT2 k s.heap) (hl1:SL1 xs s.heap) (hl2:SL2 ys s.heap) (hend:xs[k]?=none∨ys[k]?=none)
  (hE:∀h' e,(∀c o,c≠z→c≠TO→c≠i1→c≠i2→s.heap.get? c=some o→h'.get? c=some o)→(∃o,h'.get? e=some o∧o.cls=.type "StopIteration")→E (.ref e) {s with heap:=h'}):
  wpAny (model prog w) A (Builtin.«zip.__next__» ⟨[.ref z],[]⟩) Q E s:=by
 show wpAny _ _ (field (.ref z) 2 >>=_) _ _ _
 refine wpAny_bind (wpAny_field hz rfl (x:=.bool false) rfl ?_)
 show wpAny _ _ (field (.ref z) 3 >>=_) _ _ _
 refine wpAny_bind (wpAny_field hz rfl (x:=.ref TI) rfl ?_)
 refine wpAny_bind (wpAny_seqItems hTI rfl ?_)
 show wpAny _ _ (Builtin.SmallTypes.ownedTupleIsFree (.ref z) >>=_) _ _ _
 refine wpAny_bind ?_
 unfold Builtin.SmallTypes.ownedTupleIsFree
 refine wpAny_bind (wpAny_field hz rfl (x:=.none) rfl (wpAny_pure ?_))
 simp only[if_true]
 refine wpAny_bind (wpAny_rule ?_)
 refine wpAny_bind (wpAny_field hz rfl (x:=.ref TO) rfl ?_)
 refine wpAny_bind (wpAny_setField_rec hz (by simp) fun h₁ hz₁ hs₁=>?_)
 replace hz₁:IsZip h₁ z TI TO .ellipsis:=hz₁
 refine wpAny_bind ?_
 simp only[List.zipIdx_cons,List.zipIdx_nil,List.forIn_cons,List.forIn_nil]
 refine wpAny_bind (wpAny_bind (wpAny_onRaise ?_))
 show wpAny _ _ (Builtin.SmallTypes.nextOf (.ref i1) >>=_) _ _ _
 cases hx:xs[k]? with
 |none=>
  refine wpAny_bind (S1.done _ _ _ k _ xs _ _ hh (S1.bt h1 hs₁ D.i1z) (S1.bs hl1 hs₁ D.l1z) hx fun h₂ e hs₂ he=>?_)
  obtain⟨oe,hoe,hce⟩:=he
  have hz₂:IsZip h₂ z TI TO .ellipsis:=hs₂ _ _ D.i1z.symm hz₁
  have hez:e≠z:=fun x=>by subst x;rw[hz₂]at hoe;cases hoe;simp at hce
  refine wpAny_setField_rec hz₂ (by simp) fun h₃ _ hs₃=>hE h₃ e (fun c o c1 _ c3 _ x=>hs₃.extBut _ _ c1 (hs₂ _ _ c3 (hs₁.extBut _ _ c1 x))) ⟨oe,hs₃.extBut _ _ hez hoe,hce⟩
 |some x=>
  have hy:ys[k]?=none:=by rcases hend with h|h;rw[hx]at h;cases h;exact h
  refine wpAny_bind (S1.item _ _ _ k _ xs x _ _ (S1.bt h1 hs₁ D.i1z) (S1.bs hl1 hs₁ D.l1z) hx fun h₂ h1₂ hs₂=>wpAny_pure ?_)
  have hTO₂:IsPair h₂ TO a b:=hs₂.extBut _ _ D.TOi1 (hs₁.extBut _ _ D.TOz hTO)
  refine wpAny_bind (wpAny_seqItems hTO₂ rfl ?_)
  refine wpAny_bind (wpAny_updateSeq_pair hTO₂ fun h₃ hTO₃ hs₃=>?_)
  refine wpAny_bind (wpAny_letGo (wpAny_pure ?_))
  refine wpAny_bind (wpAny_bind (wpAny_onRaise ?_))
  show wpAny _ _ (Builtin.SmallTypes.nextOf (.ref i2) >>=_) _ _ _
  refine wpAny_bind (S2.done _ _ _ k _ ys _ _ hh (S2.bt (S2.bt (S2.bt h2 hs₁ D.i2z) hs₂ D.i12.symm) hs₃ D.TOi2.symm)
   (S2.bs (S2.bs (S2.bs hl2 hs₁ D.l2z) hs₂ D.l2i1) hs₃ D.l2TO) hy fun h₄ e hs₄ he=>?_)
  obtain⟨oe,hoe,hce⟩:=he
  have hz₄:IsZip h₄ z TI TO .ellipsis:=hs₄ _ _ D.i2z.symm (hs₃.extBut _ _ D.TOz.symm (hs₂.extBut _ _ D.i1z.symm hz₁))
  have hez:e≠z:=fun x=>by subst x;rw[hz₄]at hoe;cases hoe;simp at hce
  refine wpAny_setField_rec hz₄ (by simp) fun h₅ _ hs₅=>hE h₅ e (fun c o c1 c2 c3 c4 x=>hs₅.extBut _ _ c1 (hs₄ _ _ c4 (hs₃.extBut _ _ c2 (hs₂.extBut _ _ c3 (hs₁.extBut _ _ c1 x))))) ⟨oe,hs₅.extBut _ _ hez hoe,hce⟩
theorem pyNext_zipS_item{Q:Option Value→Shared→Prop}(D:ZipApart z TI TO i1 i2 l1 l2)(S1:Src i1 l1 IT1 SL1)(S2:Src i2 l2 IT2 SL2)
  (hz:IsZip s.heap z TI TO .none) (hTI:IsPair s.heap TI (.ref i1) (.ref i2)) (hTO:IsPair s.heap TO a b)
  (h1:IT1 k s.heap) (h2:IT2 k s.heap) (hl1:SL1 xs s.heap) (hl2:SL2 ys s.heap) (hx:xs[k]?=some x) (hy:ys[k]?=some y)
  (hQ:∀h',IsZip h' z TI TO (rawInt s.heap.objs.size)→IsPair h' TO x y→IT1 (k+1) h'→IT2 (k+1) h'→IsPair h' s.heap.objs.size x y→h'.objs.size=s.heap.objs.size+1→
   (∀c o,c≠z→c≠TO→c≠i1→c≠i2→s.heap.get? c=some o→h'.get? c=some o)→Q (some (.ref s.heap.objs.size)) {s with heap:=h'}):
  wpAny (model prog w) A (pyNext (.ref z)) Q E s:=by
 have hT:s.TypeIs (.ref z) "zip":=⟨_,hz,rfl⟩
 unfold pyNext
 exact wpAny_bind (wpAny_attempt (wpAny_callSpecial?_slot (name:=Str.ofString "__next__") hT F.slot_zip_next
  (wpAny_call_entry F.slot_zip_next hT F.entry_zip_next
   (zipS_item D S1 S2 hz hTI hTO h1 h2 hl1 hl2 hx hy fun h' a1 a2 a3 a4 a5 a6 a7=>wpAny_pure (hQ h' a1 a2 a3 a4 a5 a6 a7)) (F.args_zip_next_1 _))))
theorem pyNext_zipS_end{Q:Option Value→Shared→Prop}(hh:A.handled=none)(D:ZipApart z TI TO i1 i2 l1 l2)(S1:Src i1 l1 IT1 SL1)(S2:Src i2 l2 IT2 SL2)
  (hz:IsZip s.heap z TI TO .none) (hTI:IsPair s.heap TI (.ref i1) (.ref i2)) (hTO:IsPair s.heap TO a b)
  (h1:IT1 k s.heap) (h2:IT2 k s.heap) (hl1:SL1 xs s.heap) (hl2:SL2 ys s.heap) (hend:xs[k]?=none∨ys[k]?=none)
  (hQ:∀h',(∀c o,c≠z→c≠TO→c≠i1→c≠i2→s.heap.get? c=some o→h'.get? c=some o)→Q none {s with heap:=h'}):wpAny (model prog w) A (pyNext (.ref z)) Q E s:=by
 have hT:s.TypeIs (.ref z) "zip":=⟨_,hz,rfl⟩
 unfold pyNext
 refine wpAny_bind (wpAny_attempt (wpAny_callSpecial?_slot (name:=Str.ofString "__next__") hT F.slot_zip_next
  (wpAny_call_entry F.slot_zip_next hT F.entry_zip_next (zipS_end hh D S1 S2 hz hTI hTO h1 h2 hl1 hl2 hend fun h' e hk he=>?_) (F.args_zip_next_1 _))))
 obtain⟨o,ho,hc⟩:=he
 refine wpAny_bind (wpAny_isInstance (T:="StopIteration") (b:=true) ⟨o,ho,hc⟩ isSubtype_stop ?_)
 exact wpAny_pure (hQ _ hk)
end
noncomputable def Itz(S1 S2:Hp→List V→Prop):It:=
 ⟨fun i H=>∃xs ys u v,S1 H xs∧S2 H ys∧xs[i]?=some u∧ys[i]?=some v,
  fun i H x H'=>∃T u v,x=.ref T∧H T=none∧H'=upd H T (.tup [u,v])∧∀xs ys,S1 H xs→S2 H ys→xs[i]?=some u∧ys[i]?=some v,
  fun i H=>∃xs ys,S1 H xs∧S2 H ys∧(xs.length≤i∨ys.length≤i)⟩
structure SrcV(K:W.Frag)(SL:Array Value→Heap→Prop)(SV:Hp→List V→Prop):Prop where
 val:∀(X:Cx),X.K=K→∀(pins:List (Addr×Obj)) (σ:St) (H:Hp) (s:Shared) (xs:List V),Inv X pins σ H s→SV H xs→∃its:List Value,Vals xs its∧SL its.toArray s.heap
 inj:∀(X:Cx),X.K=K→∀(pins:List (Addr×Obj)) (σ:St) (H:Hp) (s:Shared) (xs ys:List V),Inv X pins σ H s→SV H xs→SV H ys→xs=ys
theorem SrcV.list(K:W.Frag)(l:Addr):SrcV K (fun xs h=>h.IsList l xs) (fun H xs=>SqL K H l xs) where
 val:=fun X hK pins σ H s xs I h=>by
  subst hK
  obtain⟨its,rv,p,_⟩:=I.list h
  exact⟨its,rv,p.isList⟩
 inj:=fun X hK pins σ H s xs ys I h h'=>by
  subst hK
  exact I.list_inj h h'
theorem SrcV.tuple(K:W.Frag)(l:Addr):SrcV K (fun xs h=>h.IsTuple l xs) (fun H xs=>SqT K H l xs) where
 val:=fun X hK pins σ H s xs I h=>by
  subst hK
  obtain⟨its,rv,p,_⟩:=I.tuple h
  exact⟨its,rv,p⟩
 inj:=fun X hK pins σ H s xs ys I h h'=>by
  subst hK
  exact I.tuple_inj h h'
theorem turn_zip{P:Program}{w:World}{K:W.Frag}{es:List Expr}{kk:Nat}{pos:Pos}{z TI TO i1 i2 l1 l2:Addr}{IT1 IT2:Nat→Heap→Prop}{SL1 SL2:Array Value→Heap→Prop}{SV1 SV2:Hp→List V→Prop}
  (D:ZipApart z TI TO i1 i2 l1 l2) (S1:Src i1 l1 IT1 SL1) (S2:Src i2 l2 IT2 SL2) (V1:SrcV K SL1 SV1) (V2:SrcV K SL2 SV2):
  Turn P w K (.Tuple es kk pos) (Itz SV1 SV2) [z,TI,TO,i1,i2] z (fun i h=>IsZip h z TI TO .none∧IsPair h TI (.ref i1) (.ref i2)∧(∃a b,IsPair h TO a b)∧IT1 i h∧IT2 i h) where
 mem:=by simp
 obj:=fun i h st b hb=>by
  obtain⟨hz,hTI,⟨a,c,hTO⟩,h1,h2⟩:=st
  simp only[List.mem_cons,List.not_mem_nil,or_false]at hb
  rcases hb with rfl|rfl|rfl|rfl|rfl
  ·exact⟨_,hz,fun v e=>by cases e⟩
  ·exact⟨_,hTI,fun v e=>by cases e⟩
  ·exact⟨_,hTO,fun v e=>by cases e⟩
  ·exact S1.obj _ _ h1
  ·exact S2.obj _ _ h2
 keep:=fun i h h' st k=>by
  obtain⟨hz,hTI,⟨a,c,hTO⟩,h1,h2⟩:=st
  exact⟨k z (by simp) _ hz,k TI (by simp) _ hTI,⟨a,c,k TO (by simp) _ hTO⟩,S1.fr _ _ _ h1 fun o e=>k i1 (by simp) o e,S2.fr _ _ _ h2 fun o e=>k i2 (by simp) o e⟩
 item:=by
  intro X hP hw hK hc i pins s σ H E I hf st hg
  obtain⟨xs,ys,u,v,q1,q2,e1,e2⟩:=hg
  obtain⟨its,rv,p1⟩:=V1.val X hK pins σ H s xs I q1
  obtain⟨jts,rw',p2⟩:=V2.val X hK pins σ H s ys I q2
  obtain⟨a1,b1,r1⟩:=rv.get e1
  obtain⟨a2,b2,r2⟩:=rw'.get e2
  obtain⟨hz,hTI,⟨a,c,hTO⟩,h1,h2⟩:=id st
  subst hP hw
  refine pyNext_zipS_item D S1 S2 hz hTI hTO h1 h2 p1 p2 (x:=a1) (y:=a2) (by simpa using b1) (by simpa using b2) fun h' g1 g2 g3 g4 g5 g6 g7=>?_
  refine⟨_,rfl,wpAny_letOwnedTupleGo_zip g1 fun h'' g1' hs'=>?_⟩
  have ne:∀{b:Addr} {o:Obj},s.heap.get? b=some o→s.heap.objs.size≠b:=fun e=>Nat.ne_of_gt (Heap.lt_size e)
  have kk:∀b o,b∉ [z,TO,i1,i2]→s.heap.get? b=some o→h''.get? b=some o:=fun b o hb e=>by
   simp only[List.mem_cons,List.not_mem_nil,or_false,not_or]at hb
   exact hs'.extBut _ _ hb.1 (g7 b o hb.1 hb.2.1 hb.2.2.1 hb.2.2.2 e)
  have hT:h''.get? s.heap.objs.size=some {cls:=.type "tuple",data:=.seq #[a1,a2]}:=hs'.extBut _ _ (ne hz) g5
  have hch:∀b∈[z,TO,i1,i2],FpOk X pins H b:=fun b hb=>hf b (by
   simp only[List.mem_cons,List.not_mem_nil,or_false]at hb⊢
   rcases hb with rfl|rfl|rfl|rfl<;>simp)
  have new:ObjOk X.prog X.w (upd H s.heap.objs.size (.tup [u,v])) h'' s.heap.objs.size (.tup [u,v]):=
   ⟨by show 2≤sizeLine;decide,[a1,a2],.cons r1 (.cons r2 .nil),_,hT,rfl,_,rfl⟩
  have I1:Inv X pins σ (upd H s.heap.objs.size (.tup [u,v])) {s with heap:=h'',toks:=s.toks}:=I.chgLaid hch kk (Nat.le_refl _) new
  have hn:H s.heap.objs.size=none:=I.hok.fresh (Nat.le_refl _)
  refine⟨.ref s.heap.objs.size,_,I1,rfl,⟨_,u,v,rfl,hn,rfl,fun xs' ys' w1 w2=>?_⟩,⟨g1',?_,⟨a1,a2,hs'.extBut _ _ D.TOz g2⟩,S1.bt g3 hs' D.i1z,S2.bt g4 hs' D.i2z⟩,fun b hb=>?_⟩
  ·rw[V1.inj X hK pins σ H s xs' xs I w1 q1,V2.inj X hK pins σ H s ys' ys I w2 q2]
   exact⟨e1,e2⟩
  ·exact kk TI _ (by simp only[List.mem_cons,List.not_mem_nil,or_false,not_or];exact⟨D.TIz,D.TITO,D.TIi1,D.TIi2⟩) hTI
  ·obtain⟨o,ho,_⟩:=(show ∃o,s.heap.get? b=some o∧∀v,o.data≠ .cell v from by
    simp only[List.mem_cons,List.not_mem_nil,or_false]at hb
    rcases hb with rfl|rfl|rfl|rfl|rfl
    ·exact⟨_,hz,fun v e=>by cases e⟩
    ·exact⟨_,hTI,fun v e=>by cases e⟩
    ·exact⟨_,hTO,fun v e=>by cases e⟩
    ·exact S1.obj _ _ h1
    ·exact S2.obj _ _ h2)
   rw[upd_ne (Ne.symm (ne ho))]
   exact(hf b hb).1
 done:=by
  intro X hP hw hK hc i pins s σ H E I hf st hg
  obtain⟨xs,ys,q1,q2,e⟩:=hg
  obtain⟨its,rv,p1⟩:=V1.val X hK pins σ H s xs I q1
  obtain⟨jts,rw',p2⟩:=V2.val X hK pins σ H s ys I q2
  have l1:=rv.length
  have l2:=rw'.length
  obtain⟨hz,hTI,⟨a,c,hTO⟩,h1,h2⟩:=id st
  subst hP hw
  refine pyNext_zipS_end (I.ok.hd hc) D S1 S2 hz hTI hTO h1 h2 p1 p2 (by simp;omega) fun h' g7=>⟨rfl,?_⟩
  have hch:∀b∈[z,TO,i1,i2],FpOk X pins H b:=fun b hb=>hf b (by
   simp only[List.mem_cons,List.not_mem_nil,or_false]at hb⊢
   rcases hb with rfl|rfl|rfl|rfl<;>simp)
  exact I.chg (t':=s.toks) hch fun b o hb e=>by
   simp only[List.mem_cons,List.not_mem_nil,or_false,not_or]at hb
   exact g7 b o hb.1 hb.2.1 hb.2.2.1 hb.2.2.2 e
 self:=fun _ _ _ _ _ st h=>wpAny_pyIter_zip st.1 h
abbrev zipT1(h:Heap)(l1:Addr):Heap:=h.push {cls:=.type "tuple_iterator",data:=.fields #[.ref l1,.int 0 0]}
abbrev zipT2(h:Heap)(l1 l2:Addr):Heap:=(zipT1 h l1).push {cls:=.type "tuple_iterator",data:=.fields #[.ref l2,.int 0 0]}
abbrev zipT3(h:Heap)(l1 l2:Addr):Heap:=(zipT2 h l1 l2).push {cls:=.type "tuple",data:=.seq #[.ref h.objs.size,.ref (zipT1 h l1).objs.size]}
abbrev zipT4(h:Heap)(l1 l2:Addr):Heap:=(zipT3 h l1 l2).push {cls:=.type "tuple",data:=.seq #[.none,.none]}
abbrev zipT5(h:Heap)(l1 l2:Addr):Heap:=(zipT4 h l1 l2).push {cls:=.type "zip",data:=.fields #[.none,.bool false,.bool false,.ref (zipT2 h l1 l2).objs.size,.ref (zipT3 h l1 l2).objs.size]}
theorem meets_zipT(l1 l2:Addr)(xs ys:Array Value):
  Meets (Builtin.«zip.__new__» ⟨[.type "zip",.ref l1,.ref l2],[]⟩) (fun _ R s=>s.heap.IsTuple l1 xs∧s.heap.IsTuple l2 ys∧
   R (.ok (.ret (.ref (zipT4 s.heap l1 l2).objs.size))) {s with heap:=zipT5 s.heap l1 l2}):=
 .of_wp fun prog w A R s h=>by
  obtain⟨hp,g,d,tk,os⟩:=s;obtain⟨hl1,hl2,h⟩:=h
  have hsub:=sub_zip
  have hL1:Heap.IsTuple (Shared.heap ⟨hp,g,d,tk,os⟩) l1 xs:=hl1
  have hL2:Heap.IsTuple (Shared.heap ⟨hp.push {cls:=.type "tuple_iterator",data:=.fields #[.ref l1,.int 0 0]},g,d,tk,os⟩) l2 ys:=Heap.IsTuple.push hl2 _
  wp_walk using wpAny_pyIter_tuple hL1,wpAny_pyIter_tuple hL2
  exact⟨_,rfl,h⟩
theorem call_zipT{prog:Program}{w:World}{A:Around}{E:Value→Shared→Prop}{s:Shared}{l1 l2:Addr}{xs ys:Array Value}{Q:Value→Shared→Prop}(hl1:s.heap.IsTuple l1 xs)(hl2:s.heap.IsTuple l2 ys)
  (h:∀h',IsZip h' (s.heap.objs.size+4) (s.heap.objs.size+2) (s.heap.objs.size+3) .none→IsPair h' (s.heap.objs.size+2) (.ref s.heap.objs.size) (.ref (s.heap.objs.size+1))→
   IsPair h' (s.heap.objs.size+3) .none .none→h'.IsTupleIter s.heap.objs.size l1 0→h'.IsTupleIter (s.heap.objs.size+1) l2 0→h'.objs.size=s.heap.objs.size+5→
   (∀c o,s.heap.get? c=some o→h'.get? c=some o)→Q (.ref (s.heap.objs.size+4)) {s with heap:=h'}):
  wpAny (model prog w) A (call (.type "zip") [.ref l1,.ref l2]) Q E s:=by
 refine callType_new F.called_zip (by decide) (F.typeCall_zip_2 _ _) (F.newCall_zip_2 _ _) (fun obj=>F.args_object_init_3 obj _ _) F.entry_zip_new
  (meets_zipT l1 l2 xs ys) ⟨hl1,hl2,?_⟩
 have z1:(zipT1 s.heap l1).objs.size=s.heap.objs.size+1:=Heap.size_push ..
 have z2:(zipT2 s.heap l1 l2).objs.size=s.heap.objs.size+2:=by rw[Heap.size_push,z1]
 have z3:(zipT3 s.heap l1 l2).objs.size=s.heap.objs.size+3:=by rw[Heap.size_push,z2]
 have z4:(zipT4 s.heap l1 l2).objs.size=s.heap.objs.size+4:=by rw[Heap.size_push,z3]
 have z5:(zipT5 s.heap l1 l2).objs.size=s.heap.objs.size+5:=by rw[Heap.size_push,z4]
 have g5:(zipT5 s.heap l1 l2).get? (zipT4 s.heap l1 l2).objs.size=some _:=Heap.get?_push_size _ rfl
 have g4:(zipT5 s.heap l1 l2).get? (zipT3 s.heap l1 l2).objs.size=some _:=Heap.get?_push_of_some _ (Heap.get?_push_size _ rfl)
 have g3:(zipT5 s.heap l1 l2).get? (zipT2 s.heap l1 l2).objs.size=some _:=Heap.get?_push_of_some _ (Heap.get?_push_of_some _ (Heap.get?_push_size _ rfl))
 have g2:(zipT5 s.heap l1 l2).get? (zipT1 s.heap l1).objs.size=some _:=Heap.get?_push_of_some _ (Heap.get?_push_of_some _ (Heap.get?_push_of_some _ (Heap.get?_push_size _ rfl)))
 have g1:(zipT5 s.heap l1 l2).get? s.heap.objs.size=some _:=Heap.get?_push_of_some _ (Heap.get?_push_of_some _ (Heap.get?_push_of_some _ (Heap.get?_push_of_some _ (Heap.get?_push_size _ rfl))))
 show _∧_
 rw[z2,z3,z4]at g5
 rw[z1,z2]at g3
 rw[z3]at g4
 rw[z1]at g2
 rw[z4]
 exact⟨⟨_,g5,rfl⟩,h _ g5 g3 g4 ⟨_,g1,rfl,rfl⟩ ⟨_,g2,rfl,rfl⟩ z5 fun c o x=>
  Heap.get?_push_of_some _ (Heap.get?_push_of_some _ (Heap.get?_push_of_some _ (Heap.get?_push_of_some _ (Heap.get?_push_of_some _ x))))⟩
section
variable{X:Cx}{es:List Expr}{kk:Nat}{tpos:Pos}
theorem zip_apart{n l1 l2:Nat}(h1:l1<n)(h2:l2<n):ZipApart (n+4) (n+2) (n+3) n (n+1) l1 l2:=by
 refine⟨?_,?_,?_,?_,?_,?_,?_,?_,?_,?_,?_,?_,?_,?_,?_,?_,?_,?_⟩
 all_goals intro e
 ·have e':(n+2:Nat)=n+4:=e;omega
 ·have e':(n+3:Nat)=n+4:=e;omega
 ·have e':(n:Nat)=n+4:=e;omega
 ·have e':(n+1:Nat)=n+4:=e;omega
 ·have e':(n+2:Nat)=n+3:=e;omega
 ·have e':(n+2:Nat)=n:=e;omega
 ·have e':(n+2:Nat)=n+1:=e;omega
 ·have e':(n+3:Nat)=n:=e;omega
 ·have e':(n+3:Nat)=n+1:=e;omega
 ·have e':(n:Nat)=n+1:=e;omega
 ·have e':(l1:Nat)=n+4:=e;omega
 ·have e':(l1:Nat)=n+3:=e;omega
 ·have e':(l1:Nat)=n:=e;omega
 ·have e':(l1:Nat)=n+1:=e;omega
 ·have e':(l2:Nat)=n+4:=e;omega
 ·have e':(l2:Nat)=n+3:=e;omega
 ·have e':(l2:Nat)=n:=e;omega
 ·have e':(l2:Nat)=n+1:=e;omega
noncomputable def iZip(K:W.Frag)(ta:TA):TI:=fun σ H R=>ta σ H fun vs H1=>∃a b,vs=[.ref a,.ref b]∧
 ((∃xs ys,SqL K H1 a xs∧SqL K H1 b ys∧R (Itz (fun H xs=>SqL K H a xs) (fun H ys=>SqL K H b ys)) H1)∨
  (∃xs ys,SqT K H1 a xs∧SqT K H1 b ys∧R (Itz (fun H xs=>SqT K H a xs) (fun H ys=>SqT K H b ys)) H1))
theorem pi_zip{a b:Expr}{ta:TA}{p pos:Pos}(hg:Gl X "zip")(hm:X.mg "zip"=none)(ha:PA X [a,b] ta)(hs:starEach [a,b] X.env=[(false,eval a X.env),(false,eval b X.env)]:=by rfl)(hs2:starEach [b] X.env=[(false,eval b X.env)]:=by rfl)
  (hv:bootBuiltins "zip"=some (.type "zip"):=by first|rfl|decide+kernel):
  PI X (.Tuple es kk tpos) (.Call (.Name "zip" p) [a,b] [] pos) (iZip X.K ta):=by
 intro pins s σ H R I h
 refine Call_ (ld_blt I hg hm hv (PyProof.Rows.callWith_type1 (thn (ha pos pins s σ H _ I h) fun us s1 ⟨vs,H1,I1,r1,q1⟩=>?_) (by rw[hs,hs2]) (by rw[hs2];rfl)))
 obtain⟨l1,l2,e,q⟩:=q1
 subst e
 obtain⟨u1,u2,rfl,e1,e2⟩:=vals2 r1
 cases e1
 cases e2
 have fp:∀(h':Heap) (H':Hp),(∀b,s1.heap.objs.size≤b→H' b=none)→∀b∈[s1.heap.objs.size+4,s1.heap.objs.size+2,s1.heap.objs.size+3,s1.heap.objs.size,s1.heap.objs.size+1],FpOk X pins H' b:=fun h' H' hn b hb=>by
  simp only[List.mem_cons,List.not_mem_nil,or_false]at hb
  have hle:s1.heap.objs.size≤b:=by omega
  exact I1.fpOk hle (hn b hle)
 rcases q with⟨xs,ys,q1,q2,q⟩|⟨xs,ys,q1,q2,q⟩
 ·obtain⟨its,rv,p1,_⟩:=I1.list q1
  obtain⟨jts,rw',p2,_⟩:=I1.list q2
  have lt1:l1<s1.heap.objs.size:=by obtain⟨_,e,_⟩:=p1.isList;exact Heap.lt_size e
  have lt2:l2<s1.heap.objs.size:=by obtain⟨_,e,_⟩:=p2.isList;exact Heap.lt_size e
  refine call_zip_2 p1.isList p2.isList fun h' g1 g2 g3 g4 g5 g6 g7=>?_
  refine wpAny_pyIter_zip g1 ?_
  exact⟨_,_,_,_,H1,rfl,I1.kept (t':=s1.toks) g7,turn_zip (zip_apart lt1 lt2) (Src.list _ l1) (Src.list _ l2) (SrcV.list X.K l1) (SrcV.list X.K l2),⟨g1,g2,⟨_,_,g3⟩,g4,g5⟩,fp h' H1 fun b hb=>I1.hok.fresh hb,q⟩
 ·obtain⟨its,rv,p1,_⟩:=I1.tuple q1
  obtain⟨jts,rw',p2,_⟩:=I1.tuple q2
  have lt1:l1<s1.heap.objs.size:=by obtain⟨_,e,_⟩:=p1;exact Heap.lt_size e
  have lt2:l2<s1.heap.objs.size:=by obtain⟨_,e,_⟩:=p2;exact Heap.lt_size e
  refine call_zipT (show s1.heap.IsTuple l1 its.toArray from p1) (show s1.heap.IsTuple l2 jts.toArray from p2) fun h' g1 g2 g3 g4 g5 g6 g7=>?_
  refine wpAny_pyIter_zip g1 ?_
  exact⟨_,_,_,_,H1,rfl,I1.kept (t':=s1.toks) g7,turn_zip (zip_apart lt1 lt2) (Src.tuple _ l1) (Src.tuple _ l2) (SrcV.tuple X.K l1) (SrcV.tuple X.K l2),⟨g1,g2,⟨_,_,g3⟩,g4,g5⟩,fp h' H1 fun b hb=>I1.hok.fresh hb,q⟩
end
theorem relabel_free{env:Env}:∀{names:List (Str×NameKind)} {x:Str},names.lookup x=some .free→
  (names.map fun(n,k)=>if(k==NameKind.free && env.scope.kind==.function && env.kindOf n==some .cell)then(n,NameKind.cell)else(n,k)).lookup x=some .cell∨
  (names.map fun(n,k)=>if(k==NameKind.free && env.scope.kind==.function && env.kindOf n==some .cell)then(n,NameKind.cell)else(n,k)).lookup x=some .free
 |[],_,h=>by simp at h
 |(n,k)::r,x,h=>by
  have ih:=@relabel_free env r x
  show List.lookup x ((if(k==NameKind.free && env.scope.kind==.function && env.kindOf n==some .cell)=true then(n,NameKind.cell)else(n,k))::_)=_∨List.lookup x ((if(k==NameKind.free && env.scope.kind==.function && env.kindOf n==some .cell)=true then(n,NameKind.cell)else(n,k))::_)=_
  cases hx:x==n with
  |true=>
   simp only[List.lookup_cons,hx]at h
   by_cases hc:(k==NameKind.free && env.scope.kind==.function && env.kindOf n==some .cell)=true
   ·rw[if_pos hc];left;simp only[List.lookup_cons,hx]
   ·rw[if_neg hc];right;simp only[List.lookup_cons,hx];exact h
  |false=>
   simp only[List.lookup_cons,hx]at h
   by_cases hc:(k==NameKind.free && env.scope.kind==.function && env.kindOf n==some .cell)=true
   ·rw[if_pos hc];simp only[List.lookup_cons,hx];exact ih h
   ·rw[if_neg hc];simp only[List.lookup_cons,hx];exact ih h
theorem relabel_inv{env:Env}:∀{names:List (Str×NameKind)} {x:Str} {j:NameKind},(j=.cell∨j=.free)→
  (names.map fun(n,k)=>if(k==NameKind.free && env.scope.kind==.function && env.kindOf n==some .cell)then(n,NameKind.cell)else(n,k)).lookup x=some j→names.lookup x=some .cell∨names.lookup x=some .free
 |[],_,_,_,h=>by simp at h
 |(n,k)::r,x,j,hj,h=>by
  have ih:=@relabel_inv env r x j hj
  replace h:List.lookup x ((if(k==NameKind.free && env.scope.kind==.function && env.kindOf n==some .cell)=true then(n,NameKind.cell)else(n,k))::(r.map fun(n,k)=>if(k==NameKind.free && env.scope.kind==.function && env.kindOf n==some .cell)then(n,NameKind.cell)else(n,k)))=some j:=h
  cases hx:x==n with
  |true=>
   simp only[List.lookup_cons,hx]
   by_cases hc:(k==NameKind.free && env.scope.kind==.function && env.kindOf n==some .cell)=true
   ·right
    simp only[Bool.and_eq_true]at hc
    exact congrArg some (beq_iff_eq.mp hc.1.1)
   ·rw[if_neg hc]at h
    simp only[List.lookup_cons,hx]at h
    cases h
    rcases hj with rfl|rfl
    ·exact .inl rfl
    ·exact .inr rfl
  |false=>
   simp only[List.lookup_cons,hx]
   by_cases hc:(k==NameKind.free && env.scope.kind==.function && env.kindOf n==some .cell)=true
   ·rw[if_pos hc]at h;simp only[List.lookup_cons,hx]at h;exact ih h
   ·rw[if_neg hc]at h;simp only[List.lookup_cons,hx]at h;exact ih h
noncomputable def clos(cells:List (Str×Addr)):List (Str×NameKind)→List (Str×Addr)→List (Str×Addr)
 |[],acc=>acc
 |(n,k)::r,acc=>clos cells r (if(k==NameKind.free)=true then(n,(cells.lookup n).getD 0)::acc else acc)
theorem clos_loop{env:Env}:∀(names:List (Str×NameKind)) (acc:List (Str×Addr)),(∀y∈names,y.2=.free→∃c,env.cells.lookup y.1=some c)→
  (forIn names acc (fun(x:Str×NameKind) (cs:List (Str×Addr))=>match x with|(name,kind)=>if(kind==NameKind.free)=true then(do let a←cellOf env name;pure (ForInStep.yield ((name,a)::cs)))else pure (ForInStep.yield cs)):Sem (List (Str×Addr)))=pure (clos env.cells names acc)
 |[],acc,_=>rfl
 |(n,k)::r,acc,h=>by
  rw[List.forIn_cons]
  have hr:=fun acc=>clos_loop r acc fun y hy=>h y (List.mem_cons_of_mem _ hy)
  by_cases hk:(k==NameKind.free)=true
  ·obtain⟨c,hc⟩:=h (n,k) List.mem_cons_self (beq_iff_eq.mp hk)
   have e:cellOf env n=pure c:=by unfold cellOf;rw[hc]
   simp only[hk,if_true,e,pure_bind,clos,hc,Option.getD_some]
   exact hr _
  ·simp only[hk,if_false,pure_bind,clos]
   exact hr _
theorem closureFor_clos{scope:Scope}{env:Env}(h:∀y∈scope.names,y.2=.free→∃c,env.cells.lookup y.1=some c):closureFor scope env=pure (clos env.cells scope.names []):=by
 have e:=clos_loop scope.names [] h
 unfold closureFor
 simp only[e]
 first|rfl|simp
theorem clos_get{cells:List (Str×Addr)}{x:Str}:∀(names:List (Str×NameKind)) (acc:List (Str×Addr)),((x,NameKind.free)∈names∨acc.lookup x=some ((cells.lookup x).getD 0))→
  (clos cells names acc).lookup x=some ((cells.lookup x).getD 0)
 |[],acc,h=>by
  rcases h with h|h
  ·cases h
  ·exact h
 |(n,k)::r,acc,h=>by
  unfold clos
  refine clos_get r _ ?_
  by_cases hk:(k==NameKind.free)=true
  ·rw[if_pos hk]
   by_cases hx:x=n
   ·right;subst hx;simp
   ·rcases h with h|h
    ·rcases List.mem_cons.mp h with e|e
     ·cases e;exact absurd rfl hx
     ·exact .inl e
    ·right
     have hx':(x==n)=false:=by simpa using hx
     simp only[List.lookup_cons,hx']
     exact h
  ·rw[if_neg hk]
   rcases h with h|h
   ·rcases List.mem_cons.mp h with e|e
    ·cases e;exact absurd rfl hk
    ·exact .inl e
   ·exact .inr h
theorem clos_inv{cells:List (Str×Addr)}{x:Str}{c:Addr}:∀(names:List (Str×NameKind)) (acc:List (Str×Addr)),(clos cells names acc).lookup x=some c→
  acc.lookup x=some c∨((x,NameKind.free)∈names∧c=(cells.lookup x).getD 0)
 |[],acc,h=>.inl h
 |(n,k)::r,acc,h=>by
  unfold clos at h
  rcases clos_inv r _ h with q|⟨q,e⟩
  ·by_cases hk:(k==NameKind.free)=true
   ·rw[if_pos hk]at q
    cases hx:x==n with
    |true=>
     simp only[List.lookup_cons,hx]at q
     have hx':x=n:=by simpa using hx
     subst hx'
     have hk':k=.free:=beq_iff_eq.mp hk
     subst hk'
     exact .inr ⟨List.mem_cons_self,(Option.some.inj q).symm⟩
    |false=>
     simp only[List.lookup_cons,hx]at q
     exact .inl q
   ·rw[if_neg hk]at q
    exact .inl q
  ·exact .inr ⟨List.mem_cons_of_mem _ q,e⟩
structure CompScope(N:List Str)(osc scope:Scope)(own:List Str)(fre:List (Nat×Str)):Prop where
 kind:scope.kind=.function
 ocell:∀y∈scope.names,y.2≠ .cell
 locs:∀y∈scope.names,y.2=.local →scope.names.lookup y.1=some .local
 frees:∀y∈scope.names,y.2=.free→osc.names.lookup y.1=some .cell∨osc.names.lookup y.1=some .free
 fres:∀p∈fre,N[p.1]?=some p.2∧scope.names.lookup p.2=some .free
noncomputable def startC(n:Nat)(fre:List (Nat×Str))(σ:St):St:=List.replicate n none++fre.map fun p=>(σ[p.1]?).join
noncomputable def cxC(X:Cx)(N':List Str)(scope:Scope)(cl:List (Str×Addr))(C:Addr)(s₂:Shared)(H₂:Hp)(fp:List Addr):Cx where
 prog:=X.prog
 w:=X.w
 K:=X.K
 mg:=X.mg
 base:=X.base
 A:=X.A
 N:=N'
 s₀:=s₂
 H₀:=H₂
 env:=compEnvC scope cl C X.env
 outer:=X.stack
 stack:=X.stack
 ex:=fp
 fn:=fun _=>false
 calm:=X.calm
 pn:=[]
 xe:=fun _ _=>False
section
variable{X:Cx}{pins:List (Addr×Obj)}{σ:St}{H:Hp}{s:Shared}{scope:Scope}{own:List Str}{fre:List (Nat×Str)}{fp:List Addr}{C D:Addr}{h1:Heap}{m:Str→Option Value}
theorem Inv.clos_cells(I:Inv X pins σ H s)(S:CompScope X.N X.env.scope scope own fre):∀y∈scope.names,y.2=.free→∃c,X.env.cells.lookup y.1=some c:=fun y hy e=>I.ok.has y.1 (S.frees y hy e)
theorem Inv.clos_sub(I:Inv X pins σ H s)(S:CompScope X.N X.env.scope scope own fre){x:Str}{c:Addr}(h:(clos X.env.cells scope.names []).lookup x=some c):X.env.cells.lookup x=some c:=by
 rcases clos_inv _ _ h with q|⟨q,e⟩
 ·cases q
 ·obtain⟨c',hc⟩:=I.clos_cells S _ q rfl
  rw[hc]at e⊢
  exact congrArg some e.symm
theorem inv_comp{tk:Nat}(I:Inv X pins σ H s)(S:CompScope X.N X.env.scope scope own fre)(hfp:∀b∈fp,FpOk X pins H b)(hfo:∀b∈fp,∃o,s.heap.get? b=some o)
  (old:∀b o,s.heap.get? b=some o→h1.get? b=some o) (hC:s.heap.objs.size≤C) (hns:h1.Ns C m) (hD:s.heap.objs.size≤D) (hDC:D≠C) (hDo:h1.get? D=some (LCg.lst [])):
  Inv (cxC X (own++fre.map (·.2)) scope (clos X.env.cells scope.names []) C s H fp) [(D,LCg.lst [])] (startC own.length fre σ) H {s with heap:=h1,toks:=tk}:=by
 have sub:=fun{x:Str} {c:Addr}=>I.clos_sub (x:=x) (c:=c) S
 have lt:∀b∈fp,b<s.heap.objs.size:=fun b hb=>by obtain⟨o,e⟩:=hfo b hb;exact Heap.lt_size e
 have clt:∀x c,X.env.cells.lookup x=some c→c<s.heap.objs.size:=fun x c e=>by obtain⟨v,q⟩:=I.cell x c e;exact q.lt
 refine⟨⟨I.ok.mod,S.kind,I.ok.glob,I.ok.blt,hC,fun x y c e1 e2=>I.ok.inj x y c (sub e1) (sub e2),fun x hx=>?_,fun x c z=>absurd z (by show ¬(false=true);decide),I.ok.hd,I.ok.frames,.inl rfl,fun b hb=>?_,I.bs,Nat.le_trans I.ok.bsz I.sz,fun b o e hb=>?_,fun b hb=>?_,I.stack,I.stkFree⟩,
  rfl,I.bare,Un.kept old,⟨m,hns,fun i x v e1 e2 e3=>?_⟩,fun x c e=>?_,I.hok.fresh hC,fun x c e=>I.freeC x c (sub e),fun p hp=>?_,I.hok.kept old,?_⟩
 ·have hx':scope.names.lookup x=some .cell∨scope.names.lookup x=some .free:=by
   rcases hx with z|z
   ·exact relabel_inv (.inl rfl) z
   ·exact relabel_inv (.inr rfl) z
  rcases hx' with z|z
  ·exact absurd rfl (S.ocell _ (mem_of_lookup z))
  ·exact⟨_,clos_get _ _ (.inl (mem_of_lookup z))⟩
 ·exact⟨Nat.ne_of_lt (Nat.lt_of_lt_of_le (lt b hb) hC),fun x c e=>(hfp b hb).2.2.2.2.1 x c (sub e)⟩
 ·obtain⟨_,_,_,f3,_⟩:=hfp b hb
  rcases f3 with z|z
  ·exact I.ok.noex b o e z
  ·exact absurd (Nat.lt_of_lt_of_le (Heap.lt_size e) (Nat.le_trans I.ok.bsz z)) (Nat.lt_irrefl _)
 ·intro z
  rcases List.mem_cons.mp (I.stkSub b z)with q|q
  ·exact(hfp b hb).2.1 q
  ·exact(hfp b hb).2.2.1 q
 ·have hi:own.length≤i:=by
   rcases Nat.lt_or_ge i own.length with z|z
   ·unfold startC at e2
    rw[List.getElem?_append_left (by simpa using z),List.getElem?_replicate]at e2
    split at e2<;>cases e2
   ·exact z
  unfold startC at e2
  rw[List.getElem?_append_right (by simpa using hi),List.getElem?_map,List.length_replicate]at e2
  replace e1:(own++fre.map (·.2))[i]?=some x:=e1
  rw[List.getElem?_append_right hi,List.getElem?_map]at e1
  cases q:fre[i - own.length]? with
  |none=>rw[q]at e1;cases e1
  |some p=>
   rw[q]at e1 e2
   have e1':p.2=x:=Option.some.inj e1
   have e2':(σ[p.1]?).join=some v:=Option.some.inj e2
   subst e1'
   have e4:σ[p.1]?=some (some v):=by
    cases r:σ[p.1]? with
    |none=>rw[r]at e2';cases e2'
    |some w=>rw[r]at e2';exact congrArg some e2'
   obtain⟨n1,n2⟩:=S.fres p (List.mem_of_getElem? q)
   have hm:=mem_of_lookup n2
   have kd:=S.frees _ hm rfl
   obtain⟨m2,hn2,hl2⟩:=I.loc
   obtain⟨u,ru,lk⟩:=hl2 p.1 p.2 v n1 e4 (.inr kd)
   refine⟨u,ru,?_⟩
   rcases lk with⟨z,_⟩|⟨_,c,hc,hcell⟩
   ·have z':X.env.scope.names.lookup p.2=some .local :=z
    rcases kd with k|k
    ·have k':X.env.scope.names.lookup p.2=some .cell:=k
     rw[z']at k';cases k'
    ·have k':X.env.scope.names.lookup p.2=some .free:=k
     rw[z']at k';cases k'
   ·refine .inr ⟨relabel_free n2,c,?_,?_⟩
    ·have:=clos_get (cells:=X.env.cells) (x:=p.2) scope.names [] (.inl hm)
     rw[hc]at this
     exact this
    ·obtain⟨o,ho,hd⟩:=hcell
     exact⟨o,old _ _ ho,hd⟩
 ·obtain⟨v,o,ho,hd⟩:=I.cell x c (sub e)
  exact⟨v,o,old _ _ ho,hd⟩
 ·have e:p=(D,LCg.lst []):=by
   have hp':p∈[(D,LCg.lst [])]:=hp
   simpa using hp'
  subst e
  refine⟨hDo,I.hok.fresh hD,hDC,fun z=>?_,fun v z=>by cases z⟩
  rcases List.mem_cons.mp (I.stkSub D z)with q|q
  ·exact absurd I.lt (Nat.not_lt.mpr (by rw[←q];exact hD))
  ·exact I.nofs hD q
 ·unfold startC
  show _=(own++fre.map (·.2)).length
  simp
end
theorem compLoop_gen{prog:Program}{w:World}{A:Around}{R:Result→Shared→Prop}{s:Shared}{elt target iter:Expr}{ifs:List Expr}{scope:Scope}{pos:Pos}{it acc:Value}{env:Env}(I:Nat→Shared→Prop)
  (turn:∀n s,I n s→wpAny (model prog w) A (pyNext it) (fun r s₁=>match r with
   |none=>R (.ok .next) s₁
   |some v=>wpAny (model prog w) A (letOwnedTupleGo target it v) (fun _ s₁'=>wpAny (model prog w) A (assign target env v) (fun _ s₂=>
     wpAny (model prog w) A (forIn ifs true fun c r=>if r=true then do let ok←isTrue c env (eval c env);pure (ForInStep.yield ok)else pure (ForInStep.yield r)) (fun ok s₃=>
      if ok=true then wpAny (model prog w) A (eval elt env) (fun x s₄=>
       wpAny (model prog w) A (call (.builtin "list.append") [acc,x]) (fun _ s₅=>∃m,m<n∧I m s₅) (notedBy (model prog w) A env fun e s'=>R (.error e) s') s₄) (notedBy (model prog w) A env fun e s'=>R (.error e) s') s₃
      else ∃m,m<n∧I m s₃) (notedBy (model prog w) A env fun e s'=>R (.error e) s') s₂) (notedBy (model prog w) A env fun e s'=>R (.error e) s') s₁') (notedBy (model prog w) A env fun e s'=>R (.error e) s') s₁) (notedBy (model prog w) A env fun e s'=>R (.error e) s') s)
  (n:Nat) (h:I n s):
  codeAny (model prog w) A (.compLoop (.ListComp elt [⟨target,iter,ifs,0⟩] scope pos) 0 it acc env) R s:=by
 refine codeAny_loop rfl I (fun n s hI=>?_) n h
 show wpAny _ A ((compTurn (.ListComp elt [⟨target,iter,ifs,0⟩] scope pos) 0 it acc env).onRaise (fun x=>do noteFrame x env;theTreesLotGoes x)) _ _ s
 refine wpAny_noted ?_
 rw[compTurn_list]
 refine wpAny_bind (wpAny_standAt (wpAny_bind (wpAny_mono (turn n s hI) (fun r s₁ h₁=>?_) fun _ _ h'=>h')))
 cases r with
 |none=>exact wpAny_pure h₁
 |some v=>
  refine wpAny_bind (wpAny_mono h₁ (fun _ s₁' h₁'=>?_) fun _ _ h'=>h')
  refine wpAny_bind (wpAny_mono h₁' (fun _ s₂ h₂=>wpAny_bind (wpAny_mono h₂ (fun ok s₃ h₃=>?_) fun _ _ h'=>h')) fun _ _ h'=>h')
  cases ok with
  |false=>exact wpAny_pure ⟨rfl,h₃⟩
  |true=>
   exact wpAny_bind (wpAny_bind (wpAny_mono h₃ (fun x s₄ h₄=>wpAny_bind (wpAny_mono h₄ (fun _ s₅ h₅=>wpAny_pure (wpAny_pure ⟨rfl,h₅⟩)) fun _ _ h'=>h')) fun _ _ h'=>h'))
noncomputable def PTs(X:Cx)(ifs:List Expr)(t:TT):Prop:=
 ∀(pins:List (Addr×Obj)) (s:Shared) (σ:St) (H:Hp) (Q:Bool→Hp→Prop),Inv X pins σ H s→t σ H Q→
  wpAny (model X.prog X.w) X.A (forIn ifs true fun c r=>if r=true then do let ok←isTrue c X.env (eval c X.env);pure (ForInStep.yield ok)else pure (ForInStep.yield r)) (TP X pins σ Q) X.xe s
noncomputable def tYes:TT:=fun _ H Q=>Q true H
theorem pts_nil{X:Cx}:PTs X [] tYes:=fun _ _ _ H _ I h=>wpAny_tests_nil ⟨H,I,h⟩
theorem pts_one{X:Cx}{c:Expr}{t:TT}(h:PT X c t):PTs X [c] t:=fun pins s σ H Q I hw=>wpAny_tests_one (h pins s σ H Q I hw)
noncomputable def CompT(J:It)(g:TG)(tt:TT)(te:TE)(Fin:List V→Hp→Prop)(σ₀:St)(H1:Hp):Prop:=
 ∃W:Nat→Nat→List V→St→Hp→Prop,(∃m,W 0 m [] σ₀ H1)∧∀i m ys σ' H',W i m ys σ' H'→(J.stop i H'∧Fin ys H')∨
  (J.go i H'∧ys.length<sizeLine∧∀x H2,J.yld i H' x H2→g x σ' H2 fun σ3 H3=>tt σ3 H3 fun b H4=>if b=true then te σ3 H4 fun y H5=>∃m',m'<m∧W (i+1) m' (ys++[y]) σ3 H5 else ∃m',m'<m∧W (i+1) m' ys σ3 H4)
noncomputable def tComp(n:Nat)(fre:List (Nat×Str))(wi:TI)(g:TG)(tt:TT)(te:TE):TE:=fun σ H Q=>wi σ H fun J H1=>CompT J g tt te (fun ys H'=>∀D,H' D=none→Q (.ref D) (upd H' D (.lst ys))) (startC n fre σ) H1
section
variable{X:Cx}{pins:List (Addr×Obj)}{σ:St}{scope:Scope}{own:List Str}{fre:List (Nat×Str)}{elt tg iter:Expr}{ifs:List Expr}{pos:Pos}{wi:TI}{g:TG}{tt:TT}{te:TE}
theorem comp_block{s2:Shared}{H2:Hp}{it:Addr}{fp:List Addr}{tn:Nat→Heap→Prop}{J:It}{Fin:List V→Hp→Prop}{RR:Value→Addr→Result→Shared→Prop}{E:Value→Shared→Prop}
  (hc:X.calm=true) (S:CompScope X.N X.env.scope scope own fre) (I2:Inv X pins σ H2 s2) (T:Turn X.prog X.w X.K tg J fp it tn) (st2:tn 0 s2.heap) (f2:∀b∈fp,FpOk X pins H2 b)
  (hg:∀cl C s₂ H₂ fp,PG (cxC X (own++fre.map (·.2)) scope cl C s₂ H₂ fp) tg g) (ht:∀cl C s₂ H₂ fp,PTs (cxC X (own++fre.map (·.2)) scope cl C s₂ H₂ fp) ifs tt) (he:∀cl C s₂ H₂ fp,PE (cxC X (own++fre.map (·.2)) scope cl C s₂ H₂ fp) elt te)
  (turns:CompT J g tt te Fin (startC own.length fre σ) H2)
  (hend:∀(D C:Addr) (s':Shared) (H':Hp) (ys:List V) (its:List Value) (m:Str→Option Value),s2.heap.objs.size≤D→s2.heap.objs.size≤C→D≠C→Inv X pins σ H' s'→H' D=none→H' C=none→s'.heap.get? D=some (LCg.lst its)→s'.heap.Ns C m→Vals ys its→ys.length≤sizeLine→Fin ys H'→RR (.ref D) C (.ok .next) s'):
  wpAny (model X.prog X.w) X.A (newList []) (fun acc s₃=>wpAny (model X.prog X.w) X.A (newFunctionEnv scope X.env.globals (clos X.env.cells scope.names []) [] X.env.qual none .none (some X.env)) (fun cenv s₄=>
   codeAny (model X.prog X.w) X.A (.compStart (.ListComp elt [⟨tg,iter,ifs,0⟩] scope pos) 0 (.ref it) acc {cenv with scope:=relabel scope X.env}) (RR acc cenv.locals) s₄) E s₃) E s2:=by
 obtain⟨W,⟨m0,w0⟩,turn⟩:=turns
 refine wpAny_newObj_type (wpAny_newFunctionEnv S.ocell (by intro y hy;simp at hy) (fun h₁ hns₁ hsb₁=>?_) S.kind)
 dsimp only at hns₁ hsb₁⊢
 generalize hH2:s2.heap.push {cls:=.type "list",dict:=none,data:=.seq ([]:List Value).toArray}=HH at hns₁ hsb₁⊢
 have hC:HH.objs.size=s2.heap.objs.size+1:=by rw[←hH2,Heap.size_push]
 have hDC:s2.heap.objs.size≠HH.objs.size:=by rw[hC];exact Nat.ne_of_lt (Nat.lt_succ_self _)
 have hCle:s2.heap.objs.size≤HH.objs.size:=by rw[hC];exact Nat.le_succ _
 have old:∀b o,s2.heap.get? b=some o→h₁.get? b=some o:=fun b o e=>
  hsb₁.extBut b o (by rw[hC];exact Nat.ne_of_lt (Nat.lt_succ_of_lt (Heap.lt_size e))) (Heap.get?_push_of_some _ (hH2▸Heap.get?_push_of_some _ e))
 have hacc:h₁.get? s2.heap.objs.size=some (LCg.lst []):=hsb₁.extBut _ _ hDC (Heap.get?_push_of_some _ (hH2▸Heap.get?_push_size _ rfl))
 have hfo:∀b∈fp,∃o,s2.heap.get? b=some o:=fun b hb=>by obtain⟨o,e,_⟩:=T.obj _ _ st2 b hb;exact⟨o,e⟩
 have flt:∀b∈fp,b<s2.heap.objs.size:=fun b hb=>by obtain⟨o,e⟩:=hfo b hb;exact Heap.lt_size e
 have I1:=inv_comp (tk:=s2.toks+([]:List (Str×Value)).length) I2 S f2 hfo old hCle hns₁ (Nat.le_refl _) hDC hacc
 generalize hX':cxC X (own++fre.map (·.2)) scope (clos X.env.cells scope.names []) HH.objs.size s2 H2 fp=X' at I1
 have eP:X'.prog=X.prog:=by rw[←hX'];rfl
 have eW:X'.w=X.w:=by rw[←hX'];rfl
 have eK:X'.K=X.K:=by rw[←hX'];rfl
 have eA:X'.A=X.A:=by rw[←hX'];rfl
 have eE:X'.env=compEnvC scope (clos X.env.cells scope.names []) HH.objs.size X.env:=by rw[←hX'];rfl
 have eX:X'.xe=fun _ _=>False:=by rw[←hX'];rfl
 have ePn:X'.pn=[]:=by rw[←hX'];rfl
 have eC:X'.calm=true:=by rw[←hX'];exact hc
 have eS:X'.s₀=s2:=by rw[←hX'];rfl
 have eH:X'.H₀=H2:=by rw[←hX'];rfl
 have eF:X'.fs=frs X.stack:=by rw[←hX'];rfl
 have eEx:X'.ex=fp:=by rw[←hX'];rfl
 have hg':PG X' tg g:=by rw[←hX'];exact hg _ _ _ _ _
 have ht':PTs X' ifs tt:=by rw[←hX'];exact ht _ _ _ _ _
 have he':PE X' elt te:=by rw[←hX'];exact he _ _ _ _ _
 have ccell:∀x c,X'.env.cells.lookup x=some c→c<s2.heap.objs.size:=fun x c e=>by
  rw[eE]at e
  obtain⟨v,q⟩:=I2.cell x c (I2.clos_sub S e)
  exact q.lt
 have stat:∀{H':Hp} {o:Obj},(∀b∈fp,H' b=none)→∀b∈fp,FpOk X' [(s2.heap.objs.size,o)] H' b:=fun{H' o} hn b hb=>by
  refine⟨hn b hb,?_,?_,.inl (by rw[eEx];exact hb),fun x c e=>?_,fun p hp=>?_⟩
  ·rw[eE];exact Nat.ne_of_lt (Nat.lt_of_lt_of_le (flt b hb) hCle)
  ·rw[eF];intro z
   rcases List.mem_cons.mp (I2.stkSub b z)with q|q
   ·exact(f2 b hb).2.1 q
   ·exact(f2 b hb).2.2.1 q
  ·rw[eE]at e
   exact(f2 b hb).2.2.2.2.1 x c (I2.clos_sub S e)
  ·rw[ePn]at hp
   have e:p=(s2.heap.objs.size,o):=by simpa using hp
   rw[e]
   exact Nat.ne_of_gt (flt b hb)
 have statD:∀{H':Hp},H' s2.heap.objs.size=none→FpOk X' [] H' s2.heap.objs.size:=fun{H'} hn=>by
  refine⟨hn,?_,?_,.inr (by rw[eS];exact Nat.le_refl _),fun x c e=>Nat.ne_of_lt (ccell x c e),fun p hp=>?_⟩
  ·rw[eE];exact hDC
  ·rw[eF];intro z
   rcases List.mem_cons.mp (I2.stkSub _ z)with q|q
   ·exact absurd I2.lt (by rw[←q];exact Nat.lt_irrefl _)
   ·exact I2.nofs (Nat.le_refl _) q
  ·rw[ePn]at hp;cases hp
 have loop:∀s₃:Shared,s₃={s2 with heap:=h₁,toks:=s2.toks+([]:List (Str×Value)).length}→
   codeAny (model X.prog X.w) X.A (.compLoop (.ListComp elt [⟨tg,iter,ifs,0⟩] scope pos) 0 (.ref it) (.ref s2.heap.objs.size) (compEnvC scope (clos X.env.cells scope.names []) HH.objs.size X.env))
    (RR (.ref s2.heap.objs.size) HH.objs.size) s₃:=by
  rintro s₃ rfl
  rw[←eE]
  refine compLoop_gen (fun n s'=>∃i ys its σ' H',Inv X' [(s2.heap.objs.size,LCg.lst its)] σ' H' s'∧Vals ys its∧ys.length≤sizeLine∧tn i s'.heap∧(∀b∈fp,H' b=none)∧W i n ys σ' H') ?_ m0
   ⟨0,[],[],_,H2,I1,.nil,Nat.zero_le _,T.keep _ _ _ st2 fun b _ o e=>old b o e,fun b hb=>(f2 b hb).1,w0⟩
  rintro n s3 ⟨i,ys,its,σ3,H3,I3,rv,hlen,st3,fr3,w3⟩
  have pD:=I3.pin (s2.heap.objs.size,LCg.lst its) (by rw[ePn];simp)
  rcases turn i n ys σ3 H3 w3 with⟨stop,fin⟩|⟨go,hz,step⟩
  ·have dn:=T.done X' eP eW eK eC i _ s3 σ3 H3 (notedBy (model X.prog X.w) X.A X'.env fun e s'=>RR (.ref s2.heap.objs.size) HH.objs.size (.error e) s') I3 (stat fr3) st3 stop
   rw[eA]at dn
   refine wpAny_mono dn (fun r s4 ⟨hr,I4⟩=>?_) fun _ _ z=>z
   subst hr
   have pD4:=I4.pin (s2.heap.objs.size,LCg.lst its) (by rw[ePn];simp)
   obtain⟨m4,hn4,_⟩:=I4.loc
   have b4:Un (frs X.stack) fp H2 H3 s2.heap s4.heap:=by
    have z:=I4.base
    rw[eF,eEx,eH,eS]at z
    exact z
   have o4:s4.os=s2.os:=by have z:=I4.os;rw[eS]at z;exact z
   have k4:HOk X.prog X.w H3 s4.heap:=by have z:=I4.hok;rw[eP,eW]at z;exact z
   have Io:Inv X pins σ H3 s4:=I2.call' o4 b4 k4 I4.bare fun b hb=>by
    obtain⟨_,f1,_,f3,f4,f5⟩:=f2 b hb
    exact⟨f3,f1,f4,f5⟩
   refine hend _ _ s4 H3 ys its m4 (Nat.le_refl _) hCle hDC Io pD4.2.1 ?_ pD4.1 ?_ rv hlen fin
   ·have z:=I4.free;rw[eE]at z;exact z
   ·rw[eE]at hn4;exact hn4
  ·have itm:=T.item X' eP eW eK eC i _ s3 σ3 H3 (notedBy (model X.prog X.w) X.A X'.env fun e s'=>RR (.ref s2.heap.objs.size) HH.objs.size (.error e) s') I3 (stat fr3) st3 go
   rw[eA]at itm
   refine wpAny_mono itm (fun r s4 ⟨u,hr,h4⟩=>?_) fun _ _ z=>z
   subst hr
   refine wpAny_mono h4 (fun _ s5 ⟨x,H5,I5,r5,y5,st5,fr5⟩=>?_) fun _ _ z=>z
   have I5':=I5.pinned (stat fr5) (T.obj _ _ st5)
   have as:=hg' _ s5 σ3 H5 x u _ I5' r5 (step x H5 y5)
   rw[eP,eW,eA]at as
   refine wpAny_mono as (fun _ s6 ⟨σ6,H6,I6,q6⟩=>?_) (fun _ _ z=>by rw[eX]at z;exact z.elim)
   have ts:=ht' _ s6 σ6 H6 _ I6 q6
   rw[eP,eW,eA]at ts
   refine wpAny_mono ts (fun b s7 ⟨H7,I7,q7⟩=>?_) (fun _ _ z=>by rw[eX]at z;exact z.elim)
   have back:∀{σ8:St} {H8:Hp} {s8:Shared},Inv X' ([(s2.heap.objs.size,LCg.lst its)]++pinsAt fp s5.heap) σ8 H8 s8→tn (i+1) s8.heap∧(∀b∈fp,H8 b=none)∧s8.heap.get? s2.heap.objs.size=some (LCg.lst its)∧H8 s2.heap.objs.size=none:=fun{σ8 H8 s8} I8=>by
    refine⟨T.keep _ _ _ st5 fun b hb o e=>(I8.pin (b,o) (List.mem_append_right _ (List.mem_append_right _ (mem_pinsAt hb e)))).1,fun b hb=>?_,?_⟩
    ·obtain⟨o,e,d⟩:=T.obj _ _ st5 b hb
     exact(I8.pin (b,o) (List.mem_append_right _ (List.mem_append_right _ (mem_pinsAt hb e)))).2.1
    ·have z:=I8.pin (s2.heap.objs.size,LCg.lst its) (List.mem_append_right _ (List.mem_append_left _ (by simp)))
     exact⟨z.1,z.2.1⟩
   cases b with
   |false=>
    rw[if_neg Bool.false_ne_true]
    rw[if_neg Bool.false_ne_true]at q7
    obtain⟨m',hm',w7⟩:=q7
    obtain⟨b1,b2,b3,b4⟩:=back I7
    exact⟨m',hm',i+1,ys,its,σ6,H7,I7.unpinned,rv,hlen,b1,b2,w7⟩
   |true=>
    rw[if_pos rfl]
    rw[if_pos rfl]at q7
    have el:=he' _ s7 σ6 H7 _ I7 q7
    rw[eP,eW,eA]at el
    refine wpAny_mono el (fun yv s8 ⟨y,H8,I8,r8,q8⟩=>?_) (fun _ _ z=>by rw[eX]at z;exact z.elim)
    obtain⟨m',hm',w8⟩:=q8
    obtain⟨b1,b2,b3,b4⟩:=back I8
    have hl:=rv.length
    refine append_at (hsz:=by show its.toArray.size≤sizeLine;rw[List.size_toArray,←hl];exact hlen) b3 fun h9 hs9 hD9=>?_
    have J0:Inv X' [] σ6 H8 s8:=I8.pins_of fun p hp=>absurd hp (by simp)
    have J1:Inv X' [] σ6 H8 {s8 with heap:=h9,toks:=s8.toks}:=J0.chg (ch:=[s2.heap.objs.size]) (fun b hb=>by
     have e:b=s2.heap.objs.size:=by simpa using hb
     rw[e];exact statD b4) fun b o hb e=>hs9.extBut _ _ (by simpa using hb) e
    have hD9':h9.get? s2.heap.objs.size=some (LCg.lst (its++[yv])):=hD9.trans (congrArg some (LCg.lst_snoc its yv))
    have J2:Inv X' [(s2.heap.objs.size,LCg.lst (its++[yv]))] σ6 H8 {s8 with heap:=h9,toks:=s8.toks}:=J1.pins_of fun p hp=>by
     have e:p=(s2.heap.objs.size,LCg.lst (its++[yv])):=by simpa using hp
     rw[e]
     have z:=statD b4
     exact⟨hD9',b4,z.2.1,z.2.2.1,fun v q=>by cases q⟩
    refine⟨m',hm',i+1,ys++[y],its++[yv],σ6,H8,J2,rv.append (.cons r8 .nil),by rw[List.length_append,List.length_singleton];exact hz,?_,b2,w8⟩
    exact T.keep _ _ _ b1 fun b hb o e=>hs9.extBut _ _ (Nat.ne_of_lt (flt b hb)) e
 exact codeAny_compStart_list (loop _ rfl) (T.self X.A 0 _ _ _ (T.keep _ _ _ st2 fun b _ o e=>old b o e) (loop _ rfl))
theorem pe_lcomp(hc:X.calm=true)(S:CompScope X.N X.env.scope scope own fre)(hi:PI X tg iter wi)
  (hg:∀cl C s₂ H₂ fp,PG (cxC X (own++fre.map (·.2)) scope cl C s₂ H₂ fp) tg g) (ht:∀cl C s₂ H₂ fp,PTs (cxC X (own++fre.map (·.2)) scope cl C s₂ H₂ fp) ifs tt) (he:∀cl C s₂ H₂ fp,PE (cxC X (own++fre.map (·.2)) scope cl C s₂ H₂ fp) elt te)
  (hs:∀x,foldedSetIterable iter X.env x=pure x:=by intro _;rfl):PE X (.ListComp elt [⟨tg,iter,ifs,0⟩] scope pos) (tComp own.length fre wi g tt te):=by
 intro pins s σ H Q I h
 rw[eval_ListComp]
 refine wpAny_comprehension_free (use:=none) rfl hs (closureFor_clos (I.clos_cells S)) S.kind S.locs (thn (hi pins s σ H _ I h) fun v s1 h1=>thn h1 fun itv s2 h2=>?_)
 obtain⟨it,fp,tn,J,H2,e,I2,T,st2,f2,turns⟩:=h2
 subst e
 refine comp_block (RR:=fun acc C=>compPost (model X.prog X.w) X.A X.xe none (EP X pins σ Q) acc C) hc S I2 T st2 f2 hg ht he turns ?_
 intro D C s' H' ys its m hD hC hDC Io nD nC oD nsC rv hlen fin
 refine⟨m,nsC,fun h' hs'=>?_⟩
 have J1:Inv X pins σ H' {s' with heap:=h',toks:=s'.toks}:=Io.chg (ch:=[C]) (fun b hb=>by
  have e:b=C:=by simpa using hb
  rw[e];exact I2.fpOk hC nC) fun b o hb e=>hs'.extBut _ _ (by simpa using hb) e
 have J2:=J1.track (o:=.lst ys) (I2.fpOk hD nD) ⟨hlen,its,_,rv,hs'.extBut _ _ hDC oD⟩
 exact⟨.ref D,_,J2,rfl,fin D nD⟩
theorem ps_lcomp{iy:Nat}{y:Str}{py spos:Pos}(hc:X.calm=true)(hN:X.N.Nodup)(hi':X.N[iy]?=some y)(hy:X.env.scope.names.lookup y=some .local)(S:CompScope X.N X.env.scope scope own fre)(hi:PI X tg iter wi)
  (hg:∀cl C s₂ H₂ fp,PG (cxC X (own++fre.map (·.2)) scope cl C s₂ H₂ fp) tg g) (ht:∀cl C s₂ H₂ fp,PTs (cxC X (own++fre.map (·.2)) scope cl C s₂ H₂ fp) ifs tt) (he:∀cl C s₂ H₂ fp,PE (cxC X (own++fre.map (·.2)) scope cl C s₂ H₂ fp) elt te)
  (hsw:swapsWith (.ListComp elt [⟨tg,iter,ifs,0⟩] scope pos) (some (.Name y py)) spos.line X.env=pure true)
  (hs:∀x,foldedSetIterable iter X.env x=pure x:=by intro _;rfl):PS X (.Assign [.Name y py] (.ListComp elt [⟨tg,iter,ifs,0⟩] scope pos) spos) (tAsg (tComp own.length fre wi g tt te) (gName iy)):=by
 intro pins s σ H D I h
 rw[exec_Assign_Name_used _ _ _ _ hsw]
 refine wpAny_bind (wpAny_standAt (wpAny_bind ?_))
 show wpAny _ _ (do let _←comprehension (.ListComp elt [⟨tg,iter,ifs,0⟩] scope pos) scope X.env _ (newList []) false (eval iter X.env) (some (assign (.Name y py) X.env))) _ _ s
 refine wpAny_bind (wpAny_mono (wpAny_comprehension_free (use:=some (assign (.Name y py) X.env)) (Q:=fun _ s'=>SP X pins D .next s') rfl hs (closureFor_clos (I.clos_cells S)) S.kind S.locs
  (thn (hi pins s σ H _ I h) fun v s1 h1=>thn h1 fun itv s2 h2=>?_)) (fun _ s' hq=>wpAny_pure (wpAny_pure hq)) fun _ _ e=>e)
 obtain⟨it,fp,tn,J,H2,e,I2,T,st2,f2,turns⟩:=h2
 subst e
 refine comp_block (RR:=fun acc C=>compPost (model X.prog X.w) X.A X.xe (some (assign (.Name y py) X.env)) (fun _ s'=>SP X pins D .next s') acc C) hc S I2 T st2 f2 hg ht he turns ?_
 intro D' C s' H' ys its m hD hC hDC Io nD nC oD nsC rv hlen fin
 have J2:=Io.track (o:=.lst ys) (I2.fpOk hD nD) ⟨hlen,its,_,rv,oD⟩
 have fC:FpOk X pins (upd H' D' (.lst ys)) C:=I2.fpOk hC (by rw[upd_ne (Ne.symm hDC)];exact nC)
 show wpAny _ _ (assign (.Name y py) X.env (.ref D')) _ _ _
 refine wpAny_assign_Name (store_ok2 (v:=.ref D') J2 hN hi' (.inl hy) rfl (fun s5 I5 ⟨a,sb,ha⟩=>?_) (.inr hy))
 have hCa:C≠a:=by
  rcases ha with z|z
  ·rw[z];exact fC.2.1
  ·exact Ne.symm (fC.2.2.2.2.1 _ _ z)
 refine⟨m,nsC.sameBut sb hCa,fun h' hs'=>?_⟩
 have J3:Inv X pins (σ.set iy (some (.ref D'))) (upd H' D' (.lst ys)) {s5 with heap:=h',toks:=s5.toks}:=I5.chg (ch:=[C]) (fun b hb=>by
  have e:b=C:=by simpa using hb
  rw[e];exact fC) fun b o hb e=>hs'.extBut _ _ (by simpa using hb) e
 exact⟨_,_,J3,fin D' nD⟩
end
noncomputable def isTy(t T:String):Bool:=t==T||(t=="bool" && T=="int")
noncomputable def kinds:List String:=["NoneType","bool","int","str","list","tuple","dict"]
theorem kit_kinds(K:W.Frag):∀t∈kinds,∀T∈["bool","int","str","list","tuple","dict"],W.kitOne K (.type t) (.type T)=some (isTy t T):=by
 intro t ht T hT
 simp only[kinds,List.mem_cons,List.not_mem_nil,or_false]at ht hT
 rcases ht with rfl|rfl|rfl|rfl|rfl|rfl|rfl<;>rcases hT with rfl|rfl|rfl|rfl|rfl|rfl<;>first|rfl|kernel_rfl
noncomputable def Knd(K:W.Frag)(H:Hp)(x:V)(t:String):Prop:=TyOf K H x (.type t)∧t∈kinds
section
variable{X:Cx}{pins:List (Addr×Obj)}{σ:St}{H:Hp}{s:Shared}{A:Around}{E:Value→Shared→Prop}{Q:Value→Shared→Prop}
theorem isinst_tup{x:V}{u:Value}{t:String}{tp:Addr}{dd:Option Addr}{its:List Value}{n:Nat}{sl:Array (Option Value)}{b:Bool}(I:Inv X pins σ H s)(rx:RelV x u)(k:Knd X.K H x t)
  (htp:s.heap.get? tp=some ⟨.type "tuple",dd,.seq its.toArray n,sl⟩) (e:W.kitAny X.K (.type t) its=some b) (h:∀tk,Q (.bool b) {s with toks:=tk}):
  wpAny (model X.prog X.w) A (call (.builtin "isinstance") [u,.ref tp]) Q E s:=by
 obtain⟨ty,hk⟩:=k
 cases ty with
 |non=>cases(show u=Value.none from rx);exact W.kia_tup W.kitx_none I.kIn True.intro htp e (fun z=>nomatch z) h
 |bl y=>cases(show u=Value.bool y from rx);exact W.kia_tup W.kitx_bool I.kIn True.intro htp e (fun z=>nomatch z) h
 |int i=>obtain⟨t,q⟩:=(show ∃t,u=Value.int i t from rx);cases q;exact W.kia_tup W.kitx_int I.kIn True.intro htp e (fun z=>nomatch z) h
 |str y=>obtain⟨t,q⟩:=(show ∃t,u=Value.str y t from rx);cases q;exact W.kia_tup W.kitx_str I.kIn True.intro htp e (fun z=>nomatch z) h
 |flt y=>exact absurd hk (by decide)
 |@lst a xs ea=>
  cases(show u=Value.ref a from rx)
  obtain⟨_,_,n,_,h1⟩:=(show ObjOk X.prog X.w H s.heap a (.lst xs)from I.hok a _ ea)
  exact W.kia_tup W.kitx_list I.kIn ⟨_,h1,rfl⟩ htp e (fun z=>nomatch z) h
 |@frz a ob xs ea=>
  cases(show u=Value.ref a from rx)
  obtain⟨_,_,_,n,_,h1⟩:=(show ObjOk X.prog X.w H s.heap a (.frz ob (.lst xs))from I.hok a _ ea)
  exact W.kia_tup W.kitx_list I.kIn ⟨_,h1,rfl⟩ htp e (fun z=>nomatch z) h
 |@tup a xs ea=>
  cases(show u=Value.ref a from rx)
  obtain⟨_,_,_,p⟩:=(show ObjOk X.prog X.w H s.heap a (.tup xs)from I.hok a _ ea)
  obtain⟨o,h1,h2,_⟩:=p
  exact W.kia_tup W.kitx_tuple I.kIn ⟨o,h1,h2⟩ htp e (fun z=>nomatch z) h
 |@dK a kvs ea=>
  cases(show u=Value.ref a from rx)
  obtain⟨_,_,vs,_,p⟩:=(show ObjOk X.prog X.w H s.heap a (.dK kvs)from I.hok a _ ea)
  obtain⟨o,es,ep,h1,h2,_⟩:=p
  exact W.kia_tup W.kitx_dict I.kIn ⟨o,h1,h2.1⟩ htp e (fun z=>nomatch z) h
 |@dT a kvs ea=>
  cases(show u=Value.ref a from rx)
  obtain⟨_,_,xs,_,o,es,ep,h1,h2,_⟩:=(show ObjOk X.prog X.w H s.heap a (.dT kvs)from I.hok a _ ea)
  exact W.kia_tup W.kitx_dict I.kIn ⟨o,h1,h2.1⟩ htp e (fun z=>nomatch z) h
end
theorem kitAny_kinds(K:W.Frag){t:String}(ht:t∈kinds):∀(Ts:List String),(∀T∈Ts,T∈["bool","int","str","list","tuple","dict"])→W.kitAny K (.type t) (Ts.map Value.type)=some (Ts.any (isTy t))
 |[],_=>rfl
 |T::r,h=>by
  show(match W.kitOne K (.type t) (.type T)with
   |some true=>some true
   |some false=>W.kitAny K (.type t) (r.map Value.type)
   |none=>none)=_
  rw[kit_kinds K t ht T (h T List.mem_cons_self),List.any_cons]
  cases isTy t T with
  |true=>rfl
  |false=>exact kitAny_kinds K ht r fun T' hT'=>h T' (List.mem_cons_of_mem _ hT')
theorem vals_ty:∀{Ts:List String} {us:List Value},Vals (Ts.map V.ty) us→us=Ts.map Value.type
 |[],_,.nil=>rfl
 |T::r,_,.cons h t=>by
  have e:=vals_ty (Ts:=r) t
  cases(show _=Value.type T from h)
  rw[e];rfl
section
variable{X:Cx}
noncomputable def rIsi(K:W.Frag):List V→Hp→VK→Prop:=fun xs H Q=>∃x T t,xs=[x,.ty T]∧Knd K H x t∧T∈["bool","int","str","list","tuple","dict"]∧Q (.bl (isTy t T)) H
theorem call_isi:CallR X (.builtin "isinstance") (rIsi X.K):=by
 intro pins s σ H xs us Q I r h
 obtain⟨x,T,t,rfl,k,hT,q⟩:=h
 obtain⟨u1,u2,rfl,r1,r2⟩:=vals2 r
 cases(show u2=Value.type T from r2)
 exact isinst_ok I r1 k.1 (kit_kinds X.K t k.2 T hT) fun tk=>⟨.bl _,H,I.tok _,rfl,q⟩
noncomputable def rIsiT(K:W.Frag):List V→Hp→VK→Prop:=fun xs H Q=>∃(x:V) (p:Addr) (Ts:List String) (t:String),xs=[x,.ref p]∧SqT K H p (Ts.map V.ty)∧Knd K H x t∧(∀T∈Ts,T∈["bool","int","str","list","tuple","dict"])∧Q (.bl (Ts.any (isTy t))) H
theorem call_isiT:CallR X (.builtin "isinstance") (rIsiT X.K):=by
 intro pins s σ H xs us Q I r h
 obtain⟨x,p,Ts,t,rfl,hp,k,hT,q⟩:=h
 obtain⟨u1,u2,rfl,r1,r2⟩:=vals2 r
 cases(show u2=Value.ref p from r2)
 obtain⟨its,rv,⟨o,ho,hc,n,hd⟩,_⟩:=I.tuple hp
 have e:=vals_ty rv
 subst e
 obtain⟨c,d,dt,sl⟩:=o
 cases(show c=_ from hc)
 cases(show dt=_ from hd)
 exact isinst_tup I r1 k ho (kitAny_kinds X.K k.2 Ts hT) fun tk=>⟨.bl _,H,I.tok _,rfl,q⟩
noncomputable def rAll(K:W.Frag):List V→Hp→VK→Prop:=fun xs H Q=>∃(p:Addr) (bs:List Bool),xs=[.ref p]∧SqL K H p (bs.map V.bl)∧Q (.bl (bs.all id)) H
theorem vals_bl:∀{bs:List Bool} {us:List Value},Vals (bs.map V.bl) us→us=bs.map Value.bool
 |[],_,.nil=>rfl
 |T::r,_,.cons h t=>by
  have e:=vals_bl (bs:=r) t
  cases(show _=Value.bool T from h)
  rw[e];rfl
theorem range_all(bs:List Bool):(List.range bs.length).all (fun i=>bs.getD i true)=bs.all id:=by
 induction bs with
 |nil=>rfl
 |cons b r ih=>
  rw[List.length_cons,List.range_succ_eq_map,List.all_cons,List.all_map,List.all_cons]
  show(b && (List.range r.length).all _)=_
  rw[←ih];rfl
theorem call_allL(hc:X.calm=true):CallR X (.builtin "all") (rAll X.K):=by
 intro pins s σ H xs us Q I r h
 obtain⟨p,bs,rfl,hp,q⟩:=h
 obtain⟨u1,rfl,r1⟩:=vals1 r
 cases(show u1=Value.ref p from r1)
 obtain⟨its,rv,pl,hz⟩:=I.list hp
 have e:=vals_bl rv
 subst e
 have hlt:p<s.heap.objs.size:=by obtain⟨_,e,_⟩:=pl.isList;exact Heap.lt_size e
 refine call_all_walk (wpAny_pyIter_list pl.isList ?_)
 refine⟨s.heap.objs.size,_,_,_,_,_,fun i=>bs.getD i true,rfl,Walks.list (A:=X.A.in1) (show X.A.in1.handled=none from I.ok.hd hc) _ p (Nat.ne_of_lt hlt) (bs.map Value.bool).toArray,⟨⟨_,Heap.get?_push_size _ rfl,rfl,rfl⟩,pl.isList.push _⟩,?_,fun h' tk hk=>?_⟩
 ·intro i v A' Q' E' hv hq
  have hv':(bs.map Value.bool)[i]?=some v:=by simpa using hv
  rw[List.getElem?_map]at hv'
  cases e:bs[i]? with
  |none=>rw[e]at hv';cases hv'
  |some b=>
   rw[e]at hv'
   cases hv'
   refine wpAny_truthy_bool ?_
   have:bs.getD i true=b:=by rw[List.getD_eq_getElem?_getD,e];rfl
   replace hq:Q' (bs.getD i true) A':=hq
   rw[this]at hq
   exact hq
 ·have e:(List.range (bs.map Value.bool).toArray.size).all (fun i=>bs.getD i true)=bs.all id:=by
   rw[List.size_toArray,List.length_map]
   exact range_all bs
  rw[e]
  refine⟨.bl _,H,I.kept (t':=tk) fun b o e=>hk b o (fun z=>?_) (Heap.get?_push_of_some _ e),rfl,q⟩
  have z':b=s.heap.objs.size:=by simpa using z
  exact absurd (Heap.lt_size e) (by rw[z'];exact Nat.lt_irrefl _)
end
noncomputable def Cal(P:Program)(w:World)(K:W.Frag)(mg:Str→Option Value)(base:Heap)(x:Str)(k:Nat)(ps:List Str)(sp:Sp):Prop:=
 ∃(f:Addr) (fd:FuncData),FnOk P w K mg base CX0 k f fd ps sp∧mg x=some (.ref f)∧W.keepIn K (.ref f)=true∧Binds K fd ps []
section
variable{X:Cx}{k:Nat}{ps:List Str}{sp:Sp}{x:Str}{p pos:Pos}{e:Expr}{es:List Expr}{t:TA}{st:Stmt}{rest:List Stmt}{t1 u1:TS}
theorem pe_callC(c:Cal X.prog X.w X.K X.mg X.base x k ps sp)(hr:Room k X.A)(hg:Gl X x)(ha:PA X (e::es) t)(hdb:(x==("__debug__":Str))=false:=by decide)(he:starEach (e::es) X.env=(false,eval e X.env)::starEach es X.env:=by rfl)(hpl:(backTo pos (starEach es X.env)).any (·.1)=false:=by rfl):
  PE X (.Call (.Name x p) (e::es) [] pos) (tCall sp [] E0 t):=by
 obtain⟨f,fd,F,hm,hk,hb⟩:=c
 exact pe_call F hr hg hm hk hb .nil pass0 ha hdb he hpl
noncomputable def tCut(t u:TS):TS:=fun D σ H=>∃mid:St→Hp→Prop,t {D with nx:=mid} σ H∧∀σ' H',mid σ' H'→u D σ' H'
theorem pss_cut(h1:PS X st t1)(h2:PSs X rest u1):PSs X (st::rest) (tCut t1 u1):=by
 intro pins s σ H D I h
 obtain⟨mid,h,hm⟩:=h
 refine wpAny_execs_cons (thn (h1 pins s σ H {D with nx:=mid} I h) fun f s1 q=>?_)
 cases f with
 |next=>
  obtain⟨σ',H',I',q⟩:=q
  exact h2 pins s1 σ' H' D I' (hm _ _ q)
 |ret v=>exact q
 |brk=>exact q
 |cont=>exact q
end
set_option genInjectivity false in
inductive Dt where
 |int (i:Int)|bl (b:Bool)|str (x:Str)|non|lst (xs:List Dt)|tup (xs:List Dt)
mutual
inductive Rep(H:Hp):V→Dt→Prop where
 |int (i:Int):Rep H (.int i) (.int i)
 |bl (b:Bool):Rep H (.bl b) (.bl b)
 |str (x:Str):Rep H (.str x) (.str x)
 |non:Rep H .non .non
 |lst {a:Addr} {vs:List V} {ds:List Dt}:H a=some (.lst vs)→Reps H vs ds→Rep H (.ref a) (.lst ds)
 |tup {a:Addr} {vs:List V} {ds:List Dt}:H a=some (.tup vs)→Reps H vs ds→Rep H (.ref a) (.tup ds)
inductive Reps(H:Hp):List V→List Dt→Prop where
 |nil:Reps H [] []
 |cons {v:V} {d:Dt} {vs:List V} {ds:List Dt}:Rep H v d→Reps H vs ds→Reps H (v::vs) (d::ds)
end
theorem Reps.length{H:Hp}:∀{vs:List V} {ds:List Dt},Reps H vs ds→vs.length=ds.length
 |_,_,.nil=>rfl
 |_,_,.cons _ t=>by rw[List.length_cons,List.length_cons,Reps.length t]
theorem Reps.get{H:Hp}:∀{vs:List V} {ds:List Dt} {i:Nat} {v:V},Reps H vs ds→vs[i]?=some v→∃d,ds[i]?=some d∧Rep H v d
 |_,_,_,_,.nil,e=>by simp at e
 |_,_,0,_,.cons r _,e=>by simp at e;subst e;exact⟨_,rfl,r⟩
 |_,_,i+1,v,.cons _ t,e=>by
  obtain⟨d,h1,h2⟩:=Reps.get (i:=i) (v:=v) t (by simpa using e)
  exact⟨d,by simpa using h1,h2⟩
theorem Rep.mono{H H':Hp}(s:Same H H'){v:V}{d:Dt}(h:Rep H v d):Rep H' v d:=
 Rep.rec (motive_1:=fun v d _=>Rep H' v d) (motive_2:=fun vs ds _=>Reps H' vs ds) (fun i=>.int i) (fun b=>.bl b) (fun x=>.str x) .non (fun e _ ih=>.lst (s _ _ e) ih) (fun e _ ih=>.tup (s _ _ e) ih) .nil (fun _ _ ih1 ih2=>.cons ih1 ih2) h
theorem Reps.mono{H H':Hp}(s:Same H H'):∀{vs:List V} {ds:List Dt},Reps H vs ds→Reps H' vs ds
 |_,_,.nil=>.nil
 |_,_,.cons r t=>.cons (Rep.mono s r) (Reps.mono s t)
mutual
noncomputable def Dt.depth:Dt→Nat
 |.lst xs=>depths xs+1
 |.tup xs=>depths xs+1
 |_=>0
noncomputable def depths:List Dt→Nat
 |[]=>0
 |d::r=>max d.depth (depths r)
end
mutual
noncomputable def Dt.wide:Dt→Nat
 |.lst xs=>max xs.length (wides xs)
 |.tup xs=>max xs.length (wides xs)
 |_=>0
noncomputable def wides:List Dt→Nat
 |[]=>0
 |d::r=>max d.wide (wides r)
end
theorem wide_le:∀{ds:List Dt} {i:Nat} {d:Dt},ds[i]?=some d→d.wide≤wides ds
 |[],_,_,e=>by simp at e
 |x::r,0,d,e=>by simp at e;subst e;exact Nat.le_max_left _ _
 |x::r,i+1,d,e=>Nat.le_trans (wide_le (ds:=r) (i:=i) (by simpa using e)) (Nat.le_max_right _ _)
theorem depth_le:∀{ds:List Dt} {i:Nat} {d:Dt},ds[i]?=some d→d.depth≤depths ds
 |[],_,_,e=>by simp at e
 |x::r,0,d,e=>by simp at e;subst e;exact Nat.le_max_left _ _
 |x::r,i+1,d,e=>Nat.le_trans (depth_le (ds:=r) (i:=i) (by simpa using e)) (Nat.le_max_right _ _)
theorem bb_len:bootBuiltins "len"=some (.builtin "len"):=by decide+kernel
theorem bb_abs:bootBuiltins "abs"=some (.builtin "abs"):=by decide+kernel
theorem bb_all:bootBuiltins "all"=some (.builtin "all"):=by decide+kernel
theorem bb_isinstance:bootBuiltins "isinstance"=some (.builtin "isinstance"):=by decide+kernel
theorem bb_sorted:bootBuiltins "sorted"=some (.builtin "sorted"):=by decide+kernel
theorem bb_list:bootBuiltins "list"=some (.type "list"):=by decide+kernel
theorem bb_tuple:bootBuiltins "tuple"=some (.type "tuple"):=by decide+kernel
theorem bb_bool:bootBuiltins "bool"=some (.type "bool"):=by decide+kernel
theorem bb_int:bootBuiltins "int"=some (.type "int"):=by decide+kernel
theorem bb_str:bootBuiltins "str"=some (.type "str"):=by decide+kernel
theorem bb_set:bootBuiltins "set"=some (.type "set"):=by decide+kernel
structure Blt(mg:Str→Option Value):Prop where
 z_len:mg "len"=none
 z_abs:mg "abs"=none
 z_all:mg "all"=none
 z_isinstance:mg "isinstance"=none
 z_zip:mg "zip"=none
 z_list:mg "list"=none
 z_tuple:mg "tuple"=none
 z_bool:mg "bool"=none
 z_int:mg "int"=none
 z_str:mg "str"=none
 z_range:mg "range"=none
 z_sorted:mg "sorted"=none
 z_set:mg "set"=none
theorem same_upd{H:Hp}{p:Addr}{o:HO}(h:H p=none):Same H (upd H p o):=fun b u e=>by rw[upd_ne (ne_of_none e h)];exact e
noncomputable def But(d:Addr)(H H':Hp):Prop:=∀b o,b≠d→H b=some o→H' b=some o
theorem But.refl{d:Addr}{H:Hp}:But d H H:=fun _ _ _ e=>e
theorem But.trans{d:Addr}{H H1 H2:Hp}(a:But d H H1)(b:But d H1 H2):But d H H2:=fun c o n e=>b c o n (a c o n e)
theorem Same.but{d:Addr}{H H':Hp}(a:Same H H'):But d H H':=fun c o _ e=>a c o e
theorem but_upd{d:Addr}{H:Hp}{o:HO}:But d H (upd H d o):=fun b u n e=>by rw[upd_ne n];exact e
theorem draw_ne{H:Hp}{c d:Addr}{ns:List Int}{a:Nat}{r e:Int}(h1:H d=some (.lst [.ref c,.int a,.int r,.int e]))(h2:H c=some (.lst (ns.map V.int))):c≠d:=by
 intro z
 subst z
 rw[h1]at h2
 have q:=Option.some.inj h2
 injection q with q
 cases ns with
 |nil=>cases q
 |cons n r=>injection q with q _;cases q
noncomputable def spSame(n:Nat):Sp:=fun vs H Q _=>∃f u dd,vs=[f,u]∧Rep H f dd∧Rep H u dd∧dd.depth≤n∧dd.wide≤1000∧∀H',Same H H'→Q (.bl true) H'
section
variable{σ:St}{H:Hp}{Q:VK}{R:Bool→Hp→Prop}{D:Ends}{K:W.Frag}
theorem i_var{i:Nat}{v:V}(h:σ[i]?=some (some v))(q:Q v H):tVar i σ H Q:=⟨v,h,q⟩
theorem i_tC{v:V}(q:Q v H):tC v σ H Q:=q
theorem i_op{r:R2}{ta tb:TE}(q:ta σ H fun x H1=>tb σ H1 fun y H2=>r x y H2 Q):tOp r ta tb σ H Q:=q
theorem i_rI0{g:Int→Int→V}{i j:Int}(q:Q (g i j) H):rI0 g (.int i) (.int j) H Q:=⟨i,j,rfl,rfl,q⟩
theorem i_rI{C:Int→Int→Prop}{g:Int→Int→V}{i j:Int}(c:C i j)(q:Q (g i j) H):rI C g (.int i) (.int j) H Q:=⟨i,j,rfl,rfl,c,q⟩
theorem i_rEq{x y:V}(s:scal x y=true)(q:Q (.bl (decide (x=y))) H):rEq x y H Q:=⟨s,q⟩
theorem i_rNe{x y:V}(s:scal x y=true)(q:Q (.bl (!decide (x=y))) H):rNe x y H Q:=⟨s,q⟩
theorem i_test{t:TE}(q:t σ H fun x H'=>∃k,x=.bl k∧R k H'):tTest t σ H R:=q
theorem i_tB{t:TE}(q:t σ H fun x H'=>∃k,x=.bl k∧R k H'):tB t σ H R:=q
theorem i_bl{k:Bool}{P:Bool→Prop}(q:P k):∃k',V.bl k=.bl k'∧P k':=⟨k,rfl,q⟩
theorem i_and{t u:TT}(q:t σ H fun c H1=>if c=true then u σ H1 R else R false H1):tAnd t u σ H R:=q
theorem i_or{t u:TT}(q:t σ H fun c H1=>if c=true then R true H1 else u σ H1 R):tOr t u σ H R:=q
theorem i_not{t:TT}(q:t σ H fun c H1=>R (!c) H1):tNot t σ H R:=q
theorem i_andV{ta tb:TE}(q:ta σ H fun x H1=>∃c,x=.bl c∧if c=true then tb σ H1 Q else Q (.bl false) H1):tAndV ta tb σ H Q:=q
theorem i_isN{ta:TE}(q:ta σ H fun x H1=>Q (.bl (decide (x=.non))) H1):tIsN ta σ H Q:=q
theorem i_notN{ta:TE}(q:ta σ H fun x H1=>Q (.bl (!decide (x=.non))) H1):tNotN ta σ H Q:=q
theorem i_ifE{t:TT}{ta tb:TE}(q:t σ H fun c H1=>if c=true then ta σ H1 Q else tb σ H1 Q):tIf t ta tb σ H Q:=q
theorem i_seq{t u:TS}(q:t {D with nx:=u D} σ H):tSeq t u D σ H:=q
theorem i_asg{te:TE}{g:TG}(q:te σ H fun x H1=>g x σ H1 D.nx):tAsg te g D σ H:=q
theorem i_name{i:Nat}{v:V}{N:St→Hp→Prop}(q:N (σ.set i (some v)) H):gName i v σ H N:=q
theorem i_ret{te:TE}(q:te σ H D.rt):tRet te D σ H:=q
theorem i_if{c:TT}{t u:TS}(q:c σ H fun b H1=>if b=true then t D σ H1 else u D σ H1):tIfS c t u D σ H:=q
theorem i_next(q:D.nx σ H):tNext D σ H:=q
theorem i_drop{te:TE}(q:te σ H fun _ H1=>D.nx σ H1):tDrop te D σ H:=q
theorem i_cons{ta:TE}{tr:TA}{N:List V→Hp→Prop}(q:ta σ H fun x H1=>tr σ H1 fun xs H2=>N (x::xs) H2):tCons ta tr σ H N:=q
theorem i_nil{N:List V→Hp→Prop}(q:N [] H):tNil σ H N:=q
theorem i_cb{r:List V→Hp→VK→Prop}{t:TA}(q:t σ H fun vs H1=>r vs H1 Q):tCB r t σ H Q:=q
theorem i_call{sp:Sp}{E:XK}{t:TA}(q:t σ H fun vs H1=>sp (vs++[]) H1 Q E):tCall sp [] E t σ H Q:=q
theorem i_tup{t:TA}(q:t σ H fun xs H1=>xs.length≤sizeLine∧∀p,H1 p=none→Q (.ref p) (upd H1 p (.tup xs))):tTup t σ H Q:=q
theorem i_lst{t:TA}(q:t σ H fun xs H1=>xs.length≤sizeLine∧∀p,H1 p=none→Q (.ref p) (upd H1 p (.lst xs))):tLst t σ H Q:=q
theorem i_ixL{p:Addr}{xs:List V}{i:Int}{v:V}(h:SqL K H p xs)(e:atI xs i=some v)(q:Q v H):rIxL K (.ref p) (.int i) H Q:=⟨p,xs,i,v,rfl,rfl,h,e,q⟩
theorem i_ixT{p:Addr}{xs:List V}{i:Int}{v:V}(h:SqT K H p xs)(e:atI xs i=some v)(q:Q v H):rIxT K (.ref p) (.int i) H Q:=⟨p,xs,i,v,rfl,rfl,h,e,q⟩
theorem i_gsub{to ti:TE}{t:TSet}{v:V}{N:St→Hp→Prop}(q:to σ H fun o H1=>ti σ H1 fun i H2=>t o i v H2 fun H3=>N σ H3):gSub to ti t v σ H N:=q
theorem i_setL{p:Addr}{xs:List V}{k:Int}{j:Nat}{v:V}{N:Hp→Prop}(h:H p=some (.lst xs))(e:ixN xs.length k=some j)(q:N (upd H p (.lst (xs.set j v)))):rSetL (.ref p) (.int k) v H N:=⟨p,xs,k,j,rfl,rfl,h,e,q⟩
theorem i_gtup{n:Nat}{t:TGs}{a:Addr}{xs:List V}{N:St→Hp→Prop}(h:SqT K H a xs)(l:xs.length=n)(q:t xs σ H N):gTup K n t (.ref a) σ H N:=⟨a,xs,rfl,h,l,q⟩
theorem i_gcons{t:TG}{u:TGs}{v:V}{r:List V}{N:St→Hp→Prop}(q:t v σ H fun σ' H'=>u r σ' H' N):gCons t u (v::r) σ H N:=⟨v,r,rfl,q⟩
theorem i_gnil{N:St→Hp→Prop}(q:N σ H):gNil [] σ H N:=⟨rfl,q⟩
theorem i_yes(q:R true H):tYes σ H R:=q
theorem i_slice{r:V→Option Int→Option Int→Hp→VK→Prop}{te:TE}{tl th:TO}(q:te σ H fun x H1=>tl σ H1 fun l H2=>th σ H2 fun u H3=>r x l u H3 Q):tSl r te tl th σ H Q:=q
theorem i_nopart{N:Option Int→Hp→Prop}(q:N none H):tNoPart σ H N:=q
theorem i_part{t:TE}{N:Option Int→Hp→Prop}(q:t σ H fun x H1=>∃i,x=.int i∧N (some i) H1):tPart t σ H N:=q
theorem i_int{i:Int}{P:Int→Prop}(q:P i):∃j,V.int i=.int j∧P j:=⟨i,rfl,q⟩
theorem i_slL{a:Addr}{xs:List V}{lo hi:Option Int}(h:SqL K H a xs)(q:∀p,H p=none→Q (.ref p) (upd H p (.lst (cutV xs lo hi)))):rSlL K (.ref a) lo hi H Q:=⟨a,xs,rfl,h,q⟩
theorem i_comp{n:Nat}{fre:List (Nat×Str)}{wi:TI}{g:TG}{tt:TT}{te:TE}(q:wi σ H fun J H1=>CompT J g tt te (fun ys H'=>∀D,H' D=none→Q (.ref D) (upd H' D (.lst ys))) (startC n fre σ) H1):tComp n fre wi g tt te σ H Q:=q
theorem i_zip{ta:TA}{N:It→Hp→Prop}(q:ta σ H fun vs H1=>∃a b,vs=[.ref a,.ref b]∧
 ((∃xs ys,SqL K H1 a xs∧SqL K H1 b ys∧N (Itz (fun H xs=>SqL K H a xs) (fun H ys=>SqL K H b ys)) H1)∨
  (∃xs ys,SqT K H1 a xs∧SqT K H1 b ys∧N (Itz (fun H xs=>SqT K H a xs) (fun H ys=>SqT K H b ys)) H1))):iZip K ta σ H N:=q
theorem i_itL{tl:TE}{N:It→Hp→Prop}(q:tl σ H fun x H1=>∃a,x=.ref a∧(∃xs,SqL K H1 a xs)∧N (Itl K a) H1):iList K tl σ H N:=q
theorem i_itT{tl:TE}{N:It→Hp→Prop}(q:tl σ H fun x H1=>∃a,x=.ref a∧(∃xs,SqT K H1 a xs)∧N (Itt K a) H1):iTup K tl σ H N:=q
theorem i_rng1{ta:TA}{N:It→Hp→Prop}(q:ta σ H fun vs H1=>∃j:Int,vs=[.int j]∧ -(2 ^ 62)≤j∧j<2 ^ 62∧N (Itr 0 j.toNat) H1):iRng1 ta σ H N:=q
noncomputable def rLen(K:W.Frag):List V→Hp→VK→Prop:=fun xs H Q=>∃p ys,xs=[.ref p]∧(SqL K H p ys∨SqT K H p ys)∧Q (.int ys.length) H
noncomputable def rAbs:List V→Hp→VK→Prop:=fun xs H Q=>∃i,xs=[.int i]∧Q (.int (if i<0 then -i else i)) H
noncomputable def rListOf(K:W.Frag):List V→Hp→VK→Prop:=fun xs H Q=>∃p ys,xs=[.ref p]∧(SqL K H p ys∨SqT K H p ys)∧∀l,H l=none→Q (.ref l) (upd H l (.lst ys))
theorem i_len{p:Addr}{ys:List V}(h:SqL K H p ys)(q:Q (.int ys.length) H):rLen K [.ref p] H Q:=⟨p,ys,rfl,.inl h,q⟩
theorem i_lenT{p:Addr}{ys:List V}(h:SqT K H p ys)(q:Q (.int ys.length) H):rLen K [.ref p] H Q:=⟨p,ys,rfl,.inr h,q⟩
theorem i_abs{i:Int}(q:Q (.int (if i<0 then -i else i)) H):rAbs [.int i] H Q:=⟨i,rfl,q⟩
theorem i_list{p:Addr}{ys:List V}(h:SqL K H p ys)(q:∀l,H l=none→Q (.ref l) (upd H l (.lst ys))):rListOf K [.ref p] H Q:=⟨p,ys,rfl,.inl h,q⟩
theorem i_isi{x:V}{T t:String}(k:Knd K H x t)(hT:T∈["bool","int","str","list","tuple","dict"])(q:Q (.bl (isTy t T)) H):rIsi K [x,.ty T] H Q:=⟨x,T,t,rfl,k,hT,q⟩
end
section
variable{X:Cx}
theorem call_absR:CallR X (.builtin "abs") rAbs:=call_abs
end
section
variable{X:Cx}{K:W.Frag}
theorem ixL(h:X.K=K):IxR X (rIxL K):=by subst h;exact ix_list
theorem ixT(h:X.K=K):IxR X (rIxT K):=by subst h;exact ix_tup
theorem slL(h:X.K=K):SlR X (rSlL K):=by subst h;exact sl_list
theorem cLen(h:X.K=K):CallR X (.builtin "len") (rLen K):=by subst h;exact call_len_seq
theorem cList(h:X.K=K):CallR X (.type "list") (rListOf K):=by subst h;exact call_list_of
theorem cIsi(h:X.K=K):CallR X (.builtin "isinstance") (rIsi K):=by subst h;exact call_isi
theorem cIsiT(h:X.K=K):CallR X (.builtin "isinstance") (rIsiT K):=by subst h;exact call_isiT
theorem cAll(h:X.K=K)(hc:X.calm=true):CallR X (.builtin "all") (rAll K):=by subst h;exact call_allL hc
theorem oIn(h:X.K=K):OpR X (compareOp .In) (rIn K false):=by subst h;exact op_in_seq
theorem oNotIn(h:X.K=K):OpR X (compareOp .NotIn) (rIn K true):=by subst h;exact op_notIn_seq
theorem piL{tg l:Expr}{tl:TE}(h:X.K=K)(hl:PE X l tl):PI X tg l (iList K tl):=by subst h;exact pi_list hl
theorem piT{tg l:Expr}{tl:TE}(h:X.K=K)(hl:PE X l tl):PI X tg l (iTup K tl):=by subst h;exact pi_tup hl
theorem piZ{es:List Expr}{kk:Nat}{tpos:Pos}{a b:Expr}{ta:TA}{p pos:Pos}(h:X.K=K)(hg:Gl X "zip")(hm:X.mg "zip"=none)(ha:PA X [a,b] ta)(hs:starEach [a,b] X.env=[(false,eval a X.env),(false,eval b X.env)]:=by rfl)(hs2:starEach [b] X.env=[(false,eval b X.env)]:=by rfl):
  PI X (.Tuple es kk tpos) (.Call (.Name "zip" p) [a,b] [] pos) (iZip K ta):=by subst h;exact pi_zip hg hm ha hs hs2
theorem pgT{es:List Expr}{k:Nat}{t:TGs}{n:Nat}{pos:Pos}(h:X.K=K)(hc:X.calm=true)(hh:PGs X es t)
  (hn:(assignEach es X.env).length=n:=by rfl) (hst:(assignEach es X.env).findIdx? (·.1)=none:=by rfl):PG X (.Tuple es k pos) (gTup K n t):=by subst h;exact pg_tup hc hh hn hst
end
theorem cdivB{i j:Int}(h:0<j)(h2:j.natAbs<2 ^ 500):CDivB i j:=⟨h,Nat.lt_trans (log2_lt_of h2 (by decide)) (by decide)⟩
theorem cmulB{i j:Int}(h:i.natAbs<2 ^ 500)(h2:j.natAbs<2 ^ 500):CMulB i j:=⟨Nat.lt_trans (log2_lt_of h (by decide)) (by decide),Nat.lt_trans (log2_lt_of h2 (by decide)) (by decide)⟩
end L2
namespace L2
open PySem
noncomputable def Rise(xs:Array Nat):Prop:=xs.toList.Pairwise (· < ·)
theorem Rise.lt{xs:Array Nat}(h:Rise xs)(d:Nat):∀a b,a<b→b<xs.size→xs.getD a d<xs.getD b d:=fun a b hab hb=>by
 have:=(List.pairwise_iff_getElem.mp h) a b (by simpa using Nat.lt_trans hab hb) (by simpa using hb) hab
 simpa[Array.getD,hb,Nat.lt_trans hab hb]using this
theorem below_go{xs:Array Nat}{j:Nat}(hs:∀a b,a<b→b<xs.size→xs.getD a j<xs.getD b j):∀(fuel lo hi:Nat),hi - lo≤fuel→lo≤hi→hi≤xs.size→(∀i,i<lo→xs.getD i j<j)→(∀i,hi≤i→i<xs.size→j≤xs.getD i j)→
  SetTable.below.go xs j fuel lo hi≤xs.size∧(∀i,i<SetTable.below.go xs j fuel lo hi→xs.getD i j<j)∧(∀i,SetTable.below.go xs j fuel lo hi≤i→i<xs.size→j≤xs.getD i j)
 |0,lo,hi,hf,hl,hh,h1,h2=>by
  unfold SetTable.below.go
  exact⟨by omega,h1,fun i a b=>h2 i (by omega) b⟩
 |fuel+1,lo,hi,hf,hl,hh,h1,h2=>by
  unfold SetTable.below.go
  by_cases hlt:lo<hi
  ·rw[if_pos hlt]
   dsimp only
   by_cases hm:xs.getD ((lo+hi) / 2) j<j
   ·rw[if_pos hm]
    refine below_go hs fuel _ _ (by omega) (by omega) hh (fun i hi'=>?_) h2
    by_cases e:i=(lo+hi) / 2
    ·rw[e];exact hm
    ·exact Nat.lt_trans (hs i ((lo+hi) / 2) (by omega) (by omega)) hm
   ·rw[if_neg hm]
    refine below_go hs fuel _ _ (by omega) (by omega) (by omega) h1 (fun i hi' hsz=>?_)
    by_cases e:i=(lo+hi) / 2
    ·rw[e];omega
    ·have:=hs ((lo+hi) / 2) i (by omega) hsz
     omega
  ·rw[if_neg hlt]
   exact⟨by omega,h1,fun i a b=>h2 i (by omega) b⟩
theorem below_spec{xs:Array Nat}(h:Rise xs)(j:Nat):SetTable.below xs j≤xs.size∧(∀i,i<SetTable.below xs j→xs.getD i j<j)∧(∀i,SetTable.below xs j≤i→i<xs.size→j≤xs.getD i j):=by
 unfold SetTable.below
 exact below_go (h.lt j) xs.size 0 xs.size (by omega) (Nat.zero_le _) (Nat.le_refl _) (fun i hi=>absurd hi (Nat.not_lt_zero _)) (fun i a b=>absurd b (by omega))
theorem below_of{xs:Array Nat}(h:Rise xs){j k:Nat}(hk:k≤xs.size)(h1:∀i,i<k→xs.getD i j<j)(h2:∀i,k≤i→i<xs.size→j≤xs.getD i j):SetTable.below xs j=k:=by
 obtain⟨b0,b1,b2⟩:=below_spec h j
 rcases Nat.lt_trichotomy (SetTable.below xs j) k with z|z|z
 ·have:=b2 _ (Nat.le_refl _) (by omega)
  have:=h1 _ z
  omega
 ·exact z
 ·have:=h2 k (Nat.le_refl _) (by omega)
  have:=b1 _ z
  omega
theorem below_zero{xs:Array Nat}(h:Rise xs):SetTable.below xs 0=0:=below_of h (Nat.zero_le _) (fun i hi=>absurd hi (Nat.not_lt_zero _)) fun _ _ _=>Nat.zero_le _
theorem below_next{xs:Array Nat}(h:Rise xs){i j:Nat}(e:xs[i]?=some j):SetTable.below xs (j+1)=i+1:=by
 obtain⟨hi,ej⟩:=Array.getElem?_eq_some_iff.mp e
 have g:∀d,xs.getD i d=j:=fun d=>by simp[Array.getD,hi,ej]
 refine below_of h (by omega) (fun k hk=>?_) fun k hk hs=>?_
 ·rcases Nat.lt_or_ge k i with z|z
  ·have:=h.lt (j+1) k i z hi
   rw[g]at this
   omega
  ·have z':k=i:=by omega
   rw[z',g];omega
 ·have:=h.lt (j+1) i k (by omega) hs
  rw[g]at this
  omega
theorem put_rise{t:SetTable}{j:Nat}(h:Rise t.place)(hn:t.place[SetTable.below t.place j]?≠some j):Rise (t.put j).1.place:=by
 obtain⟨b0,b1,b2⟩:=below_spec h j
 show Rise (SetTable.insertAt t.place (SetTable.below t.place j) j)
 generalize SetTable.below t.place j=p at*
 unfold Rise
 rw[SetTable.toList_insertAt]
 have hp:t.place.toList.Pairwise (· < ·):=h
 have hp':=hp
 rw[←List.take_append_drop p t.place.toList,List.pairwise_append]at hp'
 obtain⟨q1,q2,q3⟩:=hp'
 have lo:∀a∈t.place.toList.take p,a<j:=fun a ha=>by
  obtain⟨i,hi,e⟩:=List.getElem_of_mem ha
  rw[List.length_take]at hi
  rw[List.getElem_take]at e
  have:=b1 i (by omega)
  have hs:i<t.place.size:=by simp at hi;omega
  simp[Array.getD,hs]at this
  rw[←e]
  simpa using this
 have hi':∀a∈t.place.toList.drop p,j<a:=fun a ha=>by
  obtain⟨i,hi,e⟩:=List.getElem_of_mem ha
  rw[List.length_drop]at hi
  rw[List.getElem_drop]at e
  have hs:p+i<t.place.size:=by simp at hi;omega
  have c:=b2 (p+i) (by omega) hs
  simp[Array.getD,hs]at c
  have e':t.place[p+i]=a:=by simpa using e
  rw[e']at c
  rcases Nat.lt_or_ge j a with z|z
  ·exact z
  ·have z':a=j:=by omega
   subst z'
   exfalso
   have hp0:p<t.place.size:=by omega
   have c0:=b2 p (Nat.le_refl _) hp0
   simp[Array.getD,hp0]at c0
   rcases Nat.eq_zero_or_pos i with i0|i0
   ·subst i0
    exact hn (by rw[Array.getElem?_eq_getElem hp0];exact congrArg some (by simpa using e'))
   ·have:=h.lt 0 p (p+i) (by omega) hs
    simp[Array.getD,hs,hp0]at this
    rw[e']at this
    omega
 rw[List.pairwise_append]
 refine⟨q1,List.pairwise_cons.mpr ⟨hi',q2⟩,fun a ha b hb=>?_⟩
 rcases List.mem_cons.mp hb with rfl|hb
 ·exact lo a ha
 ·exact q3 a ha b hb
theorem probe_go{t:SetTable}{h:Int}{j:Nat}{dm:Option Nat}:∀(fuel:Nat) (p:SetTable.Probe),(∀d,p.dummy=some d→t.slot d=.dummy)→SetTable.probe.go t (fun _=>h+1) h fuel p=some (.empty j dm)→
  t.slot j=.empty∧∀d,dm=some d→t.slot d=.dummy
 |0,p,_,e=>by unfold SetTable.probe.go at e;cases e
 |fuel+1,p,hp,e=>by
  unfold SetTable.probe.go at e
  have adv:∀q:SetTable.Probe,(t.advance q).dummy=q.dummy:=fun q=>by unfold SetTable.advance;split<;>rfl
  split at e
  ·rename_i hs
   have e':=Option.some.inj e
   injection e' with e1 e2
   subst e1;subst e2
   exact⟨hs,hp⟩
  ·rename_i hs
   refine probe_go fuel _ (fun d hd=>?_) e
   rw[adv]at hd
   have hd':some p.j=some d:=hd
   cases hd'
   exact hs
  ·rename_i i hs
   split at e
   ·cases e
   ·refine probe_go fuel _ (fun d hd=>?_) e
    rw[adv]at hd
    exact hp d hd
theorem slot_live{t:SetTable}{j:Nat}(h:t.slot j=.empty∨t.slot j=.dummy):t.place[SetTable.below t.place j]?≠some j:=fun e=>by
 unfold SetTable.slot at h
 dsimp only at h
 rw[e]at h
 simp at h
theorem freeSlot_live{t:SetTable}{h:Int}{j:Nat}{d:Bool}(e:t.freeSlot h=some (j,d)):t.place[SetTable.below t.place j]?≠some j:=by
 unfold SetTable.freeSlot at e
 split at e
 ·rename_i j' dm hp
  have q:=probe_go (10*SetTable.turns t.mask) _ (fun d hd=>by cases hd) hp
  have e':=Option.some.inj e
  injection e' with e1 _
  subst e1
  cases dm with
  |none=>exact slot_live (.inl q.1)
  |some d=>exact slot_live (.inr (q.2 d rfl))
 ·cases e
theorem rise_range(n:Nat):Rise (Array.range n):=by
 unfold Rise
 rw[Array.toList_range]
 exact List.pairwise_lt_range
theorem standIn_rise(t:SetTable)(n:Nat):Rise (t.standIn n).place:=rise_range n
theorem layNew_rise{t:SetTable}{es:Array (Int×Value)}{h:Int}{x:Value}(r:Rise t.place):Rise (layNew t es h x).2.1.place∧(layNew t es h x).2.1.led=t.led:=by
 unfold layNew
 split
 ·rename_i slot wd e
  dsimp only
  unfold SetTable.orStandIn
  split
  ·exact⟨put_rise r (freeSlot_live e),rfl⟩
  ·exact⟨standIn_rise _ _,rfl⟩
 ·exact⟨standIn_rise _ _,rfl⟩
theorem laid_rise{mask finger moves:Nat}{led plain:Bool}{hs:Array Int}{t:SetTable}{o:Array Nat}(e:SetTable.laid mask finger moves led plain hs=some (t,o)):Rise t.place∧t.led=led:=by
 unfold SetTable.laid at e
 cases q:SetTable.layClean mask hs with
 |none=>rw[q]at e;cases e
 |some owner=>
  rw[q]at e
  have e':=Option.some.inj e
  injection e' with e1 _
  subst e1
  refine⟨?_,rfl⟩
  unfold Rise
  dsimp only
  rw[List.pairwise_map]
  refine List.Pairwise.filterMap _ (fun a a' hlt b hb b' hb'=>?_) (List.pairwise_lt_range (n:=mask+1))
  cases q1:owner.getD a none with
  |none=>rw[q1]at hb;cases hb
  |some v=>
   rw[q1]at hb
   cases q2:owner.getD a' none with
   |none=>rw[q2]at hb';cases hb'
   |some v'=>
    rw[q2]at hb'
    cases hb
    cases hb'
    exact hlt
theorem relayAll_rise{t:SetTable}{es:Array (Int×Value)}{n:Nat}:Rise (relayAll t es n).2.1.place∧(relayAll t es n).2.1.led=t.led:=by
 unfold relayAll
 split
 ·rename_i t' order e
  dsimp only
  split
  ·exact laid_rise e
  ·exact⟨standIn_rise _ _,rfl⟩
 ·exact⟨standIn_rise _ _,rfl⟩
end L2
namespace L2
open PySem PySem.Spec PyProof.Rows
noncomputable def bt(w:World):Bool:=w.params.followText "set-order"
noncomputable def keyOf(e:Int×Value):Int:=match e.2 with
 |.int k _=>k
 |_=>0
noncomputable def EntOk(e:Int×Value):Prop:=∃k tok,e=(hashInt k,Value.int k tok)
noncomputable def SetG(w:World)(h:Heap)(a:Addr)(ks:List Int):Prop:=∃(o:Obj) (es:Array (Int×Value)) (ep:Nat) (t:SetTable),h.get? a=some o∧o.ExactSet∧o.data=.set es ep t∧
 es.toList.map keyOf=ks∧(∀e∈es.toList,EntOk e)∧ks.Nodup∧ks.length<scanBound∧t.fits es.size=true∧Rise t.place∧(t.led=true∨bt w=true)
theorem SetG.at{w:World}{h h':Heap}{a:Addr}{ks:List Int}(g:SetG w h a ks)(k:∀o,h.get? a=some o→h'.get? a=some o):SetG w h' a ks:=by
 obtain⟨o,es,ep,t,e,r⟩:=g
 exact⟨o,es,ep,t,k o e,r⟩
theorem SetG.lt{w:World}{h:Heap}{a:Addr}{ks:List Int}(g:SetG w h a ks):a<h.objs.size:=by
 obtain⟨o,es,ep,t,e,r⟩:=g
 exact Heap.lt_size e
section
variable{prog:Program}{w:World}{A:Around}{E:Value→Shared→Prop}{s:Shared}
theorem ents_elems{l:List (Int×Value)}(h:∀e∈l,EntOk e):ElemsOf (intKind prog w) l:=fun e he=>by
 obtain⟨k,tok,rfl⟩:=h e he
 exact⟨⟨k,intKind_is _ _ _ _,rfl⟩,rfl⟩
theorem is_key{e:Int×Value}(h:EntOk e)(k:Int):(intKind prog w).is k e.2=decide (keyOf e=k):=by
 obtain⟨k',tok,rfl⟩:=h
 show Value.isInt k (.int k' tok)=_
 by_cases z:k'=k
 ·subst z;simp[Value.isInt,keyOf]
 ·rw[decide_eq_false (by exact z)]
  simp[Value.isInt,z]
theorem find_none{l:List (Int×Value)}(h:∀e∈l,EntOk e){k:Int}:l.findIdx? (fun e=>(intKind prog w).is k e.2)=none↔k∉l.map keyOf:=by
 rw[List.findIdx?_eq_none_iff]
 constructor
 ·intro q hm
  obtain⟨e,he,ek⟩:=List.mem_map.mp hm
  have:=q e he
  rw[is_key (h e he),decide_eq_true ek]at this
  cases this
 ·intro q e he
  rw[is_key (h e he)]
  exact decide_eq_false fun ek=>q (List.mem_map.mpr ⟨e,he,ek⟩)
theorem storeG{h:Heap}{a:Addr}{o:Obj}{es:Array (Int×Value)}{ep:Nat}{t:SetTable}(ho:h.get? a=some o)(hex:o.ExactSet)(hd:o.data=.set es ep t)
  {es':Array (Int×Value)} {t':SetTable} (hel:∀e∈es'.toList,EntOk e) (hnd:(es'.toList.map keyOf).Nodup) (hb:es'.size<scanBound) (hf:t'.fits es'.size=true) (hr:Rise t'.place) (hl:t'.led=true∨bt w=true):
  (h.update a (Obj.putSet es' t')).get? a=some {o with data:=.set es' (ep+1) t'}∧SetG w (h.update a (Obj.putSet es' t')) a (es'.toList.map keyOf):=by
 have hg:(h.update a (Obj.putSet es' t')).get? a=some {o with data:=.set es' (ep+1) t'}:=by
  have:=Heap.get?_update_self (Obj.putSet es' t') ho (by rw[putSet_of es' t' hd];rfl)
  rw[putSet_of es' t' hd]at this;exact this
 exact⟨hg,_,es',ep+1,t',hg,hex,rfl,rfl,hel,hnd,by simpa using hb,hf,hr,hl⟩
theorem addTailG{g:Bool→Sem Unit}(hg:∀(b:Bool) (s₁:Shared) (Q':Unit→Shared→Prop),Q' () s₁→wpAny (model prog w) A (g b) Q' E s₁)
  {a:Addr} {o:Obj} {es:Array (Int×Value)} {ep:Nat} {t:SetTable} (ho:s.heap.get? a=some o) (hex:o.ExactSet) (hd:o.data=.set es ep t)
  {es1:Array (Int×Value)} {t2:SetTable} (hel1:∀e∈es1.toList,EntOk e) (hnd:(es1.toList.map keyOf).Nodup) (hb1:es1.size<scanBound) (hf2:t2.fits es1.size=true) (hr:Rise t2.place) (hl:t2.led=true∨bt w=true)
  {wasDummy:Bool} {R:Option Bool→Shared→Prop}
  (h:∀h' ks,Heap.SameBut a s.heap h'→SetG w h' a ks→ks.Perm (es1.toList.map keyOf)→R (some true) {s with heap:=h'}):
  wpAny (model prog w) A (do
    storeSet a es1 t2
    if(!wasDummy && t2.tooFull)=true then do
      g (relayAll t2 es1 (SetTable.grown es1.size)).2.2
      storeSet a (relayAll t2 es1 (SetTable.grown es1.size)).1 (relayAll t2 es1 (SetTable.grown es1.size)).2.1
      pure (some true)
     else pure (some true)) R E s:=by
 refine wpAny_bind (wpAny_storeSet_of ho hd ?_ (fits_of_scanBound hb1))
 obtain⟨ho1,hS1⟩:=storeG (w:=w) ho hex hd hel1 hnd hb1 hf2 hr hl
 have hsb1:=Heap.SameBut.update s.heap a (Obj.putSet es1 t2)
 split
 ·have hp:=relayAll_perm t2 es1 (SetTable.grown es1.size)
  have hfr:=relayAll_fits t2 es1 (SetTable.grown es1.size)
  obtain⟨rr,rl⟩:=relayAll_rise (t:=t2) (es:=es1) (n:=SetTable.grown es1.size)
  generalize relayAll t2 es1 (SetTable.grown es1.size)=Rl at hp hfr rr rl⊢
  obtain⟨es2,t3,gave2⟩:=Rl
  dsimp only at hp hfr rr rl⊢
  have pm:(es2.toList.map keyOf).Perm (es1.toList.map keyOf):=hp.map _
  have hsz:es2.size=es1.size:=by rw[←Array.length_toList,hp.length_eq,Array.length_toList]
  have hb2:es2.size<scanBound:=by rw[hsz];exact hb1
  refine wpAny_bind (hg _ _ _ ?_)
  refine wpAny_bind (wpAny_storeSet_of ho1 rfl ?_ (fits_of_scanBound hb2))
  obtain⟨_,hS2⟩:=storeG (w:=w) ho1 hex rfl (fun e he=>hel1 e (hp.mem_iff.mp he)) (pm.nodup_iff.mpr hnd) hb2 hfr rr (by rw[rl];exact hl)
  exact wpAny_pure (h _ _ (hsb1.trans (Heap.SameBut.update _ a _)) hS2 pm)
 ·exact wpAny_pure (h _ _ hsb1 hS1 (List.Perm.refl _))
theorem setAddG{a:Addr}{ks:List Int}{k:Int}{tok:Tok}{Q:Bool→Shared→Prop}(hS:SetG w s.heap a ks)(hroom:ks.length+1<scanBound)
  (h:∀h' ks',Heap.SameBut a s.heap h'→SetG w h' a ks'→ks'.Perm (if k∈ks then ks else k::ks)→Q (decide (k∉ks)) {s with heap:=h'}):
  wpAny (model prog w) A (setAddHashed a (.int k tok) (hashInt k)) Q E s:=by
 obtain⟨o,es,ep,t,ho,hex,hd,rfl,hel,hnd,hb,hf,hr,hl⟩:=hS
 have hbs:es.size<scanBound:=by simpa using hb
 have hel':ElemsOf (intKind prog w) es.toList:=ents_elems hel
 unfold setAddHashed setAddHashedIn
 refine wpAny_holding (wpAny_bind (wpAny_setState_of ho hd hf ?_))
 dsimp only
 rw[byScan_of (knd:=intKind prog w) rfl hbs hel']
 simp only[↓reduceIte]
 unfold setAddByScan
 refine wpAny_bind (wpAny_bind (wpAny_rule (wpAny_bind (wpAny_setScan_of (knd:=intKind prog w) (k:=k) (intKind_is _ _ _ _) ho hd hf hel' ?_))))
 cases hq:List.findIdx? (fun e=>(intKind prog w).is k e.2) es.toList with
 |some j=>
  have hin:k∈es.toList.map keyOf:=by
   rcases Classical.em (k∈es.toList.map keyOf)with z|z
   ·exact z
   ·rw[(find_none (prog:=prog) (w:=w) hel).mpr z]at hq;cases hq
  refine wpAny_pure (wpAny_pure ?_)
  have e:s={s with heap:=s.heap}:=by cases s;rfl
  have q:=h s.heap _ (Heap.SameBut.refl a s.heap) ⟨o,es,ep,t,ho,hex,hd,rfl,hel,hnd,hb,hf,hr,hl⟩ (by rw[if_pos hin])
  rw[decide_eq_false (fun z=>z hin)]at q
  rw[e];exact q
 |none=>
  have hin:k∉es.toList.map keyOf:=(find_none (prog:=prog) (w:=w) hel).mp hq
  have hperm:=layNew_perm t es (hashInt k) (.int k tok)
  have hfits:=layNew_fits t es (hashInt k) (.int k tok)
  obtain⟨rr,rl⟩:=layNew_rise (es:=es) (h:=hashInt k) (x:=.int k tok) hr
  have hgw:∀(b:Bool) {s₁:Shared} {Q':Unit→Shared→Prop},Q' () s₁→wpAny (model prog w) A (match b with|true=>rule "set.scan.the-table-gave-way"|false=>pure ()) Q' E s₁:=
   fun b s₁ Q' hq=>by cases b<;>first|exact wpAny_pure hq|exact wpAny_rule hq
  dsimp only
  generalize hL:layNew t es (hashInt k) (.int k tok)=L at hperm hfits rr rl
  obtain⟨es1,t1,wasDummy,gave⟩:=L
  dsimp only at hperm hfits rr rl⊢
  rw[Array.toList_push]at hperm
  have hel1:∀e∈es1.toList,EntOk e:=fun e he=>by
   rcases List.mem_append.mp (hperm.mem_iff.mp he)with z|z
   ·exact hel e z
   ·rw[List.mem_singleton]at z;exact⟨k,tok,z⟩
  have pm:(es1.toList.map keyOf).Perm (k::es.toList.map keyOf):=by
   refine(hperm.map _).trans ?_
   rw[List.map_append]
   exact List.perm_append_comm
  have hnd1:(es1.toList.map keyOf).Nodup:=pm.nodup_iff.mpr (List.nodup_cons.mpr ⟨hin,hnd⟩)
  have hsz1:es1.size=es.size+1:=by rw[←Array.length_toList,hperm.length_eq,List.length_append,Array.length_toList];rfl
  have hb1:es1.size<scanBound:=by rw[hsz1];simpa using hroom
  have hend:∀h' ks',Heap.SameBut a s.heap h'→SetG w h' a ks'→ks'.Perm (es1.toList.map keyOf)→Q true {s with heap:=h'}:=fun h' ks' sb g p=>by
   have q:=h h' ks' sb g (by rw[if_neg hin];exact p.trans pm)
   rw[decide_eq_true hin]at q
   exact q
  refine wpAny_bind (hgw _ ?_)
  have hl1:t1.led=true∨bt w=true:=by rw[rl];exact hl
  split
  ·refine wpAny_bind ?_
   rw[hashByValue_scannable 8 (show Value.scannable (.int k tok)=true from rfl)]
   refine wpAny_pure ?_
   refine addTailG ?_ ho hex hd hel1 hnd1 hb1 ?_ ?_ ?_ ?_
   ·intro b s₁ Q' hq;cases b<;>first|exact wpAny_pure hq|exact wpAny_rule hq
   ·split
    ·exact hfits
    ·exact SetTable.fits_plain_off hfits
   ·split
    ·exact rr
    ·exact rr
   ·split
    ·exact hl1
    ·exact hl1
   ·intro h' ks' hsb g p;exact wpAny_pure (hend h' ks' hsb g p)
  ·refine wpAny_bind (wpAny_pure ?_)
   simp only[↓reduceIte]
   refine addTailG ?_ ho hex hd hel1 hnd1 hb1 hfits rr hl1 ?_
   ·intro b s₁ Q' hq;cases b<;>first|exact wpAny_pure hq|exact wpAny_rule hq
   ·intro h' ks' hsb g p;exact wpAny_pure (hend h' ks' hsb g p)
theorem newSetG{Q:Value→Shared→Prop}(h:∀h',SetG w h' s.heap.objs.size []→h'.objs.size=s.heap.objs.size+1→(∀b o,s.heap.get? b=some o→h'.get? b=some o)→Q (.ref s.heap.objs.size) {s with heap:=h'}):
  wpAny (model prog w) A (newSet (.type "set")) Q E s:=by
 unfold newSet setsByText
 refine wpAny_bind (wpAny_bind (wpAny_askSetting (wpAny_pure ?_)))
 dsimp only
 simp only[newObj]
 refine wpAny_bind (wpAny_alloc (wpAny_pure (h _ ⟨_,#[],0,_,Heap.get?_push_size _ rfl,⟨rfl,rfl,rfl⟩,rfl,rfl,fun e he=>by simp at he,List.nodup_nil,by decide,by rfl,List.Pairwise.nil,?_⟩ (Heap.size_push ..) fun b o e=>Heap.get?_push_of_some _ e)))
 show(!w.params.followText "set-order")=true∨bt w=true
 unfold bt
 cases w.params.followText "set-order"<;>simp
end
section
variable{prog:Program}{w:World}{A:Around}{E:Value→Shared→Prop}{s:Shared}
theorem update_loopG{R:Result→Shared→Prop}{I S l:Addr}{items:Array Value}{ns:List Int}(hh:A.in1.handled=none)(hi:IntsAre items.toList ns)(hb:items.size+1<scanBound)(n1:S≠I)(n2:S≠l)(n3:l≠I):
  ∀(k i:Nat) (s:Shared) (ks:List Int),items.size - i=k→i≤items.size→s.heap.IsListIter I l i→s.heap.IsList l items→SetG w s.heap S ks→ks.length≤i→(∀x,x∈ks↔x∈ns.take i)→
   (∀h' tk ks',(∀b o,b≠S→b≠I→s.heap.get? b=some o→h'.get? b=some o)→SetG w h' S ks'→(∀x,x∈ks'↔x∈ns)→R (.ok (.ret .none)) {s with heap:=h',toks:=tk})→
   codeAny (model prog w) A (.builtin "set.update.loop" ⟨[.ref S,.ref I],[]⟩) R s:=by
 have hlen:items.size=ns.length:=by have:=IntsAre.length hi;simpa using this
 intro k
 induction k with
 |zero=>
  intro i s ks hk hle hit hl hS hlk hm hR
  have hin:i=items.size:=by omega
  subst hin
  refine codeAny_builtin PyProof.Rows.F.entry_set_update_loop ?_
  rw[Around.under_plainId PyProof.Rows.F.plain_set_update_loop _]
  show wpAny _ A.in1 (pyNext (.ref I) >>=_) _ _ s
  refine wpAny_bind (wpAny_pyNext_list_end hh hit hl (by simp) fun h' eb=>?_)
  show wpAny _ A.in1 (ret Value.none) _ _ _
  refine wpAny_pure (hR h' s.toks ks (fun b o _ b2 e=>eb b o b2 e) (hS.at fun o e=>eb _ _ n1 e) fun x=>?_)
  rw[hm x,hlen,List.take_length]
 |succ k ih=>
  intro i s ks hk hle hit hl hS hlk hm hR
  have hlt:i<items.size:=by omega
  obtain⟨t,hv⟩:=IntsAre.int_at hi i items[i] (by simp[hlt])
  have hgd:ns.getD i 0=ns[i]'(by omega):=by simp[List.getD_eq_getElem?_getD,show i<ns.length by omega]
  refine codeAny_builtin PyProof.Rows.F.entry_set_update_loop ?_
  rw[Around.under_plainId PyProof.Rows.F.plain_set_update_loop _]
  show wpAny _ A.in1 (pyNext (.ref I) >>=_) _ _ s
  refine wpAny_bind (wpAny_pyNext_list_item hit hl (x:=items[i]) (by simp[hlt]) fun h1 hit1 sb1=>?_)
  have hS1:SetG w h1 S ks:=hS.at fun o e=>sb1.extBut _ _ n1 e
  show wpAny _ A.in1 (holding [items[i]] (setAdd S items[i]) >>=_) _ _ _
  rw[hv]
  refine wpAny_bind (wpAny_holding ?_)
  unfold setAdd
  refine wpAny_holding ?_
  refine wpAny_bind ((intKind prog w).pyHash (k:=ns.getD i 0) (intKind_is _ _ _ _) ?_)
  refine setAddG (s:={s with heap:=h1,toks:=s.toks+1}) hS1 (by omega) fun h2 ks2 sb2 hS2 p2=>?_
  have hm2:∀x,x∈ks2↔x∈ns.take (i+1):=fun x=>by
   rw[p2.mem_iff,List.take_add_one,List.mem_append,←hm x,show ns[i]?=some (ns.getD i 0) by rw[hgd];exact List.getElem?_eq_getElem _]
   split
   ·rename_i hin
    simp only[Option.toList_some,List.mem_singleton]
    exact⟨.inl,fun z=>z.elim id fun e=>e▸hin⟩
   ·simp only[List.mem_cons,Option.toList_some,List.mem_singleton,List.not_mem_nil,or_false]
    exact Or.comm
  have hl2:ks2.length≤i+1:=by
   rw[p2.length_eq]
   split
   ·omega
   ·rw[List.length_cons];omega
  refine wpAny_pure ⟨plainId_quiet PyProof.Rows.F.plain_set_update_loop _,ih (i+1) _ ks2 (by omega) hlt ?_ ?_ hS2 hl2 hm2 fun h' tk ks' kp hS' hm'=>?_⟩
  ·exact hit1.extBut sb2.extBut (Ne.symm n1)
  ·exact(hl.extBut sb1.extBut n3).extBut sb2.extBut (Ne.symm n2)
  ·exact hR h' tk ks' (fun b o b1 b2 e=>kp b o b1 b2 (sb2.extBut _ _ b1 (sb1.extBut _ _ b2 e))) hS' hm'
theorem set_new_G(a:Value){Q₁:Value→Shared→Prop}
  (h:Q₁ (.ref s.heap.objs.size) {s with heap:=s.heap.push {cls:=.type "set",dict:=none,data:=.set #[] 0 (.fresh 0 0 (!bt w))}}):
  codeAny (model prog w) A (.call (.builtin "set.__new__") ⟨[.type "set",a],[]⟩) (wants Q₁ E) s:=by
 refine codeAny_of_tree ?_
 show wpAny _ A.in1 (do checkBuiltinCall "set.__new__" ⟨[.type "set",a],[]⟩;again (.builtin "set.__new__" ⟨[.type "set",a],[]⟩)) _ _ s
 refine wpAny_bind (wpAny_of_eq (PySem.F.newCall_set_1 a) (wpAny_pure ⟨plainId_quiet PySem.F.plain_set_new _,codeAny_builtin PySem.F.entry_set_new ?_⟩))
 rw[Around.under_plainId PySem.F.plain_set_new _]
 unfold Builtin.«set.__new__» Builtin.Frozenset.newClass
 have hsub:=sub_set_self
 obtain⟨hp,g,d,tk,os⟩:=s
 dsimp only
 wp_walk
 refine wpAny_askSetting (wpAny_pure ?_)
 dsimp only
 simp only[newObj]
 refine wpAny_bind (wpAny_alloc (wpAny_pure ?_))
 exact wpAny_pure h
set_option maxHeartbeats 8000000 in
theorem set_listG{l:Addr}{items:Array Value}{ns:List Int}{Q:Value→Shared→Prop}(hh:A.handled=none)(hl:s.heap.IsList l items)(hi:IntsAre items.toList ns)(hb:items.size+1<scanBound)
  (h:∀(h':Heap) (tk:Nat) (ks:List Int),SetG w h' s.heap.objs.size ks→(∀x,x∈ks↔x∈ns)→(∀b o,b<s.heap.objs.size→s.heap.get? b=some o→h'.get? b=some o)→Q (.ref s.heap.objs.size) {s with heap:=h',toks:=tk}):
  wpAny (model prog w) A (call (.type "set") [.ref l]) Q E s:=by
 obtain⟨c,tl,hmro⟩:=PySem.F.called_set.mro
 have hmade:=PySem.F.called_set.made
 have hsub:=PySem.F.called_set.sub
 refine wpAny_call (codeAny_of_tree ?_)
 show wpAny _ _ (callAny (.type "set") _) _ _ _
 refine wpAny_pure ⟨Code.quiet_builtin _ (by decide+kernel),codeAny_builtin PySem.F.entry_type_call ?_⟩
 rw[Around.under_plain (weight_type_call_type "set" [.ref l] []) rfl]
 have h1:=PySem.F.called_set.notType
 have h2:=PySem.F.called_set.canCreate
 have hct:=PySem.F.typeCall_set_1 (.ref l)
 repeat (any_goals (first|assumption|wp_step))
 refine codeAny_mono (set_new_G (w:=w) (.ref l) (E:=E) (Q₁:=fun obj s₁=>obj=.ref s.heap.objs.size∧s₁={s with heap:=s.heap.push {cls:=.type "set",dict:=none,data:=.set #[] 0 (.fresh 0 0 (!bt w))}}) ⟨rfl,rfl⟩) fun r s₁ hr=>?_
 cases r with
 |error e=>exact hr
 |ok fl=>
  cases fl with
  |ret obj=>
   obtain⟨rfl,rfl⟩:=hr
   generalize hled:(!bt w)=led
   have hS:(s.heap.push {cls:=.type "set",dict:=none,data:=.set #[] 0 (.fresh 0 0 led)}).get? s.heap.objs.size=some {cls:=.type "set",dict:=none,data:=.set #[] 0 (.fresh 0 0 led)}:=Heap.get?_push_size _ rfl
   have hT:Shared.TypeIs {s with heap:=s.heap.push {cls:=.type "set",dict:=none,data:=.set #[] 0 (.fresh 0 0 led)}} (.ref s.heap.objs.size) "set":=⟨_,hS,rfl⟩
   have hli:=PySem.F.called_set.init.lookup
   have hbi:=PySem.F.called_set.init.bind (.ref s.heap.objs.size)
   repeat (any_goals (first|assumption|wp_step))
   refine codeAny_mono (codeAny_call_builtin (R:=wants (fun r s₂=>r=.none∧∃h' tk ks,s₂={s with heap:=h',toks:=tk}∧SetG w h' s.heap.objs.size ks∧(∀x,x∈ks↔x∈ns)∧
     (∀b o,b<s.heap.objs.size→s.heap.get? b=some o→h'.get? b=some o)) E) PySem.F.called_set.init.plain PySem.F.entry_set_init (check_set_init_1 hT ?_)) fun r₂ s₂ hr₂=>?_
   ·obtain⟨ol,hol,hcl,nl,hdl⟩:=hl
    obtain⟨ocls,odict,odata,oslots⟩:=ol
    simp only at hcl hdl
    subst hcl;subst hdl
    have hol':(s.heap.push {cls:=.type "set",dict:=none,data:=.set #[] 0 (.fresh 0 0 led)}).get? l=some {cls:=.type "list",dict:=odict,data:=.seq items nl,slots:=oslots}:=Heap.get?_push_of_some _ hol
    have hsls:=PySem.F.sub_list_set
    have hslf:=PySem.F.sub_list_frozenset
    have hne:(Value.type "list"==Value.type "dict")=false:=by decide
    have hl1:(s.heap.push {cls:=.type "set",dict:=none,data:=.set #[] 0 (.fresh 0 0 led)}).IsList l items:=⟨_,hol',rfl,nl,rfl⟩
    unfold Builtin.«set.__init__» noKeywords Builtin.Frozenset.updateFrom
    generalize hPI:pyIter=PI
    wp_walk
    subst hPI
    refine wpAny_pyIter_list hl1 ?_
    refine wpAny_bind (wpAny_runValue ?_)
    have hlS:l<s.heap.objs.size:=Heap.lt_size hol
    have hh3:A.in1.in1.in1.handled=none:=by simp[hh]
    have hSz:(s.heap.push {cls:=.type "set",dict:=none,data:=.set #[] 0 (.fresh 0 0 led)}).objs.size=s.heap.objs.size+1:=Heap.size_push ..
    have e1:s.heap.objs.size≠(s.heap.push {cls:=.type "set",dict:=none,data:=.set #[] 0 (.fresh 0 0 led)}).objs.size:=by rw[hSz];exact Nat.ne_of_lt (Nat.lt_succ_self _)
    have e2:l≠(s.heap.push {cls:=.type "set",dict:=none,data:=.set #[] 0 (.fresh 0 0 led)}).objs.size:=by rw[hSz];exact Nat.ne_of_lt (Nat.lt_succ_of_lt hlS)
    refine update_loopG (w:=w) hh3 hi hb e1 (Nat.ne_of_gt hlS) e2 (items.size - 0) 0 _ [] (by omega) (Nat.zero_le _)
     ⟨_,Heap.get?_push_size _ rfl,rfl,rfl⟩ (hl1.push _) ⟨_,#[],0,_,Heap.get?_push_of_some _ hS,⟨rfl,rfl,rfl⟩,rfl,rfl,fun e he=>by simp at he,List.nodup_nil,by decide,by rfl,List.Pairwise.nil,?_⟩ (Nat.le_refl _) (fun x=>by simp) ?_
    ·show led=true∨bt w=true
     rw[←hled]
     cases bt w<;>simp
    ·intro h' tk ks' kp hS' hm'
     show wpAny _ _ _ _ _ _
     refine wpAny_pure ?_
     show wpAny _ _ (ret Value.none) _ _ _
     refine wpAny_pure ⟨rfl,h',tk,ks',rfl,hS',hm',fun b o hb e=>?_⟩
     exact kp b o (Nat.ne_of_lt hb) (by rw[hSz];exact Nat.ne_of_lt (Nat.lt_succ_of_lt hb)) (Heap.get?_push_of_some _ (Heap.get?_push_of_some _ e))
   ·cases r₂ with
    |error e=>exact hr₂
    |ok fl₂=>
     cases fl₂ with
     |ret r=>
      obtain⟨rfl,h',tk,ks,rfl,hS',hm',hk'⟩:=hr₂
      repeat (any_goals (first|assumption|wp_step))
      exact h _ _ _ hS' hm' hk'
     |_=>exact hr₂.elim
  |_=>exact hr.elim
end
namespace FF
theorem slot_si_next:Slot "set_iterator" "__next__" "set_iterator.__next__":=
 .of (owner:="set_iterator") (n:="__next__") (by rw[typeLookup_type,builtinLookup_eq_fast];kernel_rfl) (by decide+kernel) (by decide+kernel) (by decide+kernel)
  (by first|exact .inl (by decide+kernel)|exact .inr (by decide+kernel)) (by rw[isSubtype_type];kernel_rfl)
theorem slot_si_iter:Slot "set_iterator" "__iter__" "set_iterator.__iter__":=
 .of (owner:="set_iterator") (n:="__iter__") (by rw[typeLookup_type,builtinLookup_eq_fast];kernel_rfl) (by decide+kernel) (by decide+kernel) (by decide+kernel)
  (by first|exact .inl (by decide+kernel)|exact .inr (by decide+kernel)) (by rw[isSubtype_type];kernel_rfl)
theorem entry_si_next:entryFor table "set_iterator.__next__"=some Builtin.«set_iterator.__next__»:=entryFor_of_tree (by kernel_rfl)
theorem owner_si:Manifest.owners.lookup (String.ofList ['r','o','t','a','r','e','t','i','_','t','e','s'].reverse)=some Manifest.sig_set_iterator:=by kernel_rfl
theorem args_si_next(a:Value):argsOk "set_iterator.__next__" ⟨[a],[]⟩:=by
 unfold argsOk;rw[signature?_of (id:="set_iterator.__next__") (n:=['_','_','t','x','e','n','_','_']) (o:=['r','o','t','a','r','e','t','i','_','t','e','s']) (by kernel_rfl) owner_si];kernel_rfl
theorem entry_si_iter:entryFor table "set_iterator.__iter__"=some Builtin.«dict_keyiterator.__iter__»:=
 entryFor_alias (id':="dict_keyiterator.__iter__") (by kernel_rfl) (by first|rfl|decide+kernel) (by decide+kernel) (by kernel_rfl)
theorem args_si_iter(a:Value):argsOk "set_iterator.__iter__" ⟨[a],[]⟩:=by
 unfold argsOk;rw[signature?_of (id:="set_iterator.__iter__") (n:=['_','_','r','e','t','i','_','_']) (o:=['r','o','t','a','r','e','t','i','_','t','e','s']) (by kernel_rfl) owner_si];kernel_rfl
theorem entry_set_iter:entryFor table "set.__iter__"=some Builtin.«frozenset.__iter__»:=
 entryFor_alias (id':="frozenset.__iter__") (by kernel_rfl) rfl (by decide+kernel) (by kernel_rfl)
end FF
abbrev siObj(first:Value)(i:Nat)(S:Addr)(n ep:Nat):Obj:={cls:=.type "set_iterator",dict:=none,data:=.fields #[first,rawInt i,.ref S,rawInt n,rawInt ep],slots:= #[]}
section
variable{prog:Program}{w:World}{A:Around}{E:Value→Shared→Prop}{s:Shared}
theorem wpAny_choose{n:Nat}{Q:Nat→Shared→Prop}(hn:n≠0)(h:∀i d,i<n→Q i {s with drawn:=d}):wpAny (model prog w) A (choose .order n) Q E s:=fun Γ p hΓ=>by
 unfold choose
 rw[Sem.wp_choose]
 refine⟨hn,?_⟩
 rw[Sem.wp_pure]
 exact h _ _ (Nat.mod_lt _ (Nat.pos_of_ne_zero hn))
theorem cons_erase{α:Type}:∀(l:List α) (i:Nat) (h:i<l.length),(l[i]::l.eraseIdx i).Perm l
 |x::r,0,_=>List.Perm.refl _
 |x::r,i+1,h=>(List.Perm.swap _ _ _).trans (List.Perm.cons _ (cons_erase r i (by simpa using h)))
theorem draw_order{α:Type}:∀(n:Nat) (xs:List α) (s:Shared) (Q:List α→Shared→Prop),xs.length=n→(∀ys d,ys.Perm xs→Q ys {s with drawn:=d})→wpAny (model prog w) A (drawOrder n xs) Q E s
 |0,xs,s,Q,hl,h=>by
  have e:xs=[]:=List.length_eq_zero_iff.mp hl
  subst e
  unfold drawOrder
  exact wpAny_pure (h [] s.drawn (List.Perm.refl _))
 |n+1,[],s,Q,hl,h=>by simp at hl
 |n+1,x::r,s,Q,hl,h=>by
  unfold drawOrder
  refine wpAny_bind (wpAny_choose (by simp) fun i d hi=>?_)
  rw[List.getElem?_eq_getElem hi]
  dsimp only
  refine wpAny_bind (draw_order n _ _ _ (by rw[List.length_eraseIdx_of_lt hi,hl];rfl) fun ys d' p=>wpAny_pure ?_)
  have:=h ((x::r)[i]::ys) d' ((List.Perm.cons _ p).trans (cons_erase _ i hi))
  exact this
end
end L2
namespace L2
open PySem PySem.Spec PyProof.Rows
theorem pick_go{α:Type}(next:Nat→Nat):∀(fuel k:Nat) (left:List α) (out:Array α),left.length=fuel→(pickOrder.go next fuel k left out).toList.Perm (out.toList++left)
 |0,k,left,out,h=>by
  have e:left=[]:=List.length_eq_zero_iff.mp h
  subst e
  unfold pickOrder.go
  rw[List.append_nil]
 |fuel+1,k,left,out,h=>by
  unfold pickOrder.go
  have hi:next k % left.length<left.length:=Nat.mod_lt _ (by omega)
  rw[List.getElem?_eq_getElem hi]
  dsimp only
  refine(pick_go next fuel (k+1) _ _ (by rw[List.length_eraseIdx_of_lt hi,h];rfl)).trans ?_
  rw[Array.toList_push,List.append_assoc]
  exact List.Perm.append_left _ (cons_erase _ _ hi)
theorem pick_perm{α:Type}(next:Nat→Nat)(xs:Array α):(pickOrder next xs).toList.Perm xs.toList:=by
 have:=pick_go next xs.size 0 xs.toList #[] (by simp)
 simpa[pickOrder]using this
section
variable{prog:Program}{w:World}{A:Around}{E:Value→Shared→Prop}{s:Shared}{I S:Addr}{first:Value}{i n ep:Nat}{o:Obj}{es:Array (Int×Value)}{t:SetTable}
theorem si_open{Q:Fin→Shared→Prop}{slot:Nat}(hI:s.heap.get? I=some (siObj (rawInt slot) i S n ep))(hS:s.heap.get? S=some o)(hd:o.data=.set es ep t)(hf:t.fits es.size=true)(hn:es.size=n)
  (h:wpAny (model prog w) A (setNext S slot i ep) (fun r s'=>wpAny (model prog w) A (match r with
   |some (x,next)=>do
    setField (.ref I) 0 (rawInt next)
    setField (.ref I) 1 (rawInt ((i:Int)+1))
    ret x
   |none=>do
    setField (.ref I) 2 .none
    raiseNew (←newExc (.type "StopIteration") [])) Q E s') E s):
  wpAny (model prog w) A (Builtin.«set_iterator.__next__» ⟨[.ref I],[]⟩) Q E s:=by
 show wpAny _ _ (fieldsOf (.ref I) >>=_) _ _ _
 refine wpAny_bind (wpAny_fieldsOf hI rfl ?_)
 show wpAny _ _ (setEntries S >>=_) _ _ _
 unfold setEntries
 refine wpAny_bind (wpAny_bind (wpAny_setState_of hS hd hf (wpAny_pure ?_)))
 have e:((es.size:Int) !=(n:Int))=false:=by rw[hn];simp
 show wpAny _ _ (if((es.size:Int) !=(n:Int))=true then _ else _) _ _ _
 rw[e,if_neg Bool.false_ne_true]
 refine wpAny_bind (wpAny_mono h (fun r s' hr=>?_) fun _ _ z=>z)
 cases r with
 |none=>exact hr
 |some p=>obtain⟨x,next⟩:=p;exact hr
end
section
variable{prog:Program}{w:World}{A:Around}{E:Value→Shared→Prop}{s:Shared}{I S:Addr}{first:Value}{i n ep:Nat}{o:Obj}{es:Array (Int×Value)}{t:SetTable}
theorem setsByText_{Q:Bool→Shared→Prop}(h:Q (bt w) s):wpAny (model prog w) A setsByText Q E s:=by
 unfold setsByText
 exact wpAny_bind (wpAny_askSetting (wpAny_pure h))
theorem next_places{slot:Nat}{Q:Option (Value×Nat)→Shared→Prop}(hS:s.heap.get? S=some o)(hd:o.data=.set es ep t)(hf:t.fits es.size=true)(hb:bt w=false)(hdr:(!t.plain && decide (es.size >1))=false)(hl:t.led=true)
  (h:Q (match es[SetTable.below t.place slot]?,t.place[SetTable.below t.place slot]? with
   |some (_,x),some j=>some (x,j+1)
   |_,_=>none) s):wpAny (model prog w) A (setNext S slot i ep) Q E s:=by
 unfold setNext
 refine wpAny_bind (wpAny_setState_of hS hd hf ?_)
 dsimp only
 refine wpAny_bind (setsByText_ ?_)
 rw[hb,if_neg Bool.false_ne_true]
 show wpAny _ _ (if(!t.plain && decide (es.size >1))=true then _ else _) _ _ _
 rw[hdr,if_neg Bool.false_ne_true]
 refine wpAny_bind ?_
 show wpAny _ _ (if(!t.led && !es.isEmpty)=true then _ else _) _ _ _
 rw[hl]
 exact wpAny_pure (wpAny_pure h)
theorem next_text{slot:Nat}{Q:Option (Value×Nat)→Shared→Prop}(hS:s.heap.get? S=some o)(hd:o.data=.set es ep t)(hf:t.fits es.size=true)(hb:bt w=true)
  (h:Q (((pickOrder (w.params.setOrder S ep) es)[i]?).map fun e=>(e.2,slot)) s):wpAny (model prog w) A (setNext S slot i ep) Q E s:=by
 unfold setNext
 refine wpAny_bind (wpAny_setState_of hS hd hf ?_)
 dsimp only
 refine wpAny_bind (setsByText_ ?_)
 rw[hb,if_pos rfl]
 have e:(ep !=ep)=false:=by simp
 rw[e,if_neg Bool.false_ne_true]
 unfold setWalk
 refine wpAny_bind (wpAny_bind (wpAny_setState_of hS hd hf ?_))
 dsimp only
 refine wpAny_bind (setsByText_ ?_)
 rw[hb,if_pos rfl]
 exact wpAny_bind (wpAny_askSetting (wpAny_pure (wpAny_pure h)))
theorem si_stop{Q:Fin→Shared→Prop}(hh:A.handled=none)(hE:∀h' e,(∀b o,s.heap.get? b=some o→h'.get? b=some o)→(∃o,h'.get? e=some o∧o.cls=.type "StopIteration")→E (.ref e) {s with heap:=h'}):
  wpAny (model prog w) A (do raiseNew (←newExc (.type "StopIteration") [])) Q E s:=by
 refine wpAny_bind ?_
 simp only[newExc,newTuple]
 refine wpAny_bind (wpAny_newObj_type ?_ (by size_fits))
 refine wpAny_bind (m:=firstArgMember _ _) (wpAny_of_eq (a:=Value.none) (by first|rfl|(simp only[firstArgMember];rfl)) ?_)
 refine wpAny_newObj_type ?_ (by size_fits)
 simp only[raiseNew]
 refine wpAny_bind (wpAny_handled ?_)
 rw[hh]
 refine wpAny_bind (wpAny_pure (wpAny_throw ?_))
 exact hE _ _ (fun b o e=>Heap.get?_push_of_some _ (Heap.get?_push_of_some _ e)) ⟨_,Heap.get?_push_size _ rfl,rfl⟩
theorem pyNext_si{Q:Option Value→Shared→Prop}(hI:s.heap.get? I=some (siObj first i S n ep))
  (h:wpAny (model prog w) A.in1 (Builtin.«set_iterator.__next__» ⟨[.ref I],[]⟩) (fun fin s'=>∃v,fin=.done (.ret v)∧Q (some v) s') (fun e s'=>(∃a o,e=.ref a∧s'.heap.get? a=some o∧o.cls=.type "StopIteration")∧Q none s') s):
  wpAny (model prog w) A (pyNext (.ref I)) Q E s:=by
 have hT:s.TypeIs (.ref I) "set_iterator":=⟨_,hI,rfl⟩
 unfold pyNext
 refine wpAny_bind (wpAny_attempt (wpAny_callSpecial?_slot (name:=Str.ofString "__next__") hT FF.slot_si_next
  (wpAny_call_entry FF.slot_si_next hT FF.entry_si_next (wpAny_mono h (fun fin s' ⟨v,e,q⟩=>⟨v,e,wpAny_pure q⟩) fun e s' ⟨⟨a,o,e1,ho,hc⟩,q⟩=>?_) (FF.args_si_next _))))
 subst e1
 refine wpAny_bind (wpAny_isInstance (T:="StopIteration") (b:=true) ⟨o,ho,hc⟩ isSubtype_stop ?_)
 exact wpAny_pure q
end
section
variable{prog:Program}{w:World}{A:Around}{I S:Addr}{ep:Nat}{o:Obj}{es:Array (Int×Value)}{t:SetTable}
theorem walk_slots(hh:A.handled=none)(hIS:S≠I)(hd:o.data=.set es ep t)(hf:t.fits es.size=true)(vs:List Value)(hv:vs.length=es.size)(G:Nat→Nat→Prop)
  (hgo:∀(A':Around) (i slot:Nat) (s:Shared) (Q:Option (Value×Nat)→Shared→Prop) (E:Value→Shared→Prop) (v:Value),G i slot→s.heap.get? S=some o→vs[i]?=some v→(∀slot',G (i+1) slot'→Q (some (v,slot')) s)→wpAny (model prog w) A' (setNext S slot i ep) Q E s)
  (hend:∀(A':Around) (slot:Nat) (s:Shared) (Q:Option (Value×Nat)→Shared→Prop) (E:Value→Shared→Prop),G es.size slot→s.heap.get? S=some o→Q none s→wpAny (model prog w) A' (setNext S slot es.size ep) Q E s):
  Walks prog w A I [I,S] [I] es.size (fun i v=>vs[i]?=some v) (fun i h=>h.get? S=some o∧∃slot:Nat,G i slot∧h.get? I=some (siObj (rawInt slot) i S es.size ep)) where
 sub:=fun b hb=>by simp at hb;simp[hb]
 frame:=fun i h h' st k=>by
  obtain⟨h1,slot,g,h2⟩:=st
  exact⟨k S (by simp) o h1,slot,g,k I (by simp) _ h2⟩
 item:=fun i s Q E hi st hQ=>by
  obtain⟨h1,slot,g,h2⟩:=st
  have hiv:i<vs.length:=by omega
  refine pyNext_si h2 (si_open h2 h1 hd hf rfl (hgo _ i slot s _ _ vs[i] g h1 (List.getElem?_eq_getElem hiv) fun slot' g'=>?_))
  refine wpAny_bind (wpAny_setField_rec h2 (by simp) fun h3 h3I sb3=>?_)
  refine wpAny_bind (wpAny_setField_rec h3I (by simp) fun h4 h4I sb4=>?_)
  refine wpAny_pure ⟨_,rfl,?_⟩
  refine hQ _ h4 s.toks (List.getElem?_eq_getElem hiv) ⟨sb4.extBut _ _ hIS (sb3.extBut _ _ hIS h1),slot',g',?_⟩ fun b o' hb e=>?_
  ·rw[h4I];rfl
  ·have hb':b≠I:=by simpa using hb
   exact sb4.extBut _ _ hb' (sb3.extBut _ _ hb' e)
 done:=fun s Q E st hQ=>by
  obtain⟨h1,slot,g,h2⟩:=st
  refine pyNext_si h2 (si_open h2 h1 hd hf rfl (hend _ slot s _ _ g h1 ?_))
  refine wpAny_bind (wpAny_setField_rec h2 (by simp) fun h3 h3I sb3=>?_)
  refine si_stop (show A.in1.handled=none from hh) fun h4 e k4 he=>⟨?_,hQ h4 s.toks fun b o' hb q=>k4 _ _ (sb3.extBut _ _ (by simpa using hb) q)⟩
  obtain⟨oe,q1,q2⟩:=he
  exact⟨e,oe,rfl,q1,q2⟩
 self:=fun i s Q E st hQ=>by
  obtain⟨h1,slot,g,h2⟩:=st
  have hT:s.TypeIs (.ref I) "set_iterator":=⟨_,h2,rfl⟩
  refine wpAny_pyIter_slot hT FF.slot_si_iter (wpAny_call_entry FF.slot_si_iter hT FF.entry_si_iter ?_ (FF.args_si_iter _))
  show wpAny _ _ (ret (.ref I)) _ _ s
  exact wpAny_pure ⟨_,rfl,"set_iterator",_,hT,FF.slot_si_next.lookup,hQ⟩
end
abbrev ptObj(ps:List Nat):Obj:={cls:=.type "tuple",data:=.seq (ps.map fun(p:Nat)=>rawInt p).toArray}
section
variable{prog:Program}{w:World}{A:Around}{I S TT:Addr}{ep:Nat}{o:Obj}{es:Array (Int×Value)}{t:SetTable}
theorem walk_drawn(hh:A.handled=none)(n1:S≠I)(n2:TT≠I)(hd:o.data=.set es ep t)(hf:t.fits es.size=true)(ps:List Nat)(hps:ps.Perm (List.range es.size))(vs:List Value)
  (hvi:∀(i p:Nat),ps[i]?=some p→∃e,es[p]?=some e∧vs[i]?=some e.2):
  Walks prog w A I [I,S,TT] [I] es.size (fun i v=>vs[i]?=some v) (fun i h=>h.get? S=some o∧h.get? TT=some (ptObj ps)∧h.get? I=some (siObj (.ref TT) i S es.size ep)) where
 sub:=fun b hb=>by simp at hb;simp[hb]
 frame:=fun i h h' st k=>by
  obtain⟨h1,h0,h2⟩:=st
  exact⟨k S (by simp) o h1,k TT (by simp) _ h0,k I (by simp) _ h2⟩
 item:=fun i s Q E hi st hQ=>by
  obtain⟨h1,h0,h2⟩:=st
  have hpl:ps.length=es.size:=by rw[hps.length_eq,List.length_range]
  have hip:i<ps.length:=by omega
  obtain⟨e,he,hve⟩:=hvi i ps[i] (List.getElem?_eq_getElem hip)
  refine pyNext_si h2 ?_
  show wpAny _ _ (fieldsOf (.ref I) >>=_) _ _ _
  refine wpAny_bind (wpAny_fieldsOf h2 rfl ?_)
  show wpAny _ _ (setEntries S >>=_) _ _ _
  unfold setEntries
  refine wpAny_bind (wpAny_bind (wpAny_setState_of h1 hd hf (wpAny_pure ?_)))
  have e0:((es.size:Int) !=(es.size:Int))=false:=by simp
  show wpAny _ _ (if((es.size:Int) !=(es.size:Int))=true then _ else _) _ _ _
  rw[e0,if_neg Bool.false_ne_true]
  show wpAny _ _ (seqItems? (.ref TT) >>=_) _ _ _
  refine wpAny_bind (wpAny_seqItems h0 rfl ?_)
  have e1:(ps.map fun(p:Nat)=>rawInt p).toArray[((i:Int)).toNat]?=some (rawInt ps[i]):=by simp[hip]
  dsimp only
  rw[e1]
  show wpAny _ _ (setNextDrawn S ps[i] ep >>=_) _ _ _
  unfold setNextDrawn
  refine wpAny_bind (wpAny_bind (wpAny_setState_of h1 hd hf ?_))
  dsimp only
  have e2:(ep !=ep)=false:=by simp
  rw[e2,if_neg Bool.false_ne_true,he]
  refine wpAny_pure ?_
  refine wpAny_bind (wpAny_setField_rec h2 (by simp) fun h3 h3I sb3=>?_)
  refine wpAny_pure ⟨_,rfl,?_⟩
  refine hQ _ h3 s.toks hve ⟨sb3.extBut _ _ n1 h1,sb3.extBut _ _ n2 h0,?_⟩ fun b o' hb q=>sb3.extBut _ _ (by simpa using hb) q
  rw[h3I];rfl
 done:=fun s Q E st hQ=>by
  obtain⟨h1,h0,h2⟩:=st
  have hpl:ps.length=es.size:=by rw[hps.length_eq,List.length_range]
  refine pyNext_si h2 ?_
  show wpAny _ _ (fieldsOf (.ref I) >>=_) _ _ _
  refine wpAny_bind (wpAny_fieldsOf h2 rfl ?_)
  show wpAny _ _ (setEntries S >>=_) _ _ _
  unfold setEntries
  refine wpAny_bind (wpAny_bind (wpAny_setState_of h1 hd hf (wpAny_pure ?_)))
  have e0:((es.size:Int) !=(es.size:Int))=false:=by simp
  show wpAny _ _ (if((es.size:Int) !=(es.size:Int))=true then _ else _) _ _ _
  rw[e0,if_neg Bool.false_ne_true]
  show wpAny _ _ (seqItems? (.ref TT) >>=_) _ _ _
  refine wpAny_bind (wpAny_seqItems h0 rfl ?_)
  have e1:(ps.map fun(p:Nat)=>rawInt p).toArray[((es.size:Int)).toNat]?=none:=by simp[hpl]
  dsimp only
  rw[e1]
  refine wpAny_bind (wpAny_setField_rec h2 (by simp) fun h3 h3I sb3=>?_)
  refine wpAny_bind (wpAny_setField_rec h3I (by simp) fun h4 h4I sb4=>?_)
  refine si_stop (show A.in1.handled=none from hh) fun h5 e k5 he=>⟨?_,hQ h5 s.toks fun b o' hb q=>k5 _ _ (sb4.extBut _ _ (by simpa using hb) (sb3.extBut _ _ (by simpa using hb) q))⟩
  obtain⟨oe,q1,q2⟩:=he
  exact⟨e,oe,rfl,q1,q2⟩
 self:=fun i s Q E st hQ=>by
  obtain⟨h1,h0,h2⟩:=st
  have hT:s.TypeIs (.ref I) "set_iterator":=⟨_,h2,rfl⟩
  refine wpAny_pyIter_slot hT FF.slot_si_iter (wpAny_call_entry FF.slot_si_iter hT FF.entry_si_iter ?_ (FF.args_si_iter _))
  show wpAny _ _ (ret (.ref I)) _ _ s
  exact wpAny_pure ⟨_,rfl,"set_iterator",_,hT,FF.slot_si_next.lookup,hQ⟩
end
theorem ints_of_ents:∀{l:List (Int×Value)},(∀e∈l,EntOk e)→IntsAre (l.map (·.2)) (l.map keyOf)
 |[],_=>.nil
 |e::r,h=>by
  obtain⟨k,tok,rfl⟩:=h e List.mem_cons_self
  exact .cons k tok (ints_of_ents fun x hx=>h x (List.mem_cons_of_mem _ hx))
theorem range_ents(es:Array (Int×Value))(d:Int×Value):(List.range es.size).map (fun p=>es.getD p d)=es.toList:=by
 apply List.ext_getElem
 ·simp
 ·intro i h1 h2
  have hi:i<es.size:=by simpa using h1
  simp[Array.getD,hi]
theorem fits_place{t:SetTable}{n:Nat}(h:t.fits n=true):t.place.size=n:=by
 simp only[SetTable.fits,Bool.and_eq_true,beq_iff_eq]at h
 exact h.1
section
variable{prog:Program}{w:World}{A:Around}{E:Value→Shared→Prop}{s:Shared}{S:Addr}{ks:List Int}
theorem iter_setG{Q:Value→Shared→Prop}(hS:SetG w s.heap S ks)
  (h:∀(I:Addr) (fp wr:List Addr) (St:Nat→Heap→Prop) (vs:List Value) (ns:List Int) (h':Heap) (d':Drawn),(∀A':Around,A'.handled=none→Walks prog w A' I fp wr ks.length (fun i v=>vs[i]?=some v) St)→St 0 h'→
   (∀b∈fp,b<h'.objs.size)→I∈fp→(∀b∈wr,s.heap.objs.size≤b)→(∀b∈fp,b=S∨s.heap.objs.size≤b)→IntsAre vs ns→ns.Perm ks→(∀b o,s.heap.get? b=some o→h'.get? b=some o)→Q (.ref I) {s with heap:=h',drawn:=d'}):
  wpAny (model prog w) A (pyIter (.ref S)) Q E s:=by
 obtain⟨o,es,ep,t,ho,hex,hd,rfl,hel,hnd,hb,hf,hr,hl⟩:=hS
 have hT:s.TypeIs (.ref S) "set":=⟨o,ho,hex.1⟩
 have hSlt:S<s.heap.objs.size:=Heap.lt_size ho
 have hkl:(es.toList.map keyOf).length=es.size:=by simp
 refine wpAny_pyIter_slot hT PySem.F.slot_set_iter (wpAny_call_entry PySem.F.slot_set_iter hT FF.entry_set_iter ?_ (PySem.F.args_set_iter_1 _))
 show wpAny _ _ (Builtin.Frozenset.sizeOf S >>=_) _ _ _
 unfold Builtin.Frozenset.sizeOf setEntries
 refine wpAny_bind (wpAny_bind (wpAny_bind (wpAny_setState_of ho hd hf (wpAny_pure (wpAny_pure ?_)))))
 unfold setDrawn
 refine wpAny_bind (wpAny_bind (wpAny_setState_of ho hd hf ?_))
 dsimp only
 refine wpAny_bind (setsByText_ (wpAny_pure ?_))
 show wpAny _ _ (if(!bt w && (!t.plain && decide (es.size >1)))=true then _ else _) _ _ _
 have old:∀(x:Obj) b u,s.heap.get? b=some u→(s.heap.push x).get? b=some u:=fun x b u e=>Heap.get?_push_of_some _ e
 by_cases hdr:(!bt w && (!t.plain && decide (es.size >1)))=true
 ·rw[if_pos hdr]
  refine wpAny_bind (draw_order es.size (List.range es.size) _ _ (by simp) fun ps d pps=>?_)
  refine wpAny_bind (wpAny_newTuple ?_ (by rw[List.length_map,pps.length_eq,List.length_range];exact fits_of_scanBound (by simpa using hb)))
  unfold setEpoch
  refine wpAny_bind (wpAny_bind (wpAny_setState_of (s:={s with heap:=s.heap.push (ptObj ps),drawn:=d}) (old _ _ _ ho) hd hf (wpAny_pure ?_)))
  show wpAny _ _ (do ret (←newFields "set_iterator" [.ref s.heap.objs.size,rawInt 0,.ref S,rawInt es.size,rawInt ep])) _ _ {s with heap:=s.heap.push (ptObj ps),drawn:=d}
  refine wpAny_bind (wpAny_newObj_type (wpAny_pure ⟨_,rfl,"set_iterator",_,⟨_,Heap.get?_push_size _ rfl,rfl⟩,FF.slot_si_next.lookup,?_⟩))
  have hz:(s.heap.push (ptObj ps)).objs.size=s.heap.objs.size+1:=Heap.size_push ..
  have n1:S≠(s.heap.push (ptObj ps)).objs.size:=by rw[hz];exact Nat.ne_of_lt (Nat.lt_succ_of_lt hSlt)
  have n2:s.heap.objs.size≠(s.heap.push (ptObj ps)).objs.size:=by rw[hz];exact Nat.ne_of_lt (Nat.lt_succ_self _)
  have pe:(ps.map fun p=>es.getD p (0,.none)).Perm es.toList:=by
   have:=pps.map fun p=>es.getD p (0,Value.none)
   rw[range_ents]at this
   exact this
  have plt:∀p∈ps,p<es.size:=fun p hp=>by simpa using pps.mem_iff.mp hp
  have ke:(es.toList.map keyOf).length=es.size:=hkl
  rw[ke]at h
  refine h (s.heap.push (ptObj ps)).objs.size [(s.heap.push (ptObj ps)).objs.size,S,s.heap.objs.size] [(s.heap.push (ptObj ps)).objs.size] _ ((ps.map fun p=>es.getD p (0,.none)).map (·.2)) ((ps.map fun p=>es.getD p (0,.none)).map keyOf) _ d
   (fun A' hh'=>walk_drawn hh' n1 n2 hd hf ps pps _ fun i p hp=>?_) ⟨Heap.get?_push_of_some _ (old _ _ _ ho),Heap.get?_push_of_some _ (Heap.get?_push_size _ rfl),Heap.get?_push_size _ rfl⟩ (fun b hb=>?_) (by simp) (fun b hb=>?_) (by simp[hz])
   (ints_of_ents fun e he=>hel e (pe.mem_iff.mp he)) (pe.map _) (fun b u e=>Heap.get?_push_of_some _ (Heap.get?_push_of_some _ e))
  ·have hlt:=plt p (List.mem_of_getElem? hp)
   refine⟨es[p],Array.getElem?_eq_getElem hlt,?_⟩
   rw[List.map_map,List.getElem?_map,hp]
   simp[Array.getD,hlt]
  ·rw[Heap.size_push,hz]
   simp only[List.mem_cons,List.not_mem_nil,or_false]at hb
   rcases hb with rfl|rfl|rfl
   ·rw[hz];exact Nat.lt_succ_self _
   ·exact Nat.lt_succ_of_lt (Nat.lt_succ_of_lt hSlt)
   ·exact Nat.lt_succ_of_lt (Nat.lt_succ_self _)
  ·have e:b=(s.heap.push (ptObj ps)).objs.size:=by simpa using hb
   rw[e,hz];exact Nat.le_succ _
 ·rw[if_neg hdr]
  refine wpAny_bind (wpAny_pure ?_)
  unfold setEpoch
  refine wpAny_bind (wpAny_bind (wpAny_setState_of ho hd hf (wpAny_pure ?_)))
  show wpAny _ _ (do ret (←newFields "set_iterator" [rawInt 0,rawInt 0,.ref S,rawInt es.size,rawInt ep])) _ _ s
  refine wpAny_bind (wpAny_newObj_type (wpAny_pure ⟨_,rfl,"set_iterator",_,⟨_,Heap.get?_push_size _ rfl,rfl⟩,FF.slot_si_next.lookup,?_⟩))
  have hne:S≠s.heap.objs.size:=Nat.ne_of_lt hSlt
  have flt:∀(x:Obj),∀b∈[s.heap.objs.size,S],b<(s.heap.push x).objs.size:=fun x b hb=>by
   rw[Heap.size_push]
   simp only[List.mem_cons,List.not_mem_nil,or_false]at hb
   rcases hb with rfl|rfl
   ·exact Nat.lt_succ_self _
   ·exact Nat.lt_succ_of_lt hSlt
  by_cases hbt:bt w=true
  ·have pp:=pick_perm (w.params.setOrder S ep) es
   have hps:(pickOrder (w.params.setOrder S ep) es).size=es.size:=by rw[←Array.length_toList,pp.length_eq,Array.length_toList]
   have ke:(es.toList.map keyOf).length=es.size:=hkl
   rw[ke]at h
   refine h s.heap.objs.size [s.heap.objs.size,S] [s.heap.objs.size] _ ((pickOrder (w.params.setOrder S ep) es).toList.map (·.2)) ((pickOrder (w.params.setOrder S ep) es).toList.map keyOf) _ s.drawn
    (fun A' hh'=>walk_slots hh' hne hd hf ((pickOrder (w.params.setOrder S ep) es).toList.map (·.2)) (by simp[hps]) (fun _ _=>True) (fun A'' i slot s' Q' E' v _ hS' hv hq=>next_text hS' hd hf hbt ?_) fun A'' slot s' Q' E' _ hS' hq=>next_text hS' hd hf hbt ?_)
    ⟨old _ _ _ ho,0,trivial,Heap.get?_push_size _ rfl⟩ (flt _) (by simp) (by simp) (by simp) (ints_of_ents fun e he=>hel e (pp.mem_iff.mp he)) (pp.map _) (old _)
   ·rw[List.getElem?_map,Array.getElem?_toList]at hv
    cases q:(pickOrder (w.params.setOrder S ep) es)[i]? with
    |none=>rw[q]at hv;cases hv
    |some e=>
     rw[q]at hv
     cases hv
     exact hq slot trivial
   ·rw[Array.getElem?_eq_none (by omega)]
    exact hq
  ·have hbf:bt w=false:=by cases q:bt w<;>simp_all
   have hled:t.led=true:=hl.resolve_right hbt
   have hdr':(!t.plain && decide (es.size >1))=false:=by
    rw[hbf]at hdr
    simpa using hdr
   have hpl:=fits_place hf
   have ke:(es.toList.map keyOf).length=es.size:=hkl
   rw[ke]at h
   refine h s.heap.objs.size [s.heap.objs.size,S] [s.heap.objs.size] _ (es.toList.map (·.2)) (es.toList.map keyOf) _ s.drawn
    (fun A' hh'=>walk_slots hh' hne hd hf (es.toList.map (·.2)) (by simp) (fun i slot=>SetTable.below t.place slot=i) (fun A'' i slot s' Q' E' v hg hS' hv hq=>next_places hS' hd hf hbf hdr' hled ?_) fun A'' slot s' Q' E' hg hS' hq=>next_places hS' hd hf hbf hdr' hled ?_)
    ⟨old _ _ _ ho,0,below_zero hr,Heap.get?_push_size _ rfl⟩ (flt _) (by simp) (by simp) (by simp) (ints_of_ents hel) (List.Perm.refl _) (old _)
   ·rw[hg]
    rw[List.getElem?_map,Array.getElem?_toList]at hv
    cases q:es[i]? with
    |none=>rw[q]at hv;cases hv
    |some e=>
     rw[q]at hv
     cases hv
     have hi:i<t.place.size:=by rw[hpl];exact(Array.getElem?_eq_some_iff.mp q).1
     rw[Array.getElem?_eq_getElem hi]
     exact hq _ (below_next hr (Array.getElem?_eq_getElem hi))
   ·rw[hg,Array.getElem?_eq_none (Nat.le_refl _)]
    exact hq
end
namespace FF
theorem look_set_len:typeLookup (.type "set") "__len__"=pure (some (.builtin "set.__len__")):=by rw[typeLookup_type,builtinLookup_eq_fast];kernel_rfl
end FF
section
variable{prog:Program}{w:World}{A:Around}{E:Value→Shared→Prop}{s:Shared}{S:Addr}{ks:List Int}
theorem hint_set{Q:Bool→Shared→Prop}(hT:s.TypeIs (.ref S) "set")(h:Q false s):wpAny (model prog w) A (Builtin.List.listLengthHint (.ref S)) Q E s:=by
 unfold Builtin.List.listLengthHint
 refine wpAny_bind (wpAny_specialOf hT FF.look_set_len ?_)
 (generalize hid:("set.__len__":String)=id0;(fail_if_success (clear hid id0));wp_delta;rw[show splitId id0=some ("set","__len__")from by subst hid;decide+kernel];subst hid)
 refine wpAny_bind (wpAny_isInstance (b:=true) hT sub_set_self ?_)
 simp only[Bool.not_true,Bool.false_eq_true,if_false]
 refine wpAny_bind (wpAny_typeOf hT ?_)
 exact wpAny_pure h
theorem collect_setG{Q:List Value→Shared→Prop}(hh:A.handled=none)(hS:SetG w s.heap S ks)
  (h:∀(vs:List Value) (ns:List Int) (h':Heap) (d':Drawn) (tk:Nat),IntsAre vs ns→ns.Perm ks→(∀b o,s.heap.get? b=some o→h'.get? b=some o)→s.heap.objs.size<h'.objs.size→Q vs {s with heap:=h',drawn:=d',toks:=tk}):
  wpAny (model prog w) A (collect (.ref S)) Q E s:=by
 have hSlt:=hS.lt
 have hkb:ks.length≤sizeLine:=by obtain⟨_,_,_,_,_,_,_,_,_,_,hb,_⟩:=hS;exact fits_of_scanBound hb
 unfold collect
 refine wpAny_bind (wpAny_runValue (codeAny_builtin PySem.F.entry_proto_collect ?_))
 rw[Around.under_plainId PySem.F.plain_proto_collect _]
 show wpAny _ A.in1 (newList [] >>=fun l=>again (.builtin "list.__iadd__" ⟨[l,.ref S],[]⟩)) _ _ s
 refine wpAny_bind (wpAny_newObj_type ?_)
 refine wpAny_pure ⟨plainId_quiet PySem.F.plain_list_iadd _,codeAny_builtin PySem.F.entry_list_iadd ?_⟩
 rw[Around.under_plainId PySem.F.plain_list_iadd _]
 generalize hh1:s.heap.push {cls:=.type "list",data:=.seq ([]:List Value).toArray}=h1
 have z1:h1.objs.size=s.heap.objs.size+1:=by rw[←hh1];exact Heap.size_push ..
 have old1:∀b o,s.heap.get? b=some o→h1.get? b=some o:=fun b o e=>by rw[←hh1];exact Heap.get?_push_of_some _ e
 have hL1:h1.get? s.heap.objs.size=some {cls:=.type "list",data:=.seq #[]}:=by rw[←hh1];exact Heap.get?_push_size _ rfl
 have hS1:SetG w h1 S ks:=hS.at fun o e=>old1 _ _ e
 have hT1:Shared.TypeIs {s with heap:=h1} (.ref S) "set":=by obtain⟨o,_,_,_,e,x,_⟩:=hS1;exact⟨o,e,x.1⟩
 have hne:(s.heap.objs.size==S)=false:=by simpa using(Nat.ne_of_gt hSlt)
 have h0:Builtin.List.listSameRef (.ref s.heap.objs.size) (.ref S)=false:=hne
 show wpAny _ A.in1 (Builtin.List.listExtendWith (.ref s.heap.objs.size) (.ref S) (.ref s.heap.objs.size)) _ _ _
 unfold Builtin.List.listExtendWith
 refine wpAny_bind (wpAny_typeOf hT1 ?_)
 rw[if_neg (by rw[h0];decide)]
 refine wpAny_bind (iter_setG hS1 fun I fp wr St vs ns h2 d2 W st2 ft2 hI hw2 hf2 hi2 hp2 old2=>?_)
 have hS2:SetG w h2 S ks:=hS1.at fun o e=>old2 _ _ e
 have hT2:Shared.TypeIs {s with heap:=h2,drawn:=d2} (.ref S) "set":=by obtain⟨o,_,_,_,e,x,_⟩:=hS2;exact⟨o,e,x.1⟩
 have hL2:=old2 _ _ hL1
 refine wpAny_bind (wpAny_holding (hint_set hT2 ?_))
 rw[if_pos (by rfl)]
 refine wpAny_bind (wpAny_rule ?_)
 unfold Builtin.List.listTouch
 refine wpAny_bind (wpAny_bind (listUpdate_at hL2 rfl ?_))
 have hL3:=get?_update_seq hL2 (fun xs:Array Value=>xs.push .none)
 refine listUpdate_at hL3 rfl ?_
 have hL4:=get?_update_seq hL3 (fun xs:Array Value=>xs.pop)
 have hLf:s.heap.objs.size∉fp:=fun hm=>by
  rcases hf2 _ hm with z|z
  ·exact absurd hSlt (by rw[←z];exact Nat.lt_irrefl _)
  ·rw[show Shared.heap {s with heap:=h1}=h1 from rfl,z1]at z
   exact absurd z (Nat.not_succ_le_self _)
 have W':=(W A.in1 (show A.in1.handled=none from hh)).toS
 have up:∀b∈fp,∀o,h2.get? b=some o→((h2.update s.heap.objs.size (Obj.mapSeq fun xs:Array Value=>xs.push .none)).update s.heap.objs.size (Obj.mapSeq fun xs:Array Value=>xs.pop)).get? b=some o:=fun b hb o e=>by
  have hb':s.heap.objs.size≠b:=fun z=>hLf (by rw[z];exact hb)
  rw[Heap.get?_update_other _ _ hb',Heap.get?_update_other _ _ hb']
  exact e
 have st4:=(W A.in1 (show A.in1.handled=none from hh)).frame 0 _ _ st2 up
 refine wpAny_pure ⟨plainId_quiet PySem.F.plain_extend_loop _,codeAny_extend_loopS W' hkb s.heap.objs.size hLf _ ks.length 0 _ _ _ rfl (Nat.zero_le _) st4 hL4 (ItemsOf.nil _) fun s' acc' c' hm hS' hacc=>?_⟩
 show wpAny _ A (load s.heap.objs.size >>=_) _ _ s'
 refine wpAny_bind (wpAny_load hS' (wpAny_pure ?_))
 obtain⟨h5,g5,d5,t5,o5⟩:=s'
 obtain rfl:g5=s.gens:=hm.gens
 obtain rfl:d5=d2:=hm.drawn
 obtain rfl:o5=s.os:=hm.os
 have ev:acc'.toList=vs:=by
  have hvl:vs.length=ks.length:=by rw[IntsAre.length hi2,hp2.length_eq]
  apply List.ext_getElem?
  intro i
  rw[Array.getElem?_toList]
  cases q:acc'[i]? with
  |some v=>exact(hacc.2 i v q).symm
  |none=>
   have:acc'.size≤i:=by simpa using q
   rw[List.getElem?_eq_none (by have:=hacc.1;omega)]
 show Q acc'.toList _
 rw[ev]
 refine h vs ns h5 d5 t5 hi2 hp2 (fun b o e=>?_) (Heap.lt_size hS')
 have hbL:b≠s.heap.objs.size:=Nat.ne_of_lt (Heap.lt_size e)
 refine hm.heap b o (fun z=>?_) ?_
 ·rcases List.mem_cons.mp z with z|z
  ·exact hbL z
  ·have:=hw2 b z
   rw[show Shared.heap {s with heap:=h1}=h1 from rfl,z1]at this
   exact absurd (Heap.lt_size e) (Nat.not_lt.mpr (Nat.le_of_succ_le this))
 ·show((h2.update _ _).update _ _).get? b=some o
  rw[Heap.get?_update_other _ _ (Ne.symm hbL),Heap.get?_update_other _ _ (Ne.symm hbL)]
  exact old2 _ _ (old1 _ _ e)
end
end L2
namespace L2
open PySem PySem.Spec PyProof.Rows
section
variable{prog:Program}{w:World}{A:Around}{E:Value→Shared→Prop}{s:Shared}{S:Addr}{ks:List Int}
theorem sortedG{Q:Value→Shared→Prop}(hh:A.handled=none)(hS:SetG w s.heap S ks)(h64:ks.length<64)
  (h:∀(L:Addr) (n:Nat) (out:Array Value) (ns:List Int) (h':Heap) (d':Drawn) (tk:Nat),IntsAre out.toList ns→ns.Perm ks→ns.Pairwise (· ≤ ·)→h'.get? L=some (seqObj "list" out n)→s.heap.objs.size≤L→
   (∀b o,s.heap.get? b=some o→h'.get? b=some o)→Q (.ref L) {s with heap:=h',drawn:=d',toks:=tk}):
  wpAny (model prog w) A (call (.builtin "sorted") [.ref S]) Q E s:=by
 refine Calls.call_function_entry kind_sorted plain_sorted entry_sorted (args_sorted1 _) ?_
 unfold Builtin.«sorted»
 refine wpAny_bind (m:=checkCount "sorted" 1 1 _) (wpAny_pure ?_)
 refine wpAny_bind (collect_setG hh hS fun vs ns h2 d2 t2 hi hp old hlt=>?_)
 have hvl:vs.length<64:=by rw[IntsAre.length hi,hp.length_eq];exact h64
 refine wpAny_bind (wpAny_newList ?_ (by rw[sizeLine_eq];omega))
 have hoL:(h2.push (seqObj "list" vs.toArray 0)).get? h2.objs.size=some (seqObj "list" vs.toArray 0):=Heap.get?_push_size _ rfl
 show wpAny _ _ _ _ _ {s with heap:=h2.push (seqObj "list" vs.toArray 0),drawn:=d2,toks:=t2}
 refine wpAny_bind (wpAny_holding (wpAny_call_entry slot_list_sort ⟨_,hoL,rfl⟩ entry_list_sort (list_sort_tree hoL hi hvl fun out ns' a1 a2 a3=>⟨_,rfl,?_⟩) (args_list_sort _)))
 have hz:s.heap.objs.size≤h2.objs.size:=Nat.le_of_lt hlt
 have keep:∀b o,s.heap.get? b=some o→(sortedHeap (h2.push (seqObj "list" vs.toArray 0)) h2.objs.size vs out).get? b=some o:=fun b o e=>by
  have e2:=old b o e
  have hb:b<h2.objs.size:=Heap.lt_size e2
  unfold sortedHeap
  rw[Heap.get?_update_other _ _ (Nat.ne_of_gt hb)]
  refine Heap.get?_push_of_some _ (Heap.get?_push_of_some _ ?_)
  rw[Heap.get?_update_other _ _ (Nat.ne_of_gt hb)]
  exact Heap.get?_push_of_some _ e2
 have ho1:=get?_update_seq hoL (fun _=>(#[]:Array Value))
 have ho3:=get?_update_seq (Heap.get?_push_of_some (seqObj "list" #[] 0) (Heap.get?_push_of_some (seqObj "tuple" vs.toArray 0) ho1)) (fun _=>out)
 exact wpAny_pure ⟨_,rfl,h h2.objs.size _ out ns' _ d2 t2 a1 (a2.trans hp) a3 ho3 hz keep⟩
theorem lenG{Q:Value→Shared→Prop}(hS:SetG w s.heap S ks)(h:∀tk tk',Q (.int ks.length tk) {s with toks:=tk'}):
  wpAny (model prog w) A (call (.builtin "len") [.ref S]) Q E s:=by
 obtain⟨o,es,ep,t,ho,hex,hd,rfl,hel,hnd,hb,hf,hr,hl⟩:=hS
 have hb':es.size<4096:=by simpa[scanBound]using hb
 refine call_len_set ho hex hd hf (by omega) ?_
 have e:((es.toList.map keyOf).length:Int)=es.size:=by simp
 have q:=h (s.toks+1) (s.toks+1+1)
 rw[e]at q
 exact q
end
section
variable{prog:Program}{w:World}{A:Around}{E:Value→Shared→Prop}{s:Shared}
theorem findG{a:Addr}{ks:List Int}{k:Int}{tok:Tok}{Q:Option Nat→Shared→Prop}(hS:SetG w s.heap a ks)(h:∀r:Option Nat,r.isSome=decide (k∈ks)→Q r s):
  wpAny (model prog w) A (setFind a (.int k tok) (hashInt k)) Q E s:=by
 obtain⟨o,es,ep,t,ho,hex,hd,rfl,hel,hnd,hb,hf,hr,hl⟩:=hS
 have hbs:es.size<scanBound:=by simpa using hb
 have hel':ElemsOf (intKind prog w) es.toList:=ents_elems hel
 unfold setFind setFindIn
 refine wpAny_bind (wpAny_setState_of ho hd hf ?_)
 dsimp only
 rw[byScan_of (knd:=intKind prog w) rfl hbs hel']
 simp only[↓reduceIte]
 refine wpAny_bind (wpAny_rule ?_)
 refine wpAny_bind (wpAny_setScan_of (knd:=intKind prog w) (k:=k) (intKind_is _ _ _ _) ho hd hf hel' ?_)
 cases hq:List.findIdx? (fun e=>(intKind prog w).is k e.2) es.toList with
 |none=>
  have hin:k∉es.toList.map keyOf:=(find_none (prog:=prog) (w:=w) hel).mp hq
  exact wpAny_pure (h none (by rw[decide_eq_false hin];rfl))
 |some j=>
  have hin:k∈es.toList.map keyOf:=by
   rcases Classical.em (k∈es.toList.map keyOf)with z|z
   ·exact z
   ·rw[(find_none (prog:=prog) (w:=w) hel).mpr z]at hq;cases hq
  exact wpAny_pure (h (some (0+j)) (by rw[decide_eq_true hin];rfl))
theorem quietG{Q:Bool→Shared→Prop}{l:List Addr}(hl:∀a∈l,∃ks,SetG w s.heap a ks)(h:Q true s):wpAny (model prog w) A (setsQuiet l) Q E s:=by
 unfold setsQuiet
 refine wpAny_bind (wpAny_mono (wpAny_forIn_list _ (fun rest b s'=>s'=s∧b=(none,())∧∀a∈rest,∃ks,SetG w s.heap a ks) (fun b s'=>s'=s∧b=(none,())) ?_ ?_ _ _ ⟨rfl,rfl,hl⟩) ?_ fun _ _ z=>z)
 ·rintro a rest b s' ⟨rfl,rfl,hm⟩
  obtain⟨ks,o,es,ep,t,ho,hex,hd,rfl,hel,hnd,hb,hf,hr,hl⟩:=hm a (List.mem_cons_self ..)
  unfold setEntries
  refine wpAny_bind (wpAny_bind (wpAny_setState_of ho hd hf (wpAny_pure ?_)))
  refine wpAny_bind (wpAny_mono (wpAny_forIn_array' _ (fun rest b s₁=>s₁=s'∧b=(none,())∧∀e∈rest,EntOk e) (fun b s₁=>s₁=s'∧b=(none,())) ?_ ?_ _ _ ⟨rfl,rfl,hel⟩) ?_ fun _ _ z=>z)
  ·rintro e rest2 b s₁ ⟨rfl,rfl,hm2⟩
   obtain⟨k,tok,rfl⟩:=hm2 e (List.mem_cons_self ..)
   exact wpAny_pure ⟨rfl,rfl,fun x hx=>hm2 x (List.mem_cons_of_mem _ hx)⟩
  ·rintro b s₁ ⟨rfl,rfl,_⟩
   exact⟨rfl,rfl⟩
  ·rintro b s₁ ⟨rfl,rfl⟩
   exact wpAny_pure ⟨rfl,rfl,fun x hx=>hm x (List.mem_cons_of_mem _ hx)⟩
 ·rintro b s' ⟨rfl,rfl,_⟩
  exact⟨rfl,rfl⟩
 ·rintro b s' ⟨rfl,rfl⟩
  exact wpAny_pure h
end
section
variable{prog:Program}{w:World}{A:Around}{E:Value→Shared→Prop}{s:Shared}
theorem walkTextG{a:Addr}{ks:List Int}{Q:Array (Int×Value)→Shared→Prop}{o:Obj}{es:Array (Int×Value)}{ep:Nat}{t:SetTable}(ho:s.heap.get? a=some o)(hd:o.data=.set es ep t)(hf:t.fits es.size=true)
  (hl:t.led=true∨bt w=true) (hp:(bt w||(t.led && t.plain)||decide (es.size≤1))=true) (h:∀es':Array (Int×Value),es'.toList.Perm es.toList→Q es' s):
  wpAny (model prog w) A (setWalk a) Q E s:=by
 unfold setWalk
 refine wpAny_bind (wpAny_setState_of ho hd hf ?_)
 dsimp only
 refine wpAny_bind (setsByText_ ?_)
 by_cases hb:bt w=true
 ·rw[hb,if_pos rfl]
  refine wpAny_bind (wpAny_askSetting ?_)
  exact wpAny_pure (h _ (pick_perm _ _))
 ·rw[if_neg hb]
  have hled:t.led=true:=hl.resolve_right hb
  have hbf:bt w=false:=by simpa using hb
  have e:(!t.plain && decide (es.size >1))=false:=by
   rw[hbf,hled]at hp
   by_cases q:t.plain=true
   ·simp[q]
   ·have q':t.plain=false:=by simpa using q
    rw[q']at hp⊢
    simp at hp
    simp;omega
  refine wpAny_ite ?_
  rw[if_neg (by show ¬((!t.plain && decide (es.size >1))=true);rw[e];decide)]
  show wpAny _ _ (do(if(!t.led && decide (es.size >1))=true then unsupported "set:maker-not-led" else pure PUnit.unit);pure es) _ _ _
  rw[hled]
  refine wpAny_bind ?_
  rw[if_neg (by simp)]
  exact wpAny_pure (wpAny_pure (h es (List.Perm.refl _)))
theorem walkG{a f:Addr}{ks kf:List Int}{others:List Addr}{Q:Array (Int×Value)→Shared→Prop}(hS:SetG w s.heap a ks)(hF:SetG w s.heap f kf)(hq:∀b∈others,∃k,SetG w s.heap b k)
  (h:∀(es:Array (Int×Value)) (h':Heap),(∀e∈es.toList,EntOk e)→(es.toList.map keyOf).Perm ks→Heap.SameBut f s.heap h'→SetG w h' f kf→Q es {s with heap:=h'}):
  wpAny (model prog w) A (setWalkUnseen a others (some f)) Q E s:=by
 have hSq:∃k,SetG w s.heap a k:=⟨_,hS⟩
 obtain⟨o,es,ep,t,ho,hex,hd,rfl,hel,hnd,hb,hf,hr,hl⟩:=hS
 have e0:s={s with heap:=s.heap}:=by cases s;rfl
 unfold setWalkUnseen
 refine wpAny_bind (wpAny_setState_of ho hd hf ?_)
 dsimp only
 refine wpAny_bind (setsByText_ ?_)
 by_cases hp:(bt w||(t.led && t.plain)||decide (es.size≤1))=true
 ·rw[if_pos hp]
  refine(walkTextG (ks:=[]) ho hd hf hl hp fun es' pe=>?_)
  rw[e0]
  exact h es' s.heap (fun e he=>hel e (pe.mem_iff.mp he)) (pe.map _) (Heap.SameBut.refl _ _) hF
 ·rw[if_neg hp]
  refine wpAny_bind (quietG (fun b hb=>?_) ?_)
  ·rcases List.mem_cons.mp hb with z|z
   ·rw[z];exact hSq
   ·exact hq b z
  refine wpAny_ite ?_
  rw[if_neg (by decide)]
  refine wpAny_bind (wpAny_rule ?_)
  have hbf:bt w=false:=by simp at hp;exact hp.1.1
  have hled:t.led=true:=hl.resolve_right (by rw[hbf];decide)
  have hF':=hF
  obtain⟨of,ef,epf,tf,hof,hexf,hdf,hkf,helf,hndf,hbf2,hff,hrf,hlf⟩:=hF
  refine wpAny_bind (wpAny_setState_of hof hdf hff ?_)
  dsimp only
  refine wpAny_ite ?_
  split
  ·refine wpAny_bind (wpAny_storeSet_of hof hdf ?_ (fits_of_scanBound (by rw[←hkf]at hbf2;simpa using hbf2)))
   obtain⟨_,hS1⟩:=storeG (w:=w) hof hexf hdf (es':=ef) (t':={tf with led:=tf.led && t.led,plain:=tf.plain && t.plain}) helf (by rw[hkf];exact hndf) (by rw[←hkf]at hbf2;simpa using hbf2) hff hrf (by
    show(tf.led && t.led)=true∨_
    rw[hled];rcases hlf with z|z
    ·left;rw[z];rfl
    ·right;exact z)
   rw[hkf]at hS1
   exact wpAny_pure (h es _ hel (List.Perm.refl _) (Heap.SameBut.update _ _ _) hS1)
  ·refine wpAny_bind (wpAny_pure ?_)
   refine wpAny_pure ?_
   rw[e0]
   exact h es s.heap hel (List.Perm.refl _) (Heap.SameBut.refl _ _) hF'
theorem walkG'{a:Addr}{ks:List Int}{others:List Addr}{Q:Array (Int×Value)→Shared→Prop}(hS:SetG w s.heap a ks)(hq:∀b∈others,∃k,SetG w s.heap b k)
  (h:∀(es:Array (Int×Value)),(∀e∈es.toList,EntOk e)→(es.toList.map keyOf).Perm ks→Q es s):
  wpAny (model prog w) A (setWalkUnseen a others none) Q E s:=by
 have hSq:∃k,SetG w s.heap a k:=⟨_,hS⟩
 obtain⟨o,es,ep,t,ho,hex,hd,rfl,hel,hnd,hb,hf,hr,hl⟩:=hS
 unfold setWalkUnseen
 refine wpAny_bind (wpAny_setState_of ho hd hf ?_)
 dsimp only
 refine wpAny_bind (setsByText_ ?_)
 by_cases hp:(bt w||(t.led && t.plain)||decide (es.size≤1))=true
 ·rw[if_pos hp]
  exact(walkTextG (ks:=[]) ho hd hf hl hp fun es' pe=>(h es' (fun e he=>hel e (pe.mem_iff.mp he)) (pe.map _)))
 ·rw[if_neg hp]
  refine wpAny_bind (quietG (fun b hb=>?_) ?_)
  ·rcases List.mem_cons.mp hb with z|z
   ·rw[z];exact hSq
   ·exact hq b z
  refine wpAny_ite ?_
  rw[if_neg (by decide)]
  refine wpAny_bind (wpAny_rule ?_)
  exact wpAny_pure (h es hel (List.Perm.refl _))
end
namespace FF
theorem entry_set_and:entryFor table "set.__and__"=some Builtin.«frozenset.__and__»:=
 entryFor_alias (id':="frozenset.__and__") (by kernel_rfl) rfl (by decide+kernel) (by kernel_rfl)
theorem entry_set_sub:entryFor table "set.__sub__"=some Builtin.«frozenset.__sub__»:=
 entryFor_alias (id':="frozenset.__sub__") (by kernel_rfl) rfl (by decide+kernel) (by kernel_rfl)
end FF
section
variable{prog:Program}{w:World}{A:Around}{E:Value→Shared→Prop}{s:Shared}
theorem isAnyG{a:Addr}{Q:Bool→Shared→Prop}(hT:s.TypeIs (.ref a) "set")(h:Q true s):wpAny (model prog w) A (Builtin.Frozenset.isAnySet (.ref a)) Q E s:=by
 unfold Builtin.Frozenset.isAnySet
 show wpAny _ _ (isInstance (.ref a) (.type "set") >>=_) _ _ _
 refine wpAny_bind (wpAny_isInstance (b:=true) hT sub_set_self ?_)
 exact wpAny_pure h
theorem sizeG{a:Addr}{ks:List Int}{Q:Nat→Shared→Prop}(hS:SetG w s.heap a ks)(h:Q ks.length s):wpAny (model prog w) A (Builtin.Frozenset.sizeOf a) Q E s:=by
 obtain⟨o,es,ep,t,ho,hex,hd,rfl,hel,hnd,hb,hf,hr,hl⟩:=hS
 unfold Builtin.Frozenset.sizeOf setEntries
 refine wpAny_bind (wpAny_bind (wpAny_setState_of ho hd hf (wpAny_pure (wpAny_pure ?_))))
 have e:(es.toList.map keyOf).length=es.size:=by simp
 rw[e]at h
 exact h
theorem baseG{a:Addr}{Q:Value→Shared→Prop}(hT:s.TypeIs (.ref a) "set")(h:Q (.type "set") s):wpAny (model prog w) A (Builtin.Frozenset.baseOf a) Q E s:=by
 unfold Builtin.Frozenset.baseOf
 refine wpAny_bind (wpAny_isInstance (b:=true) hT sub_set_self ?_)
 exact wpAny_pure h
theorem SetG.type{h:Heap}{a:Addr}{ks:List Int}(g:SetG w h a ks){s':Shared}(e:s'.heap=h):s'.TypeIs (.ref a) "set":=by
 obtain⟨o,_,_,_,ho,x,_⟩:=g
 exact⟨o,by rw[e];exact ho,x.1⟩
theorem siftLoop{r:Addr}{p:Int→Bool}{f:Int×Value→PUnit→Sem (ForInStep PUnit)}{h0:Heap}{n:Nat}(hn:n<scanBound)
  (turn:∀(k:Int) (tok:Tok) (kr:List Int) (s':Shared) (R:ForInStep PUnit→Shared→Prop),Heap.SameBut r h0 s'.heap→SetG w s'.heap r kr→kr.length+1<scanBound→
   (∀h' kr',Heap.SameBut r s'.heap h'→SetG w h' r kr'→kr'.Perm (if p k then(if k∈kr then kr else k::kr)else kr)→R (.yield ()) {s' with heap:=h'})→wpAny (model prog w) A (f (hashInt k,.int k tok) ()) R E s'):
  ∀(es:List (Int×Value)) (kr:List Int) (s':Shared) (Q:PUnit→Shared→Prop),(∀e∈es,EntOk e)→Heap.SameBut r h0 s'.heap→SetG w s'.heap r kr→kr.length+es.length≤n→
   (∀h' kr',Heap.SameBut r h0 h'→SetG w h' r kr'→(∀x,x∈kr'↔x∈kr∨(x∈es.map keyOf∧p x=true))→Q () {s' with heap:=h'})→wpAny (model prog w) A (forIn es () f) Q E s'
 |[],kr,s',Q,hel,hb,hS,hlen,h=>by
  have e0:s'={s' with heap:=s'.heap}:=by cases s';rfl
  rw[List.forIn_nil]
  refine wpAny_pure ?_
  rw[e0]
  exact h _ kr hb hS fun x=>by simp
 |e::rest,kr,s',Q,hel,hb,hS,hlen,h=>by
  obtain⟨k,tok,rfl⟩:=hel e (List.mem_cons_self ..)
  rw[List.forIn_cons]
  simp only[List.length_cons]at hlen
  refine wpAny_bind (turn k tok kr s' _ hb hS (by omega) fun h' kr' sb g pm=>?_)
  have hl:kr'.length≤kr.length+1:=by
   rw[pm.length_eq];split
   ·split
    ·exact Nat.le_succ _
    ·simp
   ·exact Nat.le_succ _
  refine siftLoop hn turn rest kr' {s' with heap:=h'} Q (fun e he=>hel e (List.mem_cons_of_mem _ he)) (hb.trans sb) g (by omega) fun h2 kr2 sb2 g2 m2=>?_
  refine h h2 kr2 sb2 g2 fun x=>?_
  rw[m2,pm.mem_iff,List.map_cons,List.mem_cons]
  have ek:keyOf (hashInt k,Value.int k tok)=k:=rfl
  rw[ek]
  by_cases hp:p k=true
  ·rw[if_pos hp]
   by_cases hin:k∈kr
   ·rw[if_pos hin]
    constructor
    ·rintro(z|z)
     ·exact .inl z
     ·exact .inr ⟨.inr z.1,z.2⟩
    ·rintro(z|⟨z|z,q⟩)
     ·exact .inl z
     ·rw[z];exact .inl hin
     ·exact .inr ⟨z,q⟩
   ·rw[if_neg hin,List.mem_cons]
    constructor
    ·rintro((z|z)|z)
     ·rw[z];exact .inr ⟨.inl rfl,hp⟩
     ·exact .inl z
     ·exact .inr ⟨.inr z.1,z.2⟩
    ·rintro(z|⟨z|z,q⟩)
     ·exact .inl (.inr z)
     ·exact .inl (.inl z)
     ·exact .inr ⟨z,q⟩
  ·rw[if_neg hp]
   constructor
   ·rintro(z|z)
    ·exact .inl z
    ·exact .inr ⟨.inr z.1,z.2⟩
   ·rintro(z|⟨z|z,q⟩)
    ·exact .inl z
    ·rw[z]at q;exact absurd q hp
    ·exact .inr ⟨z,q⟩
theorem unchangedG{a:Addr}{o:Obj}{es:Array (Int×Value)}{ep:Nat}{t:SetTable}{id:String}{Q:Unit→Shared→Prop}(ho:s.heap.get? a=some o)(hd:o.data=.set es ep t)(hf:t.fits es.size=true)(h:Q () s):
  wpAny (model prog w) A (Builtin.Frozenset.unchanged id a ep) Q E s:=by
 unfold Builtin.Frozenset.unchanged setEpoch
 refine wpAny_bind (wpAny_bind (wpAny_setState_of ho hd hf (wpAny_pure ?_)))
 refine wpAny_ite ?_
 rw[if_neg (by simp)]
 exact wpAny_pure h
end
end L2
namespace L2
open PySem PySem.Spec PyProof.Rows
section
variable{prog:Program}{w:World}{A:Around}{E:Value→Shared→Prop}{s:Shared}
theorem ne_ref{a b:Addr}(h:a≠b):(Value.ref b==Value.ref a)=false:=by
 have n:Value.ref b≠Value.ref a:=fun e=>h (by injection e with e;exact e.symm)
 first|exact beq_eq_false_iff_ne.mpr n|simp[n]|(simp;exact Ne.symm h)
theorem interG{a b:Addr}{ka kb:List Int}{id:String}{Q:Value→Shared→Prop}(hA:SetG w s.heap a ka)(hB:SetG w s.heap b kb)(hab:a≠b)
  (h:∀h' kr,SetG w h' s.heap.objs.size kr→(∀x,x∈kr↔x∈ka∧x∈kb)→h'.objs.size=s.heap.objs.size+1→(∀c o,s.heap.get? c=some o→h'.get? c=some o)→Q (.ref s.heap.objs.size) {s with heap:=h'}):
  wpAny (model prog w) A (Builtin.Frozenset.intersection id a (.ref b)) Q E s:=by
 unfold Builtin.Frozenset.intersection
 refine wpAny_ite ?_
 rw[if_neg (by rw[ne_ref hab];decide)]
 refine wpAny_bind (baseG (hA.type rfl) ?_)
 refine wpAny_bind (newSetG fun h1 hR hz1 old1=>?_)
 refine wpAny_bind (wpAny_pure ?_)
 have hA1:SetG w h1 a ka:=hA.at fun o e=>old1 _ _ e
 have hB1:SetG w h1 b kb:=hB.at fun o e=>old1 _ _ e
 refine wpAny_bind (wpAny_holding ?_)
 refine wpAny_bind (isAnyG (hB1.type rfl) ?_)
 rw[if_pos rfl]
 refine wpAny_bind (wpAny_pure ?_)
 refine wpAny_bind (sizeG hB1 ?_)
 refine wpAny_bind (sizeG hA1 ?_)
 have hra:s.heap.objs.size≠a:=Nat.ne_of_gt hA.lt
 have hrb:s.heap.objs.size≠b:=Nat.ne_of_gt hB.lt
 have main:∀(asked walked:Addr) (kq kw:List Int),SetG w h1 asked kq→SetG w h1 walked kw→s.heap.objs.size≠asked→s.heap.objs.size≠walked→(∀x,x∈kw∧x∈kq↔x∈ka∧x∈kb)→
   wpAny (model prog w) A (do
    let was←setEpoch walked
    for (h,x)in←setWalkUnseen walked [asked,s.heap.objs.size] (some s.heap.objs.size) do
     holding [x] do
      if(←setFind asked x h).isSome then
       let _←setAddHashed s.heap.objs.size x h
     Builtin.Frozenset.unchanged id walked was) (fun _ s'=>wpAny (model prog w) A (pure (Value.ref s.heap.objs.size)) Q E s') E {s with heap:=h1}:=fun asked walked kq kw hq hw nq nw hm=>by
  have hw':=hw
  obtain⟨ow,esw,epw,tw,how,hexw,hdw,rfl,helw,hndw,hbw,hfw,hrw,hlw⟩:=hw
  unfold setEpoch
  refine wpAny_bind (wpAny_bind (wpAny_setState_of how hdw hfw (wpAny_pure ?_)))
  refine wpAny_bind (walkG hw' hR (fun c hc=>?_) fun es h2 hel pm sb2 hR2=>?_)
  ·simp only[List.mem_cons,List.not_mem_nil,or_false]at hc
   rcases hc with rfl|rfl
   ·exact⟨_,hq⟩
   ·exact⟨_,hR⟩
  have hq2:SetG w h2 asked kq:=hq.at fun o e=>by rw[sb2.2 _ (Ne.symm nq)];exact e
  have how2:h2.get? walked=some ow:=by rw[sb2.2 _ (Ne.symm nw)];exact how
  have hlen:es.toList.length=esw.size:=by
   have:=pm.length_eq
   simpa using this
  have hbw':esw.size<scanBound:=by simpa using hbw
  rw[←Array.forIn_toList]
  refine wpAny_bind (siftLoop (p:=fun x=>decide (x∈kq)) (h0:=h2) (n:=esw.size) hbw' (fun k tok kr s' R sb hS hb hR'=>?_) es.toList [] {s with heap:=h2} _ hel (Heap.SameBut.refl _ _) hR2 (by simp[←hlen]) fun h3 kr sb3 g3 m3=>?_)
  ·have hqs:SetG w s'.heap asked kq:=hq2.at fun o e=>by rw[sb.2 _ (Ne.symm nq)];exact e
   have hows:s'.heap.get? walked=some ow:=by rw[sb.2 _ (Ne.symm nw)];exact how2
   have e0:s'={s' with heap:=s'.heap}:=by cases s';rfl
   refine wpAny_bind (wpAny_holding (wpAny_bind (findG hqs fun r hr=>?_)))
   refine wpAny_ite ?_
   rw[hr]
   by_cases hin:k∈kq
   ·rw[if_pos (decide_eq_true hin)]
    refine wpAny_bind (setAddG hS hb fun h4 kr4 sb4 g4 p4=>wpAny_pure ?_)
    refine wpAny_bind (unchangedG (s:={s' with heap:=h4}) (by show h4.get? walked=_;rw[sb4.2 _ (Ne.symm nw)];exact hows) hdw hfw (wpAny_pure ?_))
    refine hR' h4 kr4 sb4 g4 ?_
    rw[if_pos (decide_eq_true hin)];exact p4
   ·rw[if_neg (by rw[decide_eq_false hin];decide)]
    refine wpAny_pure ?_
    refine wpAny_bind (unchangedG hows hdw hfw (wpAny_pure ?_))
    rw[e0]
    refine hR' s'.heap kr (Heap.SameBut.refl _ _) hS ?_
    rw[if_neg (by rw[decide_eq_false hin];decide)]
  ·refine wpAny_pure (wpAny_pure (h h3 kr g3 (fun x=>?_) ?_ fun c o e=>?_))
   ·rw[m3,pm.mem_iff,←hm x]
    simp
   ·rw[sb3.1,sb2.1,hz1]
   ·have hc:c≠s.heap.objs.size:=Nat.ne_of_lt (Heap.lt_size e)
    rw[sb3.2 _ hc,sb2.2 _ hc];exact old1 _ _ e
 by_cases hgt:kb.length >ka.length
 ·rw[if_pos hgt]
  exact main b a kb ka hB1 hA1 hrb hra fun x=>Iff.rfl
 ·rw[if_neg hgt]
  exact main a b ka kb hA1 hB1 hra hrb fun x=>⟨fun z=>⟨z.2,z.1⟩,fun z=>⟨z.2,z.1⟩⟩
theorem andG{a b:Addr}{ka kb:List Int}{Q:Value→Shared→Prop}(hA:SetG w s.heap a ka)(hB:SetG w s.heap b kb)(hab:a≠b)
  (h:∀h' kr,SetG w h' s.heap.objs.size kr→(∀x,x∈kr↔x∈ka∧x∈kb)→h'.objs.size=s.heap.objs.size+1→(∀c o,s.heap.get? c=some o→h'.get? c=some o)→Q (.ref s.heap.objs.size) {s with heap:=h'}):
  wpAny (model prog w) A (binaryOp .BitAnd (.ref a) (.ref b)) Q E s:=by
 refine wpAny_binaryOp_same (T:="set") (hA.type rfl) (hB.type rfl) PySem.F.fills_set_and PySem.F.slot_set_and (wpAny_call_entry PySem.F.slot_set_and (hA.type rfl) FF.entry_set_and ?_ (PySem.F.args_set_and_2 _ _))
 show wpAny _ _ (do
  if !(←(Builtin.Frozenset.isAnySet (.ref a)<&&>Builtin.Frozenset.isAnySet (.ref b)))then rule "frozenset.__and__.declined";return←ret .notImplemented
  ret (←Builtin.Frozenset.intersection "frozenset.__and__" (←Builtin.Frozenset.addrOf (.ref a)) (.ref b))) _ _ _
 refine wpAny_bind (wpAny_bind (isAnyG (hA.type rfl) (isAnyG (hB.type rfl) ?_)))
 refine wpAny_ite ?_
 rw[if_neg (by decide)]
 refine wpAny_bind (wpAny_pure ?_)
 refine wpAny_bind (interG hA hB hab fun h' kr g m z old=>?_)
 exact wpAny_pure ⟨_,rfl,⟨by simp,h h' kr g m z old⟩⟩
end
noncomputable def lg(mask i:Nat):Nat:=(i*5+1) % (mask+1)
noncomputable def lit(mask:Nat):Nat→Nat→Nat
 |0,i=>i
 |t+1,i=>lit mask t (lg mask i)
noncomputable def orb(mask:Nat):Nat→Nat→Nat→Nat
 |0,_,acc=>acc
 |n+1,i,acc=>orb mask n (lg mask i) (acc|||(1<<<i))
theorem orb_bit(mask j:Nat):∀(n i acc:Nat),(orb mask n i acc).testBit j=true→acc.testBit j=true∨∃t,t<n∧lit mask t i=j
 |0,i,acc,h=>.inl h
 |n+1,i,acc,h=>by
  rcases orb_bit mask j n (lg mask i) _ h with z|⟨t,ht,e⟩
  ·rw[Nat.testBit_or,Bool.or_eq_true]at z
   rcases z with z|z
   ·exact .inl z
   ·right
    refine⟨0,Nat.succ_pos _,?_⟩
    rw[Nat.testBit_shiftLeft,Bool.and_eq_true,decide_eq_true_eq]at z
    obtain⟨z1,z2⟩:=z
    have:j - i=0:=by
     rcases Nat.eq_zero_or_pos (j - i)with q|q
     ·exact q
     ·exfalso
      have z3:=Nat.ge_two_pow_of_testBit z2
      have:2 ^ 1≤2 ^ (j - i):=Nat.pow_le_pow_right (by decide) q
      omega
    show i=j
    omega
  ·exact .inr ⟨t+1,Nat.succ_lt_succ ht,e⟩
noncomputable def Cyc(mask:Nat):Prop:=∀i j,i≤mask→j≤mask→∃t,t≤mask∧lit mask t i=j
theorem cyc_of{mask:Nat}(h:((List.range (mask+1)).all fun i=>orb mask (mask+1) i 0==2 ^ (mask+1) - 1)=true):Cyc mask:=fun i j hi hj=>by
 have e:=List.all_eq_true.mp h i (List.mem_range.mpr (Nat.lt_succ_of_le hi))
 have e':orb mask (mask+1) i 0=2 ^ (mask+1) - 1:=by simpa using e
 have hb:(orb mask (mask+1) i 0).testBit j=true:=by
  rw[e',Nat.testBit_two_pow_sub_one]
  exact decide_eq_true (Nat.lt_succ_of_le hj)
 rcases orb_bit mask j _ _ _ hb with z|⟨t,ht,e⟩
 ·simp at z
 ·exact⟨t,Nat.le_of_lt_succ ht,e⟩
theorem cyc7:Cyc 7:=cyc_of (by decide+kernel)
theorem cyc15:Cyc 15:=cyc_of (by decide+kernel)
theorem cyc31:Cyc 31:=cyc_of (by decide+kernel)
theorem cyc63:Cyc 63:=cyc_of (by decide+kernel)
theorem cyc127:Cyc 127:=cyc_of (by decide+kernel)
theorem cyc255:Cyc 255:=cyc_of (by decide+kernel)
theorem above_mem:((List.range 256).all fun n=>[8,16,32,64,128,256].contains (SetTable.sizeAbove n) && decide (n<SetTable.sizeAbove n))=true:=by decide+kernel
theorem above_ok{n:Nat}(h:n<256):Cyc (SetTable.sizeAbove n - 1)∧n≤SetTable.sizeAbove n - 1∧SetTable.sizeAbove n≤256:=by
 have e:=List.all_eq_true.mp above_mem n (List.mem_range.mpr h)
 rw[Bool.and_eq_true,decide_eq_true_eq]at e
 obtain⟨e1,e2⟩:=e
 have e3:SetTable.sizeAbove n∈[8,16,32,64,128,256]:=by simpa using e1
 simp only[List.mem_cons,List.not_mem_nil,or_false]at e3
 refine⟨?_,by omega,by omega⟩
 rcases e3 with q|q|q|q|q|q<;>rw[q]
 ·exact cyc7
 ·exact cyc15
 ·exact cyc31
 ·exact cyc63
 ·exact cyc127
 ·exact cyc255
noncomputable def lp(mask:Nat):Nat→Nat×Nat→Nat×Nat
 |0,p=>p
 |t+1,p=>lp mask t (SetTable.leap mask p.1 p.2)
theorem lp_add(mask:Nat):∀(a b:Nat) (p:Nat×Nat),lp mask (a+b) p=lp mask b (lp mask a p)
 |0,b,p=>by rw[Nat.zero_add];rfl
 |a+1,b,p=>by rw[Nat.succ_add];exact lp_add mask a b _
theorem lp_pert(mask:Nat):∀(t:Nat) (p:Nat×Nat),(lp mask t p).2=p.2 / 32 ^ t
 |0,p=>by simp[lp]
 |t+1,p=>by
  show(lp mask t (SetTable.leap mask p.1 p.2)).2=_
  rw[lp_pert mask t]
  show p.2 / 32 / 32 ^ t=_
  rw[Nat.div_div_eq_div_mul,Nat.pow_succ,Nat.mul_comm]
theorem lp_lit(mask:Nat):∀(t i:Nat),lp mask t (i,0)=(lit mask t i,0)
 |0,i=>rfl
 |t+1,i=>by
  show lp mask t (SetTable.leap mask i 0)=_
  have e:SetTable.leap mask i 0=(lg mask i,0):=by simp[SetTable.leap,lg]
  rw[e]
  exact lp_lit mask t (lg mask i)
theorem lp_le(mask:Nat):∀(t:Nat) (p:Nat×Nat),p.1≤mask→(lp mask t p).1≤mask
 |0,p,h=>h
 |t+1,p,h=>lp_le mask t _ (Nat.le_of_lt_succ (Nat.mod_lt _ (Nat.succ_pos _)))
theorem free_none{mask:Nat}{owner:Array (Option Nat)}:∀(fuel i p:Nat),SetTable.layClean.free mask owner fuel i p=none→∀t,t<fuel→(owner.getD (lp mask t (i,p)).1 (some 0)).isNone=false
 |0,i,p,h,t,ht=>absurd ht (Nat.not_lt_zero _)
 |fuel+1,i,p,h,t,ht=>by
  unfold SetTable.layClean.free at h
  split at h
  ·cases h
  ·rename_i hn
   cases t with
   |zero=>
    have hm:0∈List.range (SetTable.runEnd mask i+1 - i):=by
     rw[List.mem_range];unfold SetTable.runEnd;split<;>omega
    have q:=List.find?_eq_none.mp hn 0 hm
    show(owner.getD i (some 0)).isNone=false
    rw[Nat.add_zero]at q
    exact Bool.eq_false_iff.mpr q
   |succ t=>exact free_none fuel _ _ h t (Nat.lt_of_succ_lt_succ ht)
theorem free_at{mask:Nat}{owner:Array (Option Nat)}:∀(fuel i p j:Nat),SetTable.layClean.free mask owner fuel i p=some j→(owner.getD j (some 0)).isNone=true
 |0,i,p,j,h=>by cases h
 |fuel+1,i,p,j,h=>by
  unfold SetTable.layClean.free at h
  split at h
  ·rename_i k hk
   injection h with h
   rw[←h]
   exact List.find?_some (p:=fun k=>(owner.getD (i+k) (some 0)).isNone) hk
  ·exact free_at fuel _ _ j h
theorem bits_lt(h:Int):SetTable.bits h<2 ^ 64:=by
 unfold SetTable.bits
 have h1:0≤h % (2 ^ 64:Int):=Int.emod_nonneg _ (by decide)
 have h2:h % (2 ^ 64:Int)<2 ^ 64:=Int.emod_lt_of_pos _ (by decide)
 omega
theorem free_some{mask:Nat}(hc:Cyc mask){owner:Array (Option Nat)}(hz:owner.size=mask+1){q:Nat}(hq:owner[q]?=some none)(h:Int):
  ∃j,SetTable.layClean.free mask owner (SetTable.turns mask) (SetTable.bits h % (mask+1)) (SetTable.bits h)=some j∧owner[j]?=some none:=by
 cases e:SetTable.layClean.free mask owner (SetTable.turns mask) (SetTable.bits h % (mask+1)) (SetTable.bits h)with
 |some j=>
  refine⟨j,rfl,?_⟩
  have:=free_at _ _ _ _ e
  rw[Array.getD_eq_getD_getElem?]at this
  cases z:owner[j]? with
  |none=>rw[z]at this;simp at this
  |some v=>rw[z]at this;cases v with
   |none=>rfl
   |some v=>simp at this
 |none=>
  exfalso
  have hqm:q≤mask:=by
   have:q<owner.size:=by
    apply Nat.lt_of_not_le;intro hc'
    rw[Array.getElem?_eq_none hc']at hq;cases hq
   omega
  have h0:SetTable.bits h % (mask+1)≤mask:=Nat.le_of_lt_succ (Nat.mod_lt _ (Nat.succ_pos _))
  have hp:(lp mask 13 (SetTable.bits h % (mask+1),SetTable.bits h)).2=0:=by
   rw[lp_pert]
   exact Nat.div_eq_of_lt (Nat.lt_of_lt_of_le (bits_lt h) (by decide))
  have hi:=lp_le mask 13 (SetTable.bits h % (mask+1),SetTable.bits h) h0
  obtain⟨t,ht,et⟩:=hc _ q hi hqm
  have f:=free_none _ _ _ e (13+t) (by unfold SetTable.turns;omega)
  rw[lp_add,show lp mask 13 (SetTable.bits h % (mask+1),SetTable.bits h)=((lp mask 13 (SetTable.bits h % (mask+1),SetTable.bits h)).1,0)from Prod.ext rfl hp,lp_lit,et,Array.getD_eq_getD_getElem?,hq]at f
  simp at f
noncomputable def valsIn(m:Nat)(owner:Array (Option Nat)):List Nat:=(List.range m).filterMap fun j=>owner.getD j none
theorem fm_congr{f g:Nat→Option Nat}:∀{l:List Nat},(∀x∈l,g x=f x)→l.filterMap g=l.filterMap f
 |[],_=>rfl
 |x::r,h=>by
  have hx:=h x (List.mem_cons_self ..)
  have ih:=fm_congr fun y hy=>h y (List.mem_cons_of_mem _ hy)
  cases e:f x with
  |none=>rw[List.filterMap_cons_none e,List.filterMap_cons_none (hx.trans e),ih]
  |some v=>rw[List.filterMap_cons_some e,List.filterMap_cons_some (hx.trans e),ih]
theorem filterMap_set{f g:Nat→Option Nat}{j k:Nat}(hj:f j=none)(gj:g j=some k)(hg:∀x,x≠j→g x=f x):∀l:List Nat,l.Nodup→j∈l→(l.filterMap g).Perm (k::l.filterMap f)
 |[],_,h=>by simp at h
 |x::r,hn,h=>by
  obtain⟨n1,n2⟩:=List.nodup_cons.mp hn
  by_cases e:x=j
  ·subst e
   rw[List.filterMap_cons_some gj,List.filterMap_cons_none hj]
   have:r.filterMap g=r.filterMap f:=fm_congr fun y hy=>hg y fun z=>n1 (z▸hy)
   rw[this]
  ·have hr:j∈r:=(List.mem_cons.mp h).resolve_left (fun z=>e z.symm)
   have ih:=filterMap_set hj gj hg r n2 hr
   cases fx:f x with
   |none=>rw[List.filterMap_cons_none (by rw[hg x e,fx]),List.filterMap_cons_none fx];exact ih
   |some v=>rw[List.filterMap_cons_some (by rw[hg x e,fx]:g x=some v),List.filterMap_cons_some fx];exact(ih.cons v).trans (List.Perm.swap _ _ _)
theorem lay_fold{mask:Nat}(hc:Cyc mask):∀(hs:List Int) (owner:Array (Option Nat)) (k:Nat),owner.size=mask+1→(valsIn (mask+1) owner).Perm (List.range k)→k+hs.length≤mask→
  ∃owner':Array (Option Nat),hs.foldl (fun acc h=>do
   let(owner,k)←acc
   let j←SetTable.layClean.free mask owner (SetTable.turns mask) (SetTable.bits h % (mask+1)) (SetTable.bits h)
   pure (owner.setIfInBounds j (some k),k+1)) (some (owner,k))=some (owner',k+hs.length)∧owner'.size=mask+1∧(valsIn (mask+1) owner').Perm (List.range (k+hs.length))
 |[],owner,k,hz,hv,hl=>⟨owner,rfl,hz,hv⟩
 |h::hs,owner,k,hz,hv,hl=>by
  simp only[List.length_cons]at hl
  have hq:∃q:Nat,owner[q]?=some none:=by
   apply Classical.byContradiction
   intro hno
   have hall:∀j∈List.range (mask+1),((owner.getD j none).isSome)=true:=fun j hj=>by
    have hj':j<owner.size:=by rw[hz];exact List.mem_range.mp hj
    rw[Array.getD_eq_getD_getElem?,Array.getElem?_eq_getElem hj']
    cases z:owner[j]with
    |some v=>rfl
    |none=>exact absurd ⟨j,by rw[Array.getElem?_eq_getElem hj',z]⟩ hno
   have hlen:(valsIn (mask+1) owner).length=mask+1:=by
    unfold valsIn
    rw[List.filterMap_length_eq_length.mpr hall,List.length_range]
   rw[hv.length_eq,List.length_range]at hlen
   omega
  obtain⟨q,hq⟩:=hq
  obtain⟨j,ej,hj⟩:=free_some hc hz hq h
  have hjm:j<mask+1:=by
   rw[←hz];apply Nat.lt_of_not_le;intro hc'
   rw[Array.getElem?_eq_none hc']at hj;cases hj
  have hset:(valsIn (mask+1) (owner.setIfInBounds j (some k))).Perm (List.range (k+1)):=by
   have p:=filterMap_set (f:=fun x=>owner.getD x none) (g:=fun x=>(owner.setIfInBounds j (some k)).getD x none) (j:=j) (k:=k)
    (by show owner.getD j none=none;rw[Array.getD_eq_getD_getElem?,hj];rfl)
    (by show(owner.setIfInBounds j (some k)).getD j none=some k;rw[Array.getD_eq_getD_getElem?,Array.getElem?_setIfInBounds_self_of_lt (by rw[hz];exact hjm)];rfl)
    (fun x hx=>by show(owner.setIfInBounds j (some k)).getD x none=owner.getD x none;rw[Array.getD_eq_getD_getElem?,Array.getD_eq_getD_getElem?,Array.getElem?_setIfInBounds_ne (Ne.symm hx)])
    (List.range (mask+1)) List.nodup_range (List.mem_range.mpr hjm)
   refine p.trans ((hv.cons k).trans ?_)
   rw[List.range_succ]
   exact(List.perm_append_singleton k _).symm
  obtain⟨o',e1,e2,e3⟩:=lay_fold hc hs (owner.setIfInBounds j (some k)) (k+1) (by rw[Array.size_setIfInBounds,hz]) hset (by omega)
  refine⟨o',?_,e2,?_⟩
  ·rw[List.foldl_cons]
   have:(do
     let(owner,k)←some (owner,k)
     let j←SetTable.layClean.free mask owner (SetTable.turns mask) (SetTable.bits h % (mask+1)) (SetTable.bits h)
     pure (owner.setIfInBounds j (some k),k+1))=some (owner.setIfInBounds j (some k),k+1):=by
    show((SetTable.layClean.free mask owner (SetTable.turns mask) (SetTable.bits h % (mask+1)) (SetTable.bits h)).bind fun j=>some (owner.setIfInBounds j (some k),k+1))=_
    rw[ej];rfl
   rw[this,e1]
   simp only[List.length_cons]
   congr 2;omega
  ·simp only[List.length_cons]
   rw[show k+(hs.length+1)=k+1+hs.length by omega]
   exact e3
theorem laid_ok{mask finger moves:Nat}{led plain:Bool}{hs:Array Int}(hc:Cyc mask)(hl:hs.size≤mask):
  ∃t o,SetTable.laid mask finger moves led plain hs=some (t,o)∧o.toList.Perm (List.range hs.size)∧t.fits hs.size=true∧t.mask=mask∧t.dummies= #[]:=by
 obtain⟨o',e1,e2,e3⟩:=lay_fold hc hs.toList (Array.replicate (mask+1) none) 0 (by simp) (by
  have:valsIn (mask+1) (Array.replicate (mask+1) none)=[]:=by
   unfold valsIn
   rw[List.filterMap_eq_nil_iff]
   intro j hj
   rw[Array.getD_eq_getD_getElem?]
   cases z:(Array.replicate (mask+1) (none:Option Nat))[j]? with
   |none=>rfl
   |some v=>rw[Array.getElem?_replicate]at z;split at z<;>simp_all
  rw[this];simp) (by simpa using hl)
 have elay:SetTable.layClean mask hs=some o':=by
  unfold SetTable.layClean
  rw[←Array.foldl_toList,e1]
  rfl
 have hlen:((List.range (mask+1)).filterMap fun j=>(o'.getD j none).map (j,·)).map (·.2)=valsIn (mask+1) o':=by
  rw[List.map_filterMap]
  unfold valsIn
  congr 1
  funext j
  cases o'.getD j none<;>rfl
 have e3':(valsIn (mask+1) o').Perm (List.range hs.size):=by simpa using e3
 refine⟨_,_,by unfold SetTable.laid;rw[elay];rfl,?_,?_,rfl,rfl⟩
 ·show(List.map (fun x:Nat×Nat=>x.2) ((List.range (mask+1)).filterMap fun j=>(o'.getD j none).map (j,·))).Perm _
  rw[hlen];exact e3'
 ·unfold SetTable.fits SetTable.fill
  have hl2:((List.range (mask+1)).filterMap fun j=>(o'.getD j none).map (j,·)).length=hs.size:=by
   rw[←List.length_map (f:=(·.2)),hlen,e3'.length_eq,List.length_range]
  simp only[List.size_toArray,List.length_map,hl2]
  simpa using hl
noncomputable def SetT(w:World)(h:Heap)(a:Addr)(ks:List Int)(o:Obj)(es:Array (Int×Value))(ep:Nat)(t:SetTable):Prop:=h.get? a=some o∧o.ExactSet∧o.data=.set es ep t∧
 es.toList.map keyOf=ks∧(∀e∈es.toList,EntOk e)∧ks.Nodup∧ks.length<scanBound∧t.fits es.size=true∧Rise t.place∧(t.led=true∨bt w=true)
theorem SetT.g{w:World}{h:Heap}{a:Addr}{ks:List Int}{o:Obj}{es:Array (Int×Value)}{ep:Nat}{t:SetTable}(x:SetT w h a ks o es ep t):SetG w h a ks:=⟨o,es,ep,t,x⟩
section
variable{prog:Program}{w:World}{A:Around}{E:Value→Shared→Prop}{s:Shared}
theorem storeT{h:Heap}{a:Addr}{o:Obj}{es:Array (Int×Value)}{ep:Nat}{t:SetTable}(ho:h.get? a=some o)(hex:o.ExactSet)(hd:o.data=.set es ep t)
  {es':Array (Int×Value)} {t':SetTable} (hel:∀e∈es'.toList,EntOk e) (hnd:(es'.toList.map keyOf).Nodup) (hb:es'.size<scanBound) (hf:t'.fits es'.size=true) (hr:Rise t'.place) (hl:t'.led=true∨bt w=true):
  SetT w (h.update a (Obj.putSet es' t')) a (es'.toList.map keyOf) {o with data:=.set es' (ep+1) t'} es' (ep+1) t':=by
 have hg:(h.update a (Obj.putSet es' t')).get? a=some {o with data:=.set es' (ep+1) t'}:=by
  have:=Heap.get?_update_self (Obj.putSet es' t') ho (by rw[putSet_of es' t' hd];rfl)
  rw[putSet_of es' t' hd]at this;exact this
 exact⟨hg,hex,rfl,rfl,hel,hnd,by simpa using hb,hf,hr,hl⟩
theorem reorder_perm{es:Array (Int×Value)}{o:Array Nat}(hp:o.toList.Perm (List.range es.size)):(o.filterMap (es[·]?)).toList.Perm es.toList:=by
 rw[Array.toList_filterMap]
 exact(hp.filterMap _).trans (by rw[filterMap_getElem?_range])
theorem relayG{a:Addr}{ks:List Int}{o:Obj}{es:Array (Int×Value)}{ep:Nat}{t:SetTable}{n:Nat}{Q:Unit→Shared→Prop}(hS:SetT w s.heap a ks o es ep t)(hn:n<256)(hk:es.size≤n)
  (h:∀h' ks' o' es' t',Heap.SameBut a s.heap h'→SetT w h' a ks' o' es' (ep+1) t'→ks'.Perm ks→t'.dummies= #[]→t'.mask=SetTable.sizeAbove n - 1→es'.size=es.size→Q () {s with heap:=h'}):
  wpAny (model prog w) A (setRelay a n) Q E s:=by
 obtain⟨ho,hex,hd,rfl,hel,hnd,hb,hf,hr,hl⟩:=hS
 have hbs:es.size<scanBound:=by simpa using hb
 obtain⟨hc,hle,h256⟩:=above_ok hn
 obtain⟨t',od,e,hp,hf',hm',hdm'⟩:=laid_ok (mask:=SetTable.sizeAbove n - 1) (finger:=t.finger) (moves:=t.movedTo (SetTable.sizeAbove n - 1)) (led:=t.led) (plain:=t.plain) (hs:=es.map (·.1)) hc (by rw[Array.size_map];omega)
 obtain⟨rr,rl⟩:=laid_rise e
 rw[Array.size_map]at hp hf'
 unfold setRelay
 refine wpAny_bind (wpAny_setState_of ho hd hf ?_)
 dsimp only
 refine wpAny_ite ?_
 rw[if_neg (by rw[sizeLine_eq];omega)]
 have e':t.relaid (es.map (·.1)) n=some (t',od):=e
 rw[e']
 have pe:=reorder_perm hp
 have hz:(od.filterMap (es[·]?)).size=es.size:=by rw[←Array.length_toList,pe.length_eq,Array.length_toList]
 refine wpAny_bind ?_
 show wpAny _ _ (if((od.filterMap (es[·]?)).size !=es.size)=true then _ else pure (od.filterMap (es[·]?),t')) _ _ _
 rw[if_neg (by rw[hz];simp)]
 refine wpAny_pure ?_
 dsimp only
 refine wpAny_storeSet_of ho hd ?_ (by rw[hz];exact fits_of_scanBound hbs)
 have hS':=storeT (w:=w) ho hex hd (es':=od.filterMap (es[·]?)) (t':=t') (fun x hx=>hel x (pe.mem_iff.mp hx)) ((pe.map _).nodup_iff.mpr hnd) (by rw[hz];exact hbs) (by rw[hz];exact hf') rr (by rw[rl];exact hl)
 exact h _ _ _ _ _ (Heap.SameBut.update _ _ _) hS' (pe.map _) hdm' hm' hz
theorem newSetF{Q:Value→Shared→Prop}(h:∀h' o,SetT w h' s.heap.objs.size [] o #[] 0 (.fresh 0 0 (!bt w))→h'.objs.size=s.heap.objs.size+1→(∀b o,s.heap.get? b=some o→h'.get? b=some o)→Q (.ref s.heap.objs.size) {s with heap:=h'}):
  wpAny (model prog w) A (newSet (.type "set")) Q E s:=by
 unfold newSet setsByText
 refine wpAny_bind (wpAny_bind (wpAny_askSetting (wpAny_pure ?_)))
 dsimp only
 simp only[newObj]
 refine wpAny_bind (wpAny_alloc (wpAny_pure (h _ _ ⟨Heap.get?_push_size _ rfl,⟨rfl,rfl,rfl⟩,rfl,rfl,fun e he=>by simp at he,List.nodup_nil,by decide,by rfl,List.Pairwise.nil,?_⟩ (Heap.size_push ..) fun b o e=>Heap.get?_push_of_some _ e)))
 show(!w.params.followText "set-order")=true∨bt w=true
 unfold bt
 cases w.params.followText "set-order"<;>simp
theorem pourG{a r:Addr}{ks:List Int}{o ofr:Obj}{es:Array (Int×Value)}{ep epr:Nat}{t tr:SetTable}{Q:Unit→Shared→Prop}(hS:SetT w s.heap a ks o es ep t)(hR:SetT w s.heap r [] ofr #[] epr tr)(hdm:tr.dummies= #[])(hc:Cyc tr.mask)(hle:es.size≤tr.mask){each:Sem Unit}
  (h:∀h' kr,Heap.SameBut r s.heap h'→SetG w h' r kr→kr.Perm ks→Q () {s with heap:=h'}):
  wpAny (model prog w) A (match tr.road t with
   |.slotForSlot=>storeSet r es {t with finger:=tr.finger,led:=tr.led && t.led,moves:=tr.moves,plain:=tr.plain && t.plain}
   |.clean=>do
    let p←(do
     let some (t,order):=SetTable.laid tr.mask tr.finger tr.moves (led:=tr.led && t.led) (plain:=tr.plain && t.plain) (es.map (·.1))|unsupported "internal:set-table-without-room"
     let es':=order.filterMap (es[·]?)
     if es'.size !=es.size then unsupported "internal:set-table-lost-an-element"
     pure (es',t):Sem (Array (Int×Value)×SetTable))
    storeSet r p.1 p.2
   |.oneByOne=>each) Q E s:=by
 obtain⟨ho,hex,hd,rfl,hel,hnd,hb,hf,hr,hl⟩:=hS
 obtain⟨hor,hexr,hdr,hkr,helr,hndr,hbr,hfr,hrr,hlr⟩:=hR
 have hbs:es.size<scanBound:=by simpa using hb
 have hl':(tr.led && t.led)=true∨bt w=true:=by
  rcases hl with z|z
  ·rcases hlr with y|y
   ·left;rw[z,y];rfl
   ·exact .inr y
  ·exact .inr z
 have hps:tr.place.size=0:=by
  unfold SetTable.fits at hfr
  simp at hfr
  rw[hfr.1];rfl
 have h0:tr.fill=0:=by unfold SetTable.fill;rw[hps,hdm];rfl
 unfold SetTable.road
 rw[h0]
 by_cases hm:(tr.mask==t.mask && t.dummies.isEmpty)=true
 ·rw[if_neg (by decide),if_pos hm]
  dsimp only
  refine wpAny_storeSet_of hor hdr ?_ (fits_of_scanBound hbs)
  have hS':=storeT (w:=w) hor hexr hdr (es':=es) (t':={t with finger:=tr.finger,led:=tr.led && t.led,moves:=tr.moves,plain:=tr.plain && t.plain}) hel hnd hbs hf hr hl'
  exact h _ _ (Heap.SameBut.update _ _ _) hS'.g (List.Perm.refl _)
 ·rw[if_neg (by decide),if_neg hm]
  dsimp only
  obtain⟨t',od,e,hp,hf',hm',hdm'⟩:=laid_ok (mask:=tr.mask) (finger:=tr.finger) (moves:=tr.moves) (led:=tr.led && t.led) (plain:=tr.plain && t.plain) (hs:=es.map (·.1)) hc (by rw[Array.size_map];exact hle)
  obtain⟨rr,rl⟩:=laid_rise e
  rw[Array.size_map]at hp hf'
  have pe:=reorder_perm hp
  have hz:(od.filterMap (es[·]?)).size=es.size:=by rw[←Array.length_toList,pe.length_eq,Array.length_toList]
  rw[e]
  dsimp only
  refine wpAny_bind ?_
  rw[if_neg (by rw[hz];simp)]
  refine wpAny_pure ?_
  refine wpAny_storeSet_of hor hdr ?_ (by rw[hz];exact fits_of_scanBound hbs)
  have hS':=storeT (w:=w) hor hexr hdr (es':=od.filterMap (es[·]?)) (t':=t') (fun x hx=>hel x (pe.mem_iff.mp hx)) ((pe.map _).nodup_iff.mpr hnd) (by rw[hz];exact hbs) (by rw[hz];exact hf') rr (by rw[rl];exact hl')
  exact h _ _ (Heap.SameBut.update _ _ _) hS'.g (pe.map _)
theorem copyG{a:Addr}{ks:List Int}{Q:Value→Shared→Prop}(hS:SetG w s.heap a ks)(hk:ks.length<64)
  (h:∀h' kr,SetG w h' s.heap.objs.size kr→kr.Perm ks→h'.objs.size=s.heap.objs.size+1→(∀c o,s.heap.get? c=some o→h'.get? c=some o)→Q (.ref s.heap.objs.size) {s with heap:=h'}):
  wpAny (model prog w) A (Builtin.Frozenset.copyOf a) Q E s:=by
 have hT:=hS.type (s':=s) rfl
 have hlt:=hS.lt
 obtain⟨o,es,ep,t,hS⟩:=hS
 have hS0:=hS
 obtain⟨ho,hex,hd,hks,hel,hnd,hb,hf,hr,hl⟩:=hS0
 have hne:s.heap.objs.size≠a:=Nat.ne_of_gt hlt
 have hes:es.size<64:=by rw[←hks]at hk;simpa using hk
 unfold Builtin.Frozenset.copyOf
 refine wpAny_bind (baseG hT ?_)
 refine wpAny_bind (newSetF fun h1 or hR hz1 old1=>?_)
 refine wpAny_bind (wpAny_pure ?_)
 have ho1:=old1 _ _ ho
 have hS1:SetT w h1 a ks o es ep t:=⟨ho1,hex,hd,hks,hel,hnd,hb,hf,hr,hl⟩
 have fin:∀h' kr,Heap.SameBut s.heap.objs.size h1 h'→SetG w h' s.heap.objs.size kr→kr.Perm ks→Q (.ref s.heap.objs.size) {s with heap:=h'}:=fun h' kr sb g p=>
  h h' kr g p (by rw[sb.1,hz1]) fun c x e=>by rw[sb.2 _ (Nat.ne_of_lt (Heap.lt_size e))];exact old1 _ _ e
 unfold setMerge
 refine wpAny_bind ?_
 refine wpAny_ite ?_
 rw[if_neg (by simpa using hne)]
 refine wpAny_bind (wpAny_setState_of (s:={s with heap:=h1}) ho1 hd hf ?_)
 dsimp only
 refine wpAny_ite ?_
 split
 ·rename_i he
  refine wpAny_pure (wpAny_pure (fin h1 [] (Heap.SameBut.refl _ _) hR.g ?_))
  have:es= #[]:=by simpa using he
  rw[←hks,this];exact List.Perm.refl _
 ·unfold setRoomFor
  obtain⟨hor,hexr,hdr,hkr,helr,hndr,hbr,hfr,hrr,hlr⟩:=id hR
  refine wpAny_bind (wpAny_bind (wpAny_setState_of (s:={s with heap:=h1}) hor hdr hfr ?_))
  by_cases hroom:(0+es.size)*5≥7*3
  ·have er:SetTable.roomFor (.fresh 0 0 (!bt w)) es.size=some ((0+es.size)*2):=by
    unfold SetTable.roomFor SetTable.fill SetTable.fresh
    exact if_pos hroom
   dsimp only
   rw[er]
   dsimp only
   have h256:(0+es.size)*2<256:=by omega
   refine relayG (s:={s with heap:=h1}) hR h256 (Nat.zero_le _) fun h2 k2 o2 es2 t2 sb2 hR2 p2 hdm2 hm2 hz2=>?_
   obtain⟨hc,hle,_⟩:=above_ok h256
   have hk2:k2=[]:=p2.eq_nil
   have he2:es2= #[]:=by simpa using hz2
   subst hk2;subst he2
   obtain⟨hor2,hexr2,hdr2,hkr2,helr2,hndr2,hbr2,hfr2,hrr2,hlr2⟩:=id hR2
   refine wpAny_bind (wpAny_setState_of (s:={s with heap:=h2}) hor2 hdr2 hfr2 ?_)
   dsimp only
   have hS2:SetT w h2 a ks o es ep t:=⟨by rw[sb2.2 _ (Ne.symm hne)];exact ho1,hex,hd,hks,hel,hnd,hb,hf,hr,hl⟩
   refine pourG (s:={s with heap:=h2}) hS2 hR2 hdm2 (by rw[hm2];exact hc) (by rw[hm2];omega) fun h3 kr sb3 g3 p3=>?_
   exact wpAny_pure (fin h3 kr (sb2.trans sb3) g3 p3)
  ·have er:SetTable.roomFor (.fresh 0 0 (!bt w)) es.size=none:=by
    unfold SetTable.roomFor SetTable.fill SetTable.fresh
    exact if_neg hroom
   dsimp only
   rw[er]
   dsimp only
   refine wpAny_pure ?_
   refine wpAny_bind (wpAny_setState_of (s:={s with heap:=h1}) hor hdr hfr ?_)
   dsimp only
   refine pourG (s:={s with heap:=h1}) hS1 hR rfl cyc7 (by show es.size≤7;omega) fun h3 kr sb3 g3 p3=>?_
   exact wpAny_pure (fin h3 kr sb3 g3 p3)
end
theorem eraseAt_toList{α:Type}(xs:Array α)(p:Nat)(hp:p<xs.size):(SetTable.eraseAt xs p).toList=xs.toList.eraseIdx p:=by
 unfold SetTable.eraseAt
 rw[Array.toList_append,Array.toList_extract,Array.toList_extract,List.eraseIdx_eq_take_drop_succ]
 simp[List.extract_eq_drop_take,List.take_of_length_le]
section
variable{prog:Program}{w:World}{A:Around}{E:Value→Shared→Prop}{s:Shared}
theorem findT{a:Addr}{ks:List Int}{o:Obj}{es:Array (Int×Value)}{ep:Nat}{t:SetTable}{k:Int}{tok:Tok}{Q:Option Nat→Shared→Prop}(hS:SetT w s.heap a ks o es ep t)
  (h0:k∉ks→Q none s) (h1:∀i e,es.toList[i]?=some e→keyOf e=k→Q (some i) s):
  wpAny (model prog w) A (setFind a (.int k tok) (hashInt k)) Q E s:=by
 obtain⟨ho,hex,hd,rfl,hel,hnd,hb,hf,hr,hl⟩:=hS
 have hbs:es.size<scanBound:=by simpa using hb
 have hel':ElemsOf (intKind prog w) es.toList:=ents_elems hel
 unfold setFind setFindIn
 refine wpAny_bind (wpAny_setState_of ho hd hf ?_)
 dsimp only
 rw[byScan_of (knd:=intKind prog w) rfl hbs hel']
 simp only[↓reduceIte]
 refine wpAny_bind (wpAny_rule ?_)
 refine wpAny_bind (wpAny_setScan_of (knd:=intKind prog w) (k:=k) (intKind_is _ _ _ _) ho hd hf hel' ?_)
 cases hq:List.findIdx? (fun e=>(intKind prog w).is k e.2) es.toList with
 |none=>
  exact wpAny_pure (h0 ((find_none (prog:=prog) (w:=w) hel).mp hq))
 |some j=>
  obtain⟨hj,hjk,_⟩:=List.findIdx?_eq_some_iff_getElem.mp hq
  have hin:=hel _ (List.getElem_mem hj)
  rw[is_key hin,decide_eq_true_eq]at hjk
  refine wpAny_pure ?_
  rw[Nat.zero_add]
  exact h1 j _ (List.getElem?_eq_getElem hj) hjk
theorem discardG{a:Addr}{ks:List Int}{k:Int}{tok:Tok}{Q:Bool→Shared→Prop}(hS:SetG w s.heap a ks)
  (h:∀h' ks' b,Heap.SameBut a s.heap h'→SetG w h' a ks'→(∀x,x∈ks'↔x∈ks∧x≠k)→ks'.length≤ks.length→Q b {s with heap:=h'}):
  wpAny (model prog w) A (setDiscardHashed a (.int k tok) (hashInt k)) Q E s:=by
 have e0:s={s with heap:=s.heap}:=by cases s;rfl
 obtain⟨o,es,ep,t,hS⟩:=hS
 obtain⟨ho,hex,hd,hks,hel,hnd,hb,hf,hr,hl⟩:=id hS
 unfold setDiscardHashed
 refine wpAny_bind (findT hS (fun hno=>?_) fun i e hi hk=>?_)
 ·refine wpAny_pure ?_
  rw[e0]
  exact h s.heap ks false (Heap.SameBut.refl _ _) (SetT.g hS) (fun x=>⟨fun z=>⟨z,fun y=>hno (y▸z)⟩,fun z=>z.1⟩) (Nat.le_refl _)
 ·dsimp only
  have hi':i<es.size:=by
   have:i<es.toList.length:=by
    apply Nat.lt_of_not_le;intro hc;rw[List.getElem?_eq_none hc]at hi;cases hi
   simpa using this
  have hfp:t.place.size=es.size∧t.fill≤t.mask:=by
   unfold SetTable.fits at hf;simpa using hf
  have hpi:i<t.place.size:=by rw[hfp.1];exact hi'
  have hbs:es.size<scanBound:=by rw[←hks]at hb;simpa using hb
  have ezs:(SetTable.eraseAt es i).size=es.size - 1:=by
   rw[←Array.length_toList,eraseAt_toList _ _ hi',List.length_eraseIdx_of_lt (by simpa using hi')];simp
  have ezp:(SetTable.eraseAt t.place i).size=es.size - 1:=by
   rw[←Array.length_toList,eraseAt_toList _ _ hpi,List.length_eraseIdx_of_lt (by simpa using hpi)];simp[hfp.1]
  have hdrop:t.drop i={t with place:=SetTable.eraseAt t.place i,dummies:=SetTable.insertAt t.dummies (SetTable.below t.dummies t.place[i]) t.place[i]}:=by
   unfold SetTable.drop
   rw[Array.getElem?_eq_getElem hpi]
  have hdl:(SetTable.insertAt t.dummies (SetTable.below t.dummies t.place[i]) t.place[i]).size=t.dummies.size+1:=by
   rw[←Array.length_toList,(SetTable.insertAt_perm ..).length_eq];simp
  refine wpAny_bind (wpAny_setState_of ho hd hf ?_)
  dsimp only
  refine wpAny_bind (wpAny_storeSet_of ho hd ?_ (by rw[ezs];exact Nat.le_trans (Nat.sub_le _ _) (fits_of_scanBound hbs)))
  have pe:(e::(SetTable.eraseAt es i).toList).Perm es.toList:=by
   rw[eraseAt_toList _ _ hi']
   have hi2:i<es.toList.length:=by simpa using hi'
   have ee:es.toList[i]=e:=by
    rw[List.getElem?_eq_getElem hi2]at hi;injection hi
   rw[←ee]
   exact cons_erase _ _ hi2
  have pk:(k::(SetTable.eraseAt es i).toList.map keyOf).Perm ks:=by
   have:=pe.map keyOf
   rw[List.map_cons,hk,hks]at this
   exact this
  have hnd':=pk.nodup_iff.mpr hnd
  obtain⟨n1,n2⟩:=List.nodup_cons.mp hnd'
  have hS':=storeT (w:=w) ho hex hd (es':=SetTable.eraseAt es i) (t':=t.drop i) (fun x hx=>hel x (pe.mem_iff.mp (List.mem_cons_of_mem _ hx))) n2 (by rw[ezs];omega)
   (by
    rw[hdrop,ezs]
    unfold SetTable.fits SetTable.fill
    have q:=hfp.2
    unfold SetTable.fill at q
    simp only[ezp,hdl,beq_self_eq_true,Bool.true_and,decide_eq_true_eq]
    omega)
   (by
    rw[hdrop]
    show List.Pairwise _ (SetTable.eraseAt t.place i).toList
    rw[eraseAt_toList _ _ hpi]
    exact List.Pairwise.sublist (List.eraseIdx_sublist ..) hr)
   (by rw[hdrop];exact hl)
  refine wpAny_bind (wpAny_point (wpAny_pure (h _ _ true (Heap.SameBut.update _ _ _) hS'.g (fun x=>?_) ?_)))
  ·rw[←pk.mem_iff,List.mem_cons]
   constructor
   ·intro z
    exact⟨.inr z,fun y=>n1 (y▸z)⟩
   ·rintro⟨z|z,y⟩
    ·exact absurd z y
    ·exact z
  ·have:=pk.length_eq
   rw[List.length_cons]at this
   omega
theorem tidyG{a:Addr}{ks:List Int}{Q:Unit→Shared→Prop}(hS:SetG w s.heap a ks)(hk:ks.length<64)
  (h:∀h' ks',Heap.SameBut a s.heap h'→SetG w h' a ks'→ks'.Perm ks→Q () {s with heap:=h'}):wpAny (model prog w) A (setTidy a) Q E s:=by
 have e0:s={s with heap:=s.heap}:=by cases s;rfl
 obtain⟨o,es,ep,t,hS⟩:=hS
 obtain⟨ho,hex,hd,hks,hel,hnd,hb,hf,hr,hl⟩:=id hS
 have hes:es.size<64:=by rw[←hks]at hk;simpa using hk
 unfold setTidy
 refine wpAny_bind (wpAny_setState_of ho hd hf ?_)
 dsimp only
 refine wpAny_ite ?_
 split
 ·have eg:SetTable.grown es.size=es.size*4:=by unfold SetTable.grown;exact if_neg (by omega)
  rw[eg]
  exact relayG hS (by omega) (by omega) fun h' ks' o' es' t' sb g p _ _ _=>h h' ks' sb g.g p
 ·refine wpAny_pure ?_
  rw[e0]
  exact h s.heap ks (Heap.SameBut.refl _ _) (SetT.g hS) (List.Perm.refl _)
theorem dropLoop{r:Addr}{f:Int×Value→PUnit→Sem (ForInStep PUnit)}{h0:Heap}
  (turn:∀(k:Int) (tok:Tok) (kr:List Int) (s':Shared) (R:ForInStep PUnit→Shared→Prop),Heap.SameBut r h0 s'.heap→SetG w s'.heap r kr→
   (∀h' kr',Heap.SameBut r s'.heap h'→SetG w h' r kr'→(∀x,x∈kr'↔x∈kr∧x≠k)→kr'.length≤kr.length→R (.yield ()) {s' with heap:=h'})→wpAny (model prog w) A (f (hashInt k,.int k tok) ()) R E s'):
  ∀(es:List (Int×Value)) (kr:List Int) (s':Shared) (Q:PUnit→Shared→Prop),(∀e∈es,EntOk e)→Heap.SameBut r h0 s'.heap→SetG w s'.heap r kr→
   (∀h' kr',Heap.SameBut r h0 h'→SetG w h' r kr'→(∀x,x∈kr'↔x∈kr∧x∉es.map keyOf)→kr'.length≤kr.length→Q () {s' with heap:=h'})→wpAny (model prog w) A (forIn es () f) Q E s'
 |[],kr,s',Q,hel,hb,hS,h=>by
  have e0:s'={s' with heap:=s'.heap}:=by cases s';rfl
  rw[List.forIn_nil]
  refine wpAny_pure ?_
  rw[e0]
  exact h _ kr hb hS (fun x=>by simp) (Nat.le_refl _)
 |e::rest,kr,s',Q,hel,hb,hS,h=>by
  obtain⟨k,tok,rfl⟩:=hel e (List.mem_cons_self ..)
  rw[List.forIn_cons]
  refine wpAny_bind (turn k tok kr s' _ hb hS fun h' kr' sb g m hl=>?_)
  refine dropLoop turn rest kr' {s' with heap:=h'} Q (fun e he=>hel e (List.mem_cons_of_mem _ he)) (hb.trans sb) g fun h2 kr2 sb2 g2 m2 hl2=>?_
  refine h h2 kr2 sb2 g2 (fun x=>?_) (Nat.le_trans hl2 hl)
  rw[m2,m,List.map_cons,List.mem_cons]
  have ek:keyOf (hashInt k,Value.int k tok)=k:=rfl
  rw[ek,not_or,and_assoc]
theorem diffUpdG{r b:Addr}{kr kb:List Int}{id:String}{Q:Unit→Shared→Prop}(hR:SetG w s.heap r kr)(hB:SetG w s.heap b kb)(hrb:r≠b)(hk:kr.length<64)(hsm:¬kb.length / 8 >kr.length)
  (h:∀h' k',Heap.SameBut r s.heap h'→SetG w h' r k'→(∀x,x∈k'↔x∈kr∧x∉kb)→Q () {s with heap:=h'}):
  wpAny (model prog w) A (Builtin.Frozenset.differenceUpdate id r (.ref b)) Q E s:=by
 unfold Builtin.Frozenset.differenceUpdate
 refine wpAny_ite ?_
 rw[if_neg (by rw[ne_ref hrb];decide)]
 refine wpAny_bind (isAnyG (hB.type rfl) ?_)
 rw[if_pos rfl]
 refine wpAny_bind (wpAny_pure ?_)
 refine wpAny_bind (sizeG hB ?_)
 refine wpAny_bind (sizeG hR ?_)
 rw[if_neg hsm]
 have hB':=hB
 obtain⟨ob,esb,epb,tb,hob,hexb,hdb,hkb,helb,hndb,hbb,hfb,hrb2,hlb⟩:=hB
 unfold setEpoch
 refine wpAny_bind (wpAny_bind (wpAny_setState_of hob hdb hfb (wpAny_pure ?_)))
 refine wpAny_bind (wpAny_holding ?_)
 refine wpAny_bind (walkG' hB' (fun c hc=>⟨kr,by rw[List.mem_singleton.mp hc];exact hR⟩) fun es hel pm=>?_)
 rw[←Array.forIn_toList]
 refine wpAny_bind (dropLoop (h0:=s.heap) (r:=r) (fun k tok k1 s' R sb hS hR'=>?_) es.toList kr s _ hel (Heap.SameBut.refl _ _) hR fun h2 k2 sb2 g2 m2 hl2=>?_)
 ·have hobs:s'.heap.get? b=some ob:=by rw[sb.2 _ (Ne.symm hrb)];exact hob
  refine wpAny_bind (wpAny_holding (discardG hS fun h3 k3 bb sb3 g3 m3 hl3=>?_))
  refine wpAny_bind (unchangedG (s:={s' with heap:=h3}) (by show h3.get? b=_;rw[sb3.2 _ (Ne.symm hrb)];exact hobs) hdb hfb (wpAny_pure ?_))
  exact hR' h3 k3 sb3 g3 m3 hl3
 ·refine wpAny_pure (tidyG (s:={s with heap:=h2}) g2 (by omega) fun h4 k4 sb4 g4 p4=>?_)
  refine h h4 k4 (sb2.trans sb4) g4 fun x=>?_
  rw[p4.mem_iff,m2,pm.mem_iff]
theorem diffG{a b:Addr}{ka kb:List Int}{id:String}{Q:Value→Shared→Prop}(hA:SetG w s.heap a ka)(hB:SetG w s.heap b kb)(hk:ka.length<64)
  (h:∀h' kr,SetG w h' s.heap.objs.size kr→(∀x,x∈kr↔x∈ka∧x∉kb)→h'.objs.size=s.heap.objs.size+1→(∀c o,s.heap.get? c=some o→h'.get? c=some o)→Q (.ref s.heap.objs.size) {s with heap:=h'}):
  wpAny (model prog w) A (Builtin.Frozenset.difference id a (.ref b)) Q E s:=by
 unfold Builtin.Frozenset.difference
 dsimp only
 refine wpAny_bind (isAnyG (hB.type rfl) ?_)
 simp only[Bool.not_true,Bool.false_eq_true,if_false,Bool.false_and,if_true]
 refine wpAny_bind (wpAny_pure ?_)
 refine wpAny_bind (sizeG hB ?_)
 refine wpAny_bind (sizeG hA ?_)
 have hra:s.heap.objs.size≠a:=Nat.ne_of_gt hA.lt
 have hrb:s.heap.objs.size≠b:=Nat.ne_of_gt hB.lt
 refine wpAny_ite ?_
 split
 ·rename_i hgt
  refine wpAny_bind (wpAny_rule ?_)
  refine wpAny_bind (copyG hA hk fun h1 k1 g1 p1 hz1 old1=>?_)
  refine wpAny_bind (wpAny_pure ?_)
  refine wpAny_bind (wpAny_holding ?_)
  have hl1:=p1.length_eq
  refine diffUpdG (s:={s with heap:=h1}) g1 (hB.at fun o e=>old1 _ _ e) hrb (by omega) (by omega) fun h2 k2 sb2 g2 m2=>?_
  refine wpAny_pure (h h2 k2 g2 (fun x=>by rw[m2,p1.mem_iff]) (by rw[sb2.1,←hz1]) fun c o e=>?_)
  rw[sb2.2 _ (Nat.ne_of_lt (Heap.lt_size e))];exact old1 _ _ e
 ·refine wpAny_bind (baseG (hA.type rfl) ?_)
  refine wpAny_bind (newSetG fun h1 hR hz1 old1=>?_)
  refine wpAny_bind (wpAny_pure ?_)
  have hA1:SetG w h1 a ka:=hA.at fun o e=>old1 _ _ e
  have hB1:SetG w h1 b kb:=hB.at fun o e=>old1 _ _ e
  have hA1':=hA1
  obtain⟨ow,esw,epw,tw,how,hexw,hdw,rfl,helw,hndw,hbw,hfw,hrw,hlw⟩:=hA1
  unfold setEpoch
  refine wpAny_bind (wpAny_bind (wpAny_setState_of (s:={s with heap:=h1}) how hdw hfw (wpAny_pure ?_)))
  refine wpAny_bind (wpAny_holding ?_)
  refine wpAny_bind (walkG (s:={s with heap:=h1}) hA1' hR (fun c hc=>?_) fun es h2 hel pm sb2 hR2=>?_)
  ·simp only[List.mem_cons,List.not_mem_nil,or_false]at hc
   rcases hc with rfl|rfl
   ·exact⟨_,hB1⟩
   ·exact⟨_,hR⟩
  have hq2:SetG w h2 b kb:=hB1.at fun o e=>by rw[sb2.2 _ (Ne.symm hrb)];exact e
  have how2:h2.get? a=some ow:=by rw[sb2.2 _ (Ne.symm hra)];exact how
  have hlen:es.toList.length=esw.size:=by
   have:=pm.length_eq
   simpa using this
  have hbw':esw.size<scanBound:=by simpa using hbw
  rw[←Array.forIn_toList]
  refine wpAny_bind (siftLoop (p:=fun x=>decide (x∉kb)) (h0:=h2) (n:=esw.size) hbw' (fun k tok kr s' R sb hS hb hR'=>?_) es.toList [] {s with heap:=h2} _ hel (Heap.SameBut.refl _ _) hR2 (by simp[←hlen]) fun h3 kr sb3 g3 m3=>?_)
  ·have hqs:SetG w s'.heap b kb:=hq2.at fun o e=>by rw[sb.2 _ (Ne.symm hrb)];exact e
   have hows:s'.heap.get? a=some ow:=by rw[sb.2 _ (Ne.symm hra)];exact how2
   have e0:s'={s' with heap:=s'.heap}:=by cases s';rfl
   refine wpAny_bind (wpAny_holding (wpAny_bind (findG hqs fun r hr=>wpAny_bind (wpAny_pure ?_))))
   refine wpAny_ite ?_
   rw[hr]
   by_cases hin:k∈kb
   ·rw[if_neg (by rw[decide_eq_true hin];decide)]
    refine wpAny_pure ?_
    refine wpAny_bind (unchangedG hows hdw hfw (wpAny_pure ?_))
    rw[e0]
    refine hR' s'.heap kr (Heap.SameBut.refl _ _) hS ?_
    rw[if_neg (by rw[decide_eq_false (fun z=>z hin)];decide)]
   ·rw[if_pos (by rw[decide_eq_false hin];decide)]
    refine wpAny_bind (setAddG hS hb fun h4 kr4 sb4 g4 p4=>wpAny_pure ?_)
    refine wpAny_bind (unchangedG (s:={s' with heap:=h4}) (by show h4.get? a=_;rw[sb4.2 _ (Ne.symm hra)];exact hows) hdw hfw (wpAny_pure ?_))
    refine hR' h4 kr4 sb4 g4 ?_
    rw[if_pos (decide_eq_true hin)];exact p4
  ·refine wpAny_pure (wpAny_pure (h h3 kr g3 (fun x=>?_) ?_ fun c o e=>?_))
   ·rw[m3,pm.mem_iff]
    simp
   ·rw[sb3.1,sb2.1];exact hz1
   ·have hc:c≠s.heap.objs.size:=Nat.ne_of_lt (Heap.lt_size e)
    rw[sb3.2 _ hc,sb2.2 _ hc];exact old1 _ _ e
theorem subG{a b:Addr}{ka kb:List Int}{Q:Value→Shared→Prop}(hA:SetG w s.heap a ka)(hB:SetG w s.heap b kb)(hk:ka.length<64)
  (h:∀h' kr,SetG w h' s.heap.objs.size kr→(∀x,x∈kr↔x∈ka∧x∉kb)→h'.objs.size=s.heap.objs.size+1→(∀c o,s.heap.get? c=some o→h'.get? c=some o)→Q (.ref s.heap.objs.size) {s with heap:=h'}):
  wpAny (model prog w) A (binaryOp .Sub (.ref a) (.ref b)) Q E s:=by
 refine wpAny_binaryOp_same (T:="set") (hA.type rfl) (hB.type rfl) PySem.F.fills_set_sub PySem.F.slot_set_sub (wpAny_call_entry PySem.F.slot_set_sub (hA.type rfl) FF.entry_set_sub ?_ (PySem.F.args_set_sub_2 _ _))
 show wpAny _ _ (do
  if !(←(Builtin.Frozenset.isAnySet (.ref a)<&&>Builtin.Frozenset.isAnySet (.ref b)))then rule "frozenset.__sub__.declined";return←ret .notImplemented
  ret (←Builtin.Frozenset.difference "frozenset.__sub__" (←Builtin.Frozenset.addrOf (.ref a)) (.ref b))) _ _ _
 refine wpAny_bind (wpAny_bind (isAnyG (hA.type rfl) (isAnyG (hB.type rfl) ?_)))
 refine wpAny_ite ?_
 rw[if_neg (by decide)]
 refine wpAny_bind (wpAny_pure ?_)
 refine wpAny_bind (diffG hA hB hk fun h' kr g m z old=>?_)
 exact wpAny_pure ⟨_,rfl,⟨by simp,h h' kr g m z old⟩⟩
end
noncomputable def setO(w:World)(a:Addr)(ks:List Int):HO:=HO.ext fun h=>SetG w h a ks
theorem setO_new{P:Program}{w:World}{H:Hp}{h:Heap}{a:Addr}{ks:List Int}(g:SetG w h a ks):ObjOk P w H h a (setO w a ks):=by
 refine⟨g,?_,fun h1 h2 g1 k=>g1.at k⟩
 obtain⟨o,_,_,_,e,_⟩:=g
 exact⟨o,e⟩
theorem setO_get{P:Program}{w:World}{H:Hp}{h:Heap}{a:Addr}{ks:List Int}(x:HOk P w H h)(e:H a=some (setO w a ks)):SetG w h a ks:=(x a _ e).1
theorem SetG.nodup{w:World}{h:Heap}{a:Addr}{ks:List Int}(g:SetG w h a ks):ks.Nodup:=by
 obtain⟨_,_,_,_,_,_,_,_,_,n,_⟩:=g
 exact n
theorem ints_of_vals:∀{ns:List Int} {us:List Value},Vals (ns.map V.int) us→IntsAre us ns
 |[],_,.nil=>.nil
 |n::r,_,.cons h t=>by
  obtain⟨tk,rfl⟩:=(show ∃t,_=Value.int n t from h)
  exact .cons n tk (ints_of_vals t)
theorem vals_of_ints:∀{ns:List Int} {us:List Value},IntsAre us ns→Vals (ns.map V.int) us
 |_,_,.nil=>.nil
 |_,_,.cons n t h=>.cons ⟨t,rfl⟩ (vals_of_ints h)
section
variable{X:Cx}{pins:List (Addr×Obj)}{σ:St}{H:Hp}{s:Shared}{h':Heap}{a:Addr}{o:HO}
theorem Inv.laidD{t':Nat}{d':Drawn}(I:Inv X pins σ H s)(k:∀b u,s.heap.get? b=some u→h'.get? b=some u)(hp:s.heap.objs.size≤a)
  (new:ObjOk X.prog X.w (upd H a o) h' a o):Inv X pins σ (upd H a o) {s with heap:=h',drawn:=d',toks:=t'}:=by
 have hn:H a=none:=I.hok.fresh hp
 refine I.step (g':=s.gens) (d':=d') (ch:=[]) (fun b hb=>by simp at hb) (fun b u _ _ _ e _=>k b u e) (fun b u _ _ _ e _=>⟨u.slots,k b u e⟩)
  (fun b u _ e n=>by rw[upd_ne (Nat.ne_of_lt (Nat.lt_of_lt_of_le (Heap.lt_size e) hp))];exact n)
  (fun b u _ e=>⟨u,k b u e⟩) (fun b xs e=>by rw[upd_ne (ne_of_none e hn)];exact e) (fun b u v e=>by rw[upd_ne (ne_of_none e hn)];exact e) (fun b ps e=>⟨#[],by rw[upd_ne (ne_of_none e hn),e];simp⟩) (fun m hm=>?_) (I.hok.laid k hp new) I.bare
 obtain⟨u,es,ep,ho,r⟩:=hm
 exact⟨u,es,ep,k _ u ho,r⟩
end
section
variable{X:Cx}
noncomputable def rSortedS(w:World):List V→Hp→VK→Prop:=fun xs H Q=>∃(a:Addr) (ks:List Int),xs=[.ref a]∧H a=some (setO w a ks)∧ks.length<64∧∀(l:Addr) (ns:List Int),H l=none→ns.Perm ks→ns.Pairwise (· ≤ ·)→Q (.ref l) (upd H l (.lst (ns.map V.int)))
theorem call_sortedS(hc:X.calm=true):CallR X (.builtin "sorted") (rSortedS X.w):=by
 intro pins s σ H xs us Q I r h
 obtain⟨a,ks,rfl,ha,hl,q⟩:=h
 obtain⟨u,rfl,rx⟩:=vals1 r
 cases rx
 refine sortedG (I.ok.hd hc) (setO_get I.hok ha) hl fun L n out ns h' d' tk hi hp hs hL hz old=>?_
 refine⟨.ref L,_,I.laidD (d':=d') old hz (o:=.lst (ns.map V.int)) ⟨?_,out.toList,n,vals_of_ints hi,by simpa using hL⟩,rfl,q _ ns (I.hok.fresh hz) hp hs⟩
 rw[List.length_map,hp.length_eq,sizeLine_eq];omega
noncomputable def rLenS(w:World):List V→Hp→VK→Prop:=fun xs H Q=>∃(a:Addr) (ks:List Int),xs=[.ref a]∧H a=some (setO w a ks)∧Q (.int ks.length) H
theorem call_lenS:CallR X (.builtin "len") (rLenS X.w):=by
 intro pins s σ H xs us Q I r h
 obtain⟨a,ks,rfl,ha,q⟩:=h
 obtain⟨u,rfl,rx⟩:=vals1 r
 cases rx
 exact lenG (setO_get I.hok ha) fun tk tk'=>⟨.int ks.length,H,I.tok _,⟨tk,rfl⟩,q⟩
noncomputable def rAndS(w:World):R2:=fun x y H Q=>∃(a b:Addr) (ka kb:List Int),x=.ref a∧y=.ref b∧H a=some (setO w a ka)∧H b=some (setO w b kb)∧a≠b∧∀(l:Addr) (kr:List Int),H l=none→kr.Nodup→(∀x,x∈kr↔x∈ka∧x∈kb)→Q (.ref l) (upd H l (setO w l kr))
theorem op_andS:OpR X (binaryOp .BitAnd) (rAndS X.w):=by
 intro pins s σ H x y v u Q I rx ry h
 obtain⟨a,b,ka,kb,rfl,rfl,ha,hb,hab,q⟩:=h
 cases rx;cases ry
 refine andG (setO_get I.hok ha) (setO_get I.hok hb) hab fun h' kr g m hz old=>?_
 exact⟨.ref s.heap.objs.size,_,I.laid (t':=s.toks) old (Nat.le_refl _) (setO_new g),rfl,q _ kr (I.hok.fresh (Nat.le_refl _)) g.nodup m⟩
noncomputable def rSubS(w:World):R2:=fun x y H Q=>∃(a b:Addr) (ka kb:List Int),x=.ref a∧y=.ref b∧H a=some (setO w a ka)∧H b=some (setO w b kb)∧ka.length<64∧∀(l:Addr) (kr:List Int),H l=none→kr.Nodup→(∀x,x∈kr↔x∈ka∧x∉kb)→Q (.ref l) (upd H l (setO w l kr))
theorem op_subS:OpR X (binaryOp .Sub) (rSubS X.w):=by
 intro pins s σ H x y v u Q I rx ry h
 obtain⟨a,b,ka,kb,rfl,rfl,ha,hb,hab,q⟩:=h
 cases rx;cases ry
 refine subG (setO_get I.hok ha) (setO_get I.hok hb) hab fun h' kr g m hz old=>?_
 exact⟨.ref s.heap.objs.size,_,I.laid (t':=s.toks) old (Nat.le_refl _) (setO_new g),rfl,q _ kr (I.hok.fresh (Nat.le_refl _)) g.nodup m⟩
end
section
variable{X:Cx}{K:W.Frag}{w:World}
theorem cSortedS(hw:X.w=w)(hc:X.calm=true):CallR X (.builtin "sorted") (rSortedS w):=by subst hw;exact call_sortedS hc
theorem cLenS(hw:X.w=w):CallR X (.builtin "len") (rLenS w):=by subst hw;exact call_lenS
theorem oAndS(hw:X.w=w):OpR X (binaryOp .BitAnd) (rAndS w):=by subst hw;exact op_andS
theorem oSubS(hw:X.w=w):OpR X (binaryOp .Sub) (rSubS w):=by subst hw;exact op_subS
end
section
variable{σ:St}{H:Hp}{Q:VK}{K:W.Frag}{w:World}
theorem i_sortedS{a:Addr}{ks:List Int}(h:H a=some (setO w a ks))(l:ks.length<64)(q:∀(l:Addr) (ns:List Int),H l=none→ns.Perm ks→ns.Pairwise (· ≤ ·)→Q (.ref l) (upd H l (.lst (ns.map V.int)))):rSortedS w [.ref a] H Q:=⟨a,ks,rfl,h,l,q⟩
theorem i_lenS{a:Addr}{ks:List Int}(h:H a=some (setO w a ks))(q:Q (.int ks.length) H):rLenS w [.ref a] H Q:=⟨a,ks,rfl,h,q⟩
theorem i_andS{a b:Addr}{ka kb:List Int}(ha:H a=some (setO w a ka))(hb:H b=some (setO w b kb))(hab:a≠b)(q:∀(l:Addr) (kr:List Int),H l=none→kr.Nodup→(∀x,x∈kr↔x∈ka∧x∈kb)→Q (.ref l) (upd H l (setO w l kr))):rAndS w (.ref a) (.ref b) H Q:=⟨a,b,ka,kb,rfl,rfl,ha,hb,hab,q⟩
theorem i_subS{a b:Addr}{ka kb:List Int}(ha:H a=some (setO w a ka))(hb:H b=some (setO w b kb))(hab:ka.length<64)(q:∀(l:Addr) (kr:List Int),H l=none→kr.Nodup→(∀x,x∈kr↔x∈ka∧x∉kb)→Q (.ref l) (upd H l (setO w l kr))):rSubS w (.ref a) (.ref b) H Q:=⟨a,b,ka,kb,rfl,rfl,ha,hb,hab,q⟩
end
section
variable{X:Cx}{pins:List (Addr×Obj)}{σ:St}{H:Hp}{s:Shared}
theorem reps_at{vs ws:List V}{ds:List Dt}{us zs:List Value}(h1:Reps H vs ds)(h2:Reps H ws ds)(r1:Vals vs us)(r2:Vals ws zs):us.length=zs.length∧∀j (a:j<us.length) (b:j<zs.length),∃(v w:V) (d:Dt),Rep H v d∧Rep H w d∧ds[j]?=some d∧RelV v us[j]∧RelV w zs[j]:=by
 have l1:=h1.length
 have l2:=h2.length
 have l3:=r1.length
 have l4:=r2.length
 refine⟨by omega,fun j a b=>?_⟩
 have e1:vs[j]?=some vs[j]:=List.getElem?_eq_getElem (by omega)
 have e2:ws[j]?=some ws[j]:=List.getElem?_eq_getElem (by omega)
 obtain⟨d,e3,p1⟩:=h1.get e1
 obtain⟨d',e4,p2⟩:=h2.get e2
 rw[e3]at e4
 cases e4
 obtain⟨u,e5,q1⟩:=Vals.get r1 e1
 obtain⟨z,e6,q2⟩:=Vals.get r2 e2
 rw[List.getElem?_eq_getElem a]at e5
 rw[List.getElem?_eq_getElem b]at e6
 cases e5;cases e6
 exact⟨_,_,d,p1,p2,e3,q1,q2⟩
theorem lstAt(I:Inv X pins σ H s){a:Addr}{vs:List V}(e:H a=some (.lst vs)):∃its:List Value,Vals vs its∧s.heap.IsList a its.toArray:=by
 obtain⟨_,its,n,r,h⟩:=(show ObjOk X.prog X.w H s.heap a (.lst vs)from I.hok a _ e)
 exact⟨its,r,⟨_,h,rfl,n,rfl⟩⟩
theorem tupAt(I:Inv X pins σ H s){a:Addr}{vs:List V}(e:H a=some (.tup vs)):∃its:List Value,Vals vs its∧s.heap.IsTuple a its.toArray:=by
 obtain⟨_,its,r,h⟩:=(show ObjOk X.prog X.w H s.heap a (.tup vs)from I.hok a _ e)
 exact⟨its,r,h⟩
theorem allT(n:Nat):((List.range n).all fun _=>true)=true:=by simp
theorem eqD(I:Inv X pins σ H s):∀(n:Nat) (A:Around) (x y:V) (u v:Value) (d:Dt),A.units+n<cLine→d.depth≤n→Rep H x d→Rep H y d→RelV x u→RelV y v→SeqAt.EqAt A s u v true
 |n,A,_,_,u,v,.int i,hu,hd,.int _,.int _,rx,ry=>by
  obtain⟨t,rfl⟩:=(show ∃t,u=Value.int i t from rx)
  obtain⟨t',rfl⟩:=(show ∃t,v=Value.int i t from ry)
  intro prog w E Q q
  exact wpAny_eqBool_int (by rw[beq_self_eq_true];exact q)
 |n,A,_,_,u,v,.bl b,hu,hd,.bl _,.bl _,rx,ry=>by
  cases(show u=Value.bool b from rx)
  cases(show v=Value.bool b from ry)
  exact .same _
 |n,A,_,_,u,v,.str i,hu,hd,.str _,.str _,rx,ry=>by
  obtain⟨t,rfl⟩:=(show ∃t,u=Value.str i t from rx)
  obtain⟨t',rfl⟩:=(show ∃t,v=Value.str i t from ry)
  intro prog w E Q q
  exact wpAny_eqBool_str (by rw[decide_eq_true rfl];exact q)
 |n,A,_,_,u,v,.non,hu,hd,.non,.non,rx,ry=>by
  cases(show u=Value.none from rx)
  cases(show v=Value.none from ry)
  exact .same _
 |0,A,_,_,u,v,.lst ds,hu,hd,_,_,rx,ry=>by simp[Dt.depth]at hd
 |0,A,_,_,u,v,.tup ds,hu,hd,_,_,rx,ry=>by simp[Dt.depth]at hd
 |n+1,A,_,_,u,v,.lst ds,hu,hd,.lst (a:=a) ea ra,.lst (a:=b) eb rb,rx,ry=>by
  cases(show u=Value.ref a from rx)
  cases(show v=Value.ref b from ry)
  by_cases hab:a=b
  ·subst hab;exact .same _
  ·obtain⟨us,r1,l1⟩:=lstAt I ea
   obtain⟨zs,r2,l2⟩:=lstAt I eb
   obtain⟨hl,hj⟩:=reps_at ra rb r1 r2
   have q:=SeqAt.RcAt.lists (A:=A) (e:=fun _=>true) l1 l2 (by simpa using hl) (by omega) fun j h1 h2=>by
    obtain⟨x',y',d',p1,p2,e3,q1,q2⟩:=hj j (by simpa using h1) (by simpa using h2)
    have hdd:=depth_le e3
    simp only[Dt.depth]at hd
    exact eqD I n A.in1 x' y' _ _ d' (by show A.units+1+n<_;omega) (by omega) p1 p2 (by simpa using q1) (by simpa using q2)
   rw[allT]at q
   exact .of_refs hab q
 |n+1,A,_,_,u,v,.tup ds,hu,hd,.tup (a:=a) ea ra,.tup (a:=b) eb rb,rx,ry=>by
  cases(show u=Value.ref a from rx)
  cases(show v=Value.ref b from ry)
  by_cases hab:a=b
  ·subst hab;exact .same _
  ·obtain⟨us,r1,l1⟩:=tupAt I ea
   obtain⟨zs,r2,l2⟩:=tupAt I eb
   obtain⟨hl,hj⟩:=reps_at ra rb r1 r2
   have q:=SeqAt.RcAt.tuples (A:=A) (e:=fun _=>true) l1 l2 (by omega) fun j h1 h2=>by
    obtain⟨x',y',d',p1,p2,e3,q1,q2⟩:=hj j (by simpa using h1) (by simpa using h2)
    have hdd:=depth_le e3
    simp only[Dt.depth]at hd
    exact eqD I n A.in1 x' y' _ _ d' (by show A.units+1+n<_;omega) (by omega) p1 p2 (by simpa using q1) (by simpa using q2)
   rw[allT,Bool.true_and,show(us.toArray.size==zs.toArray.size)=true by simpa using hl]at q
   exact .of_refs hab q
end
section
variable{X:Cx}
noncomputable def rAlike(b:Bool):R2:=fun x y H Q=>∃(p q:Addr) (d:Dt),x=.ref p∧y=.ref q∧Rep H x d∧Rep H y d∧d.depth≤40∧Q (.bl b) H
theorem op_neD(hu:X.A.units+64<cLine):OpR X (compareOp .NotEq) (rAlike false):=by
 intro pins s σ H x y v u Q I rx ry h
 obtain⟨p,q,d,rfl,rfl,h1,h2,hd,k⟩:=h
 cases(show v=Value.ref p from rx)
 cases(show u=Value.ref q from ry)
 cases d with
 |int i=>cases h1
 |bl i=>cases h1
 |str i=>cases h1
 |non=>cases h1
 |lst ds=>
  cases h1 with|lst ea ra=>cases h2 with|lst eb rb=>
  obtain⟨us,r1,l1⟩:=lstAt I ea
  obtain⟨zs,r2,l2⟩:=lstAt I eb
  obtain⟨hl,hj⟩:=reps_at ra rb r1 r2
  refine SeqAt.RcNeAt.lists (A:=X.A) (e:=fun _=>true) l1 l2 (by simpa using hl) (by omega) (fun j h1 h2=>?_) X.prog X.w _ _ ?_
  ·obtain⟨x',y',d',p1,p2,e3,q1,q2⟩:=hj j (by simpa using h1) (by simpa using h2)
   have hdd:=depth_le e3
   simp only[Dt.depth]at hd
   exact eqD I 40 X.A.in1 x' y' _ _ d' (by show X.A.units+1+40<_;omega) (by omega) p1 p2 (by simpa using q1) (by simpa using q2)
  ·rw[allT]
   exact⟨.bl false,H,I,rfl,k⟩
 |tup ds=>
  cases h1 with|tup ea ra=>cases h2 with|tup eb rb=>
  obtain⟨us,r1,l1⟩:=tupAt I ea
  obtain⟨zs,r2,l2⟩:=tupAt I eb
  obtain⟨hl,hj⟩:=reps_at ra rb r1 r2
  refine SeqAt.RcNeAt.tuples (A:=X.A) (e:=fun _=>true) l1 l2 (by omega) (fun j h1 h2=>?_) X.prog X.w _ _ ?_
  ·obtain⟨x',y',d',p1,p2,e3,q1,q2⟩:=hj j (by simpa using h1) (by simpa using h2)
   have hdd:=depth_le e3
   simp only[Dt.depth]at hd
   exact eqD I 40 X.A.in1 x' y' _ _ d' (by show X.A.units+1+40<_;omega) (by omega) p1 p2 (by simpa using q1) (by simpa using q2)
  ·rw[allT,Bool.true_and,show(us.toArray.size==zs.toArray.size)=true by simpa using hl]
   exact⟨.bl false,H,I,rfl,k⟩
theorem i_alike{b:Bool}{p q:Addr}{d:Dt}{H:Hp}{Q:VK}(h1:Rep H (.ref p) d)(h2:Rep H (.ref q) d)(hd:d.depth≤40)(k:Q (.bl b) H):rAlike b (.ref p) (.ref q) H Q:=⟨p,q,d,rfl,rfl,h1,h2,hd,k⟩
end
section
variable{σ:St}{H:Hp}{Q:VK}{K:W.Frag}{D:Ends}
noncomputable def ForT(J:It)(g:TG)(tb:TS)(D:Ends)(σ:St)(H1:Hp):Prop:=∃W:Nat→Nat→St→Hp→Prop,(∃m,W 0 m σ H1)∧∀i m σ H,W i m σ H→
 (J.stop i H∧D.nx σ H)∨(J.go i H∧∃N:St→Hp→Prop,(∀σ' H',N σ' H'→∃m',m'<m∧W (i+1) m' σ' H')∧∀x H',J.yld i H x H'→g x σ H' fun σ2 H2=>tb {D with nx:=N,ct:=N,bk:=D.nx} σ2 H2)
theorem i_for{wi:TI}{g:TG}{tb:TS}(q:wi σ H fun J H1=>ForT J g tb D σ H1):tFor wi g tb D σ H:=q
theorem forW{J:It}{g:TG}{tb:TS}(W:Nat→St→Hp→Prop)(n:Nat)(w0:W 0 σ H)(fin:∀σ' H',W n σ' H'→J.stop n H'∧D.nx σ' H')
  (step:∀i σ' H',i<n→W i σ' H'→J.go i H'∧∀x H2,J.yld i H' x H2→g x σ' H2 fun σ3 H3=>tb {D with nx:=W (i+1),ct:=W (i+1),bk:=D.nx} σ3 H3):ForT J g tb D σ H:=by
 refine⟨fun i m σ' H'=>i≤n∧m=n - i∧W i σ' H',⟨n,Nat.zero_le _,rfl,w0⟩,?_⟩
 rintro i m σ' H' ⟨hi,rfl,hw⟩
 rcases Nat.lt_or_ge i n with hlt|hge
 ·right
  obtain⟨g1,g2⟩:=step i σ' H' hlt hw
  exact⟨g1,W (i+1),fun σ2 H2 w2=>⟨n - (i+1),by omega,by omega,rfl,w2⟩,g2⟩
 ·left
  obtain rfl:i=n:=by omega
  exact fin _ _ hw
theorem compW{J:It}{g:TG}{tt:TT}{te:TE}{Fin:List V→Hp→Prop}(W:Nat→List V→St→Hp→Prop)(n:Nat)(w0:W 0 [] σ H)(fin:∀ys σ' H',W n ys σ' H'→J.stop n H'∧Fin ys H')
  (step:∀i ys σ' H',i<n→W i ys σ' H'→J.go i H'∧ys.length<sizeLine∧∀x H2,J.yld i H' x H2→g x σ' H2 fun σ3 H3=>tt σ3 H3 fun b H4=>if b=true then te σ3 H4 fun y H5=>∃m',m'<n - i∧(i+1≤n∧m'=n - (i+1)∧W (i+1) (ys++[y]) σ3 H5)else ∃m',m'<n - i∧(i+1≤n∧m'=n - (i+1)∧W (i+1) ys σ3 H4)):CompT J g tt te Fin σ H:=by
 refine⟨fun i m ys σ' H'=>i≤n∧m=n - i∧W i ys σ' H',⟨n,Nat.zero_le _,rfl,w0⟩,?_⟩
 rintro i m ys σ' H' ⟨hi,rfl,hw⟩
 rcases Nat.lt_or_ge i n with hlt|hge
 ·right
  exact step i ys σ' H' hlt hw
 ·left
  obtain rfl:i=n:=by omega
  exact fin _ _ _ hw
theorem nxt{n i:Nat}{A:Prop}(h:i<n)(a:A):∃m',m'<n - i∧(i+1≤n∧m'=n - (i+1)∧A):=⟨n - (i+1),by omega,h,rfl,a⟩
theorem i_bm{T:String}{r:V→List V→Hp→VK→Prop}{to:TE}{t:TA}(q:to σ H fun x H1=>tyV K T x H1∧t σ H1 fun xs H2=>r x xs H2 Q):tBM K T r to t σ H Q:=q
theorem i_app{l:Addr}{xs:List V}{y:V}(h:H l=some (.lst xs))(z:xs.length<sizeLine)(q:Q .non (upd H l (.lst (xs++[y])))):rAppend (.ref l) [y] H Q:=⟨l,xs,y,rfl,rfl,h,z,q⟩
theorem i_cat{a b:Addr}{xs zs:List V}(h1:H a=some (.lst xs))(h2:H b=some (.lst zs))(l:xs.length+zs.length≤sizeLine)(q:∀p,H p=none→Q (.ref p) (upd H p (.lst (xs++zs)))):rCat (.ref a) (.ref b) H Q:=⟨a,b,xs,zs,rfl,rfl,h1,h2,l,q⟩
theorem inV_int(z:Int):∀ns:List Int,inV (.int z) (ns.map V.int)=decide (z∈ns)
 |[]=>by simp[inV]
 |n::r=>by
  have ih:=inV_int z r
  unfold inV at ih⊢
  rw[List.map_cons,List.any_cons,ih]
  show((n==z)||decide (z∈r))=_
  by_cases e:n=z
  ·subst e;simp
  ·have e':¬z=n:=fun q=>e q.symm
   simp[e,e']
theorem flat_ints(ns:List Int):(ns.map V.int).all flatV=true:=by simp[flatV]
theorem i_inI{p:Addr}{ns:List Int}{z:Int}(h:SqL K H p (ns.map V.int))(q:Q (.bl (decide (z∈ns))) H):rIn K false (.int z) (.ref p) H Q:=by
 refine⟨p,_,rfl,.inl h,rfl,flat_ints ns,?_⟩
 rw[inV_int]
 exact q
theorem i_notInI{p:Addr}{ns:List Int}{z:Int}(h:SqL K H p (ns.map V.int))(q:Q (.bl (!decide (z∈ns))) H):rIn K true (.int z) (.ref p) H Q:=by
 refine⟨p,_,rfl,.inl h,rfl,flat_ints ns,?_⟩
 rw[inV_int]
 exact q
end
section
variable{X:Cx}{K:W.Frag}{o e:Expr}{es:List Expr}{to:TE}{t:TA}{apos cpos:Pos}
theorem mApp(h:X.K=K)(ho:PE X o to)(ha:PA X (e::es) t)
  (hbase:attributeBase o "append" X.env (eval o X.env)=eval o X.env:=by rfl)
  (hfew:((backTo cpos (starEach (e::es) X.env)).all (fun x=>!x.1) && (backToKw cpos (keywordEach [] X.env)).all (fun x=>x.1.isSome)
   && decide ((e::es).length+([]:List Keyword).length+(if([]:List Keyword).isEmpty then 0 else 1)<30))=true:=by rfl)
  (hline:(apos.endLine==cpos.line)=true:=by rfl) (hs:starEach (e::es) X.env=(false,eval e X.env)::starEach es X.env:=by rfl) (hplain:(backTo cpos (starEach es X.env)).any (·.1)=false:=by rfl):
  PE X (.Call (.Attribute o "append" apos) (e::es) [] cpos) (tBM K "list" rAppend to t):=by
 subst h
 exact pe_bm PySem.F.plainAttrs_list PySem.F.slot_list_append PySem.F.type_list_append mt_append ho ha hbase hfew hline hs hplain
end
noncomputable def Ris(rs:List Int)(P:Int→Prop):Prop:=rs.Pairwise (· < ·)∧∀x,x∈rs↔P x
theorem Ris.eq:∀{rs qs:List Int} {P:Int→Prop},Ris rs P→Ris qs P→rs=qs
 |[],[],_,_,_=>rfl
 |[],q::qs,P,h1,h2=>by
  have:=(h1.2 q).mpr ((h2.2 q).mp List.mem_cons_self)
  cases this
 |r::rs,[],P,h1,h2=>by
  have:=(h2.2 r).mpr ((h1.2 r).mp List.mem_cons_self)
  cases this
 |r::rs,q::qs,P,h1,h2=>by
  obtain⟨p1,m1⟩:=h1
  obtain⟨p2,m2⟩:=h2
  rw[List.pairwise_cons]at p1 p2
  have a1:r∈q::qs:=(m2 r).mpr ((m1 r).mp List.mem_cons_self)
  have a2:q∈r::rs:=(m1 q).mpr ((m2 q).mp List.mem_cons_self)
  have e:r=q:=by
   rcases List.mem_cons.mp a1 with z|z
   ·exact z
   ·rcases List.mem_cons.mp a2 with y|y
    ·exact y.symm
    ·have:=p2.1 r z
     have:=p1.1 q y
     omega
  subst e
  refine congrArg _ (Ris.eq (P:=fun x=>P x∧x≠r) ⟨p1.2,fun x=>?_⟩ ⟨p2.2,fun x=>?_⟩)
  ·constructor
   ·intro hx
    exact⟨(m1 x).mp (List.mem_cons_of_mem _ hx),fun z=>by have:=p1.1 x hx;omega⟩
   ·rintro⟨hx,hn⟩
    rcases List.mem_cons.mp ((m1 x).mpr hx)with z|z
    ·exact absurd z hn
    ·exact z
  ·constructor
   ·intro hx
    exact⟨(m2 x).mp (List.mem_cons_of_mem _ hx),fun z=>by have:=p2.1 x hx;omega⟩
   ·rintro⟨hx,hn⟩
    rcases List.mem_cons.mp ((m2 x).mpr hx)with z|z
    ·exact absurd z hn
    ·exact z
theorem nodup_le:∀{ks ns:List Int},ks.Nodup→(∀x∈ks,x∈ns)→ks.length≤ns.length
 |[],_,_,_=>Nat.zero_le _
 |k::r,ns,h,m=>by
  rw[List.nodup_cons]at h
  have hk:=m k List.mem_cons_self
  have:=nodup_le (ks:=r) (ns:=ns.erase k) h.2 fun x hx=>(List.mem_erase_of_ne (fun z=>h.1 (by rw[←z];exact hx))).mpr (m x (List.mem_cons_of_mem _ hx))
  rw[List.length_erase_of_mem hk]at this
  have hp:0<ns.length:=List.length_pos_of_mem hk
  rw[List.length_cons]
  omega
theorem Ris.nodup{rs:List Int}{P:Int→Prop}(h:Ris rs P):rs.Nodup:=h.1.imp (fun q z=>by omega)
theorem ris_of{ns ks:List Int}{P:Int→Prop}(p:ns.Perm ks)(s:ns.Pairwise (· ≤ ·))(n:ks.Nodup)(m:∀x,x∈ks↔P x):Ris ns P:=by
 refine⟨?_,fun x=>(p.mem_iff).trans (m x)⟩
 have nd:ns.Nodup:=p.nodup_iff.mpr n
 exact(s.and nd).imp fun⟨a,b⟩=>by omega
theorem Ris.le{rs ns:List Int}{P:Int→Prop}(h:Ris rs P)(m:∀x,P x→x∈ns):rs.length≤ns.length:=nodup_le h.nodup fun x hx=>m x ((h.2 x).mp hx)
theorem reps_ints{H:Hp}:∀ns:List Int,Reps H (ns.map V.int) (ns.map Dt.int)
 |[]=>.nil
 |n::r=>.cons (.int n) (reps_ints r)
theorem rep_ints{H:Hp}{p:Addr}{ns:List Int}(h:H p=some (.lst (ns.map V.int))):Rep H (.ref p) (.lst (ns.map Dt.int)):=.lst h (reps_ints ns)
theorem depths_ints:∀ns:List Int,depths (ns.map Dt.int)=0
 |[]=>rfl
 |n::r=>by show max 0 (depths (r.map Dt.int))=0;rw[depths_ints r];rfl
theorem wides_ints:∀ns:List Int,wides (ns.map Dt.int)=0
 |[]=>rfl
 |n::r=>by show max 0 (wides (r.map Dt.int))=0;rw[wides_ints r];rfl
theorem depth_ints(ns:List Int):(Dt.lst (ns.map Dt.int)).depth=1:=by show depths (ns.map Dt.int)+1=1;rw[depths_ints]
noncomputable def rangeI(lo:Int)(n:Nat):List Int:=(List.range n).map fun(k:Nat)=>lo+(k:Int)
theorem rangeI_length(lo:Int)(n:Nat):(rangeI lo n).length=n:=by simp[rangeI]
theorem rangeI_rises(lo:Int)(n:Nat):(rangeI lo n).Pairwise (· < ·):=by
 unfold rangeI
 rw[List.pairwise_map]
 exact List.pairwise_lt_range.imp fun h=>by omega
theorem vals_of_get:∀{xs:List V} {us:List Value},xs.length=us.length→(∀(k:Nat) x u,xs[k]?=some x→us[k]?=some u→RelV x u)→Vals xs us
 |[],[],_,_=>.nil
 |[],_::_,e,_=>by cases e
 |_::_,[],e,_=>by cases e
 |x::r,u::z,e,h=>.cons (h 0 x u rfl rfl) (vals_of_get (by simpa using e) fun k a b e1 e2=>h (k+1) a b (by simpa using e1) (by simpa using e2))
theorem erase_map{α β:Type}(f:α→β):∀(l:List α) (k:Nat),(l.map f).eraseIdx k=(l.eraseIdx k).map f
 |[],_=>rfl
 |_::_,0=>rfl
 |x::r,k+1=>by rw[List.map_cons,List.eraseIdx_cons_succ,List.eraseIdx_cons_succ,List.map_cons,erase_map f r k]
section
variable{X:Cx}{K:W.Frag}
noncomputable def rRng2:List V→Hp→VK→Prop:=fun xs H Q=>∃(i j:Int),xs=[.int i,.int j]∧∀l,H l=none→Q (.ref l) (upd H l (.rng i j))
theorem cRng2:CallR X (.type "range") rRng2:=by
 intro pins s σ H xs us Q I r h
 obtain⟨i,j,rfl,q⟩:=h
 obtain⟨u,w',rfl,⟨t,rfl⟩,⟨t',rfl⟩⟩:=vals2 r
 refine call_range_2 ?_
 exact⟨.ref s.heap.objs.size,_,I.laid (t':=s.toks+1) (o:=.rng i j) (fun b ob q=>Heap.get?_push_of_some _ q) (Nat.le_refl _) ⟨_,_,_,Heap.get?_push_size _ rfl⟩,rfl,q _ (I.hok.fresh (Nat.le_refl _))⟩
noncomputable def rListRng:List V→Hp→VK→Prop:=fun xs H Q=>∃(p:Addr) (i j:Int),xs=[.ref p]∧H p=some (.rng i j)∧ -(2 ^ 62)≤i∧j<2 ^ 62∧i≤2 ^ 61∧ -(2 ^ 61)≤j∧(j - i).toNat≤1000∧∀l,H l=none→Q (.ref l) (upd H l (.lst ((rangeI i (j - i).toNat).map V.int)))
theorem cListRng(hc:X.calm=true):CallR X (.type "list") rListRng:=by
 intro pins s σ H xs us Q I r h
 obtain⟨p,i,j,rfl,hp,h1,h2,h3,h4,hn,q⟩:=h
 obtain⟨u,rfl,rx⟩:=vals1 r
 cases rx
 obtain⟨t,u',v,hg⟩:=I.hok p _ hp
 have hs:Builtin.Range.rangeSize i j 1=(((j - i).toNat:Nat):Int):=by rw[rangeSize_one];split<;>omega
 refine call_list_range (n:=(j - i).toNat) (I.ok.hd hc) hg (small_one h1 (by omega) (by omega) h2) hs (by omega) fun h' tk acc c old hL items=>?_
 refine⟨.ref s.heap.objs.size,_,I.laid (t':=tk) (o:=.lst ((rangeI i (j - i).toNat).map V.int)) old (Nat.le_refl _) ⟨?_,acc.toList,c,?_,by simpa using hL⟩,rfl,q _ (I.hok.fresh (Nat.le_refl _))⟩
 ·rw[List.length_map,rangeI_length]
  exact Nat.le_trans hn (by decide)
 ·refine vals_of_get (by rw[List.length_map,rangeI_length];exact items.1.symm) fun k x v e1 e2=>?_
  obtain⟨t2,rfl⟩:=items.2 k v (by simpa using e2)
  have hk:k<(j - i).toNat:=by
   rcases Nat.lt_or_ge k (j - i).toNat with q|q
   ·exact q
   ·rw[List.getElem?_eq_none (by rw[List.length_map,rangeI_length];exact q)]at e1;cases e1
  have e3:((rangeI i (j - i).toNat).map V.int)[k]?=some (.int (i+(k:Int))):=by simp[rangeI,List.getElem?_range hk]
  rw[e3]at e1
  cases e1
  exact⟨t2,by rw[Int.mul_one]⟩
noncomputable def rMax2:List V→Hp→VK→Prop:=fun xs H Q=>∃i j,xs=[.int i,.int j]∧Q (.int (if j >i then j else i)) H
noncomputable def rMin2:List V→Hp→VK→Prop:=fun xs H Q=>∃i j,xs=[.int i,.int j]∧Q (.int (if j<i then j else i)) H
noncomputable def rInt1:List V→Hp→VK→Prop:=fun xs H Q=>(∃i,xs=[.int i]∧Q (.int i) H)∨∃k,xs=[.bl k]∧Q (.int (if k then 1 else 0)) H
theorem cMax2(hc:X.calm=true):CallR X (.builtin "max") rMax2:=call_max2 hc
theorem cMin2(hc:X.calm=true):CallR X (.builtin "min") rMin2:=call_min2 hc
theorem cInt1:CallR X (.type "int") rInt1:=call_int1
end
section
variable{X:Cx}{K:W.Frag}{o e:Expr}{es:List Expr}{to:TE}{t:TA}{apos cpos:Pos}
theorem mPopAt(h:X.K=K)(ho:PE X o to)(ha:PA X (e::es) t)
  (hbase:attributeBase o "pop" X.env (eval o X.env)=eval o X.env:=by rfl)
  (hfew:((backTo cpos (starEach (e::es) X.env)).all (fun x=>!x.1) && (backToKw cpos (keywordEach [] X.env)).all (fun x=>x.1.isSome)
   && decide ((e::es).length+([]:List Keyword).length+(if([]:List Keyword).isEmpty then 0 else 1)<30))=true:=by rfl)
  (hline:(apos.endLine==cpos.line)=true:=by rfl) (hs:starEach (e::es) X.env=(false,eval e X.env)::starEach es X.env:=by rfl) (hplain:(backTo cpos (starEach es X.env)).any (·.1)=false:=by rfl):
  PE X (.Call (.Attribute o "pop" apos) (e::es) [] cpos) (tBM K "list" rPopAt to t):=by
 subst h
 exact pe_bm PySem.F.plainAttrs_list PySem.F.slot_list_pop PySem.F.type_list_pop mt_popAt ho ha hbase hfew hline hs hplain
theorem mExt(h:X.K=K)(ho:PE X o to)(ha:PA X (e::es) t)
  (hbase:attributeBase o "extend" X.env (eval o X.env)=eval o X.env:=by rfl)
  (hfew:((backTo cpos (starEach (e::es) X.env)).all (fun x=>!x.1) && (backToKw cpos (keywordEach [] X.env)).all (fun x=>x.1.isSome)
   && decide ((e::es).length+([]:List Keyword).length+(if([]:List Keyword).isEmpty then 0 else 1)<30))=true:=by rfl)
  (hline:(apos.endLine==cpos.line)=true:=by rfl) (hs:starEach (e::es) X.env=(false,eval e X.env)::starEach es X.env:=by rfl) (hplain:(backTo cpos (starEach es X.env)).any (·.1)=false:=by rfl):
  PE X (.Call (.Attribute o "extend" apos) (e::es) [] cpos) (tBM K "list" rExtend to t):=by
 subst h
 exact pe_bm PySem.F.plainAttrs_list PySem.F.slot_list_extend PySem.F.type_list_extend mt_extend ho ha hbase hfew hline hs hplain
end
section
variable{σ:St}{H:Hp}{Q:VK}{K:W.Frag}
theorem i_rng2{i j:Int}(q:∀l,H l=none→Q (.ref l) (upd H l (.rng i j))):rRng2 [.int i,.int j] H Q:=⟨i,j,rfl,q⟩
theorem i_listRng{p:Addr}{i j:Int}(h:H p=some (.rng i j))(h1: -(2 ^ 61)≤i)(h2:i≤2 ^ 61)(h3: -(2 ^ 61)≤j)(h4:j≤2 ^ 61)(hn:(j - i).toNat≤1000)(q:∀l,H l=none→Q (.ref l) (upd H l (.lst ((rangeI i (j - i).toNat).map V.int)))):rListRng [.ref p] H Q:=
 ⟨p,i,j,rfl,h,by omega,by omega,h2,h3,hn,q⟩
theorem i_max2{i j:Int}(q:Q (.int (if j >i then j else i)) H):rMax2 [.int i,.int j] H Q:=⟨i,j,rfl,q⟩
theorem i_min2{i j:Int}(q:Q (.int (if j<i then j else i)) H):rMin2 [.int i,.int j] H Q:=⟨i,j,rfl,q⟩
theorem i_intB{k:Bool}(q:Q (.int (if k then 1 else 0)) H):rInt1 [.bl k] H Q:=.inr ⟨k,rfl,q⟩
theorem i_popAt{l:Addr}{ns:List Int}{k:Nat}(h:H l=some (.lst (ns.map V.int)))(hk:k<ns.length)(hl:ns.length≤1000)(q:Q (.int ns[k]) (upd H l (.lst ((ns.eraseIdx k).map V.int)))):rPopAt (.ref l) [.int k] H Q:=by
 refine⟨l,_,k,k,.int ns[k],rfl,rfl,h,by omega,by omega,?_,?_,?_⟩
 ·exact PySem.StrLaws.seqIndex_nonneg (by omega) (by rw[List.length_map];omega)
 ·rw[List.getElem?_map,List.getElem?_eq_getElem hk];rfl
 ·rw[erase_map];exact q
theorem i_ext{l b:Addr}{xs zs:List V}(h1:H l=some (.lst xs))(h2:H b=some (.lst zs))(z:xs.length+zs.length≤sizeLine)(q:Q .non (upd H l (.lst (xs++zs)))):rExtend (.ref l) [.ref b] H Q:=⟨l,b,xs,zs,rfl,rfl,h1,h2,z,q⟩
end
section
variable{X:Cx}
noncomputable def rEqI(neg:Bool):R2:=fun x y H Q=>∃(p q:Addr) (ns ms:List Int),x=.ref p∧y=.ref q∧H p=some (.lst (ns.map V.int))∧H q=some (.lst (ms.map V.int))∧Q (.bl (if neg then !decide (ns=ms)else decide (ns=ms))) H
theorem all_eqI{ns ms:List Int}(h:ns.length=ms.length):((List.range ns.length).all fun j=>decide (ns[j]?=ms[j]?))=decide (ns=ms):=by
 by_cases e:ns=ms
 ·subst e;simp
 ·rw[decide_eq_false e]
  rw[Bool.eq_false_iff]
  intro z
  apply e
  rw[List.all_eq_true]at z
  apply List.ext_getElem?
  intro j
  rcases Nat.lt_or_ge j ns.length with q|q
  ·exact of_decide_eq_true (z j (List.mem_range.mpr q))
  ·rw[List.getElem?_eq_none q,List.getElem?_eq_none (by omega)]
theorem eq_items{A:Around}{s:Shared}{ns ms:List Int}{us zs:List Value}(r1:Vals (ns.map V.int) us)(r2:Vals (ms.map V.int) zs)(j:Nat)(h1:j<us.length)(h2:j<zs.length):SeqAt.EqAt A s us[j] zs[j] (decide (ns[j]?=ms[j]?)):=by
 have l1:=r1.length
 have l2:=r2.length
 rw[List.length_map]at l1 l2
 obtain⟨u,e1,q1⟩:=r1.get (i:=j) (x:=.int (ns[j]'(by omega))) (by rw[List.getElem?_map,List.getElem?_eq_getElem (by omega)];rfl)
 obtain⟨z,e2,q2⟩:=r2.get (i:=j) (x:=.int (ms[j]'(by omega))) (by rw[List.getElem?_map,List.getElem?_eq_getElem (by omega)];rfl)
 rw[List.getElem?_eq_getElem h1]at e1
 rw[List.getElem?_eq_getElem h2]at e2
 cases e1;cases e2
 have q:=eqAt_V (A:=A) (s:=s) q1 q2 rfl rfl
 rw[List.getElem?_eq_getElem (show j<ns.length by omega),List.getElem?_eq_getElem (show j<ms.length by omega)]
 have e:eqV (.int (ns[j]'(by omega))) (.int (ms[j]'(by omega)))=decide (some (ns[j]'(by omega))=some (ms[j]'(by omega))):=by
  show(ns[j]'(by omega)==ms[j]'(by omega))=_
  by_cases z:ns[j]'(by omega)=ms[j]'(by omega)
  ·simp[z]
  ·simp[z]
 rw[e]at q
 exact q
theorem op_eqI(hu:X.A.units+64<cLine):OpR X (compareOp .Eq) (rEqI false):=by
 intro pins s σ H x y v u Q I rx ry h
 obtain⟨p,q,ns,ms,rfl,rfl,h1,h2,k⟩:=h
 cases(show v=Value.ref p from rx)
 cases(show u=Value.ref q from ry)
 obtain⟨us,r1,l1⟩:=lstAt I h1
 obtain⟨zs,r2,l2⟩:=lstAt I h2
 have e1:=r1.length
 have e2:=r2.length
 rw[List.length_map]at e1 e2
 by_cases hl:ns.length=ms.length
 ·refine SeqAt.RcAt.lists (A:=X.A) (e:=fun j=>decide (ns[j]?=ms[j]?)) l1 l2 (by simp;omega) (by omega) (fun j h1 h2=>?_) X.prog X.w _ _ ?_
  ·simpa using eq_items (A:=X.A.in1) (s:=s) r1 r2 j (by simpa using h1) (by simpa using h2)
  ·rw[List.size_toArray,←e1,all_eqI hl]
   exact⟨.bl _,H,I,rfl,k⟩
 ·refine SeqAt.RcAt.lists_lengths l1 l2 (by simp;omega) (by omega) X.prog X.w _ _ ?_
  have e:decide (ns=ms)=false:=decide_eq_false fun z=>hl (by rw[z])
  refine⟨.bl false,H,I,rfl,?_⟩
  rw[if_neg (by decide),e]at k
  exact k
theorem op_neI(hu:X.A.units+64<cLine):OpR X (compareOp .NotEq) (rEqI true):=by
 intro pins s σ H x y v u Q I rx ry h
 obtain⟨p,q,ns,ms,rfl,rfl,h1,h2,k⟩:=h
 cases(show v=Value.ref p from rx)
 cases(show u=Value.ref q from ry)
 obtain⟨us,r1,l1⟩:=lstAt I h1
 obtain⟨zs,r2,l2⟩:=lstAt I h2
 have e1:=r1.length
 have e2:=r2.length
 rw[List.length_map]at e1 e2
 by_cases hl:ns.length=ms.length
 ·refine SeqAt.RcNeAt.lists (A:=X.A) (e:=fun j=>decide (ns[j]?=ms[j]?)) l1 l2 (by simp;omega) (by omega) (fun j h1 h2=>?_) X.prog X.w _ _ ?_
  ·simpa using eq_items (A:=X.A.in1) (s:=s) r1 r2 j (by simpa using h1) (by simpa using h2)
  ·rw[List.size_toArray,←e1,all_eqI hl]
   exact⟨.bl _,H,I,rfl,k⟩
 ·refine SeqAt.RcNeAt.lists_lengths l1 l2 (by simp;omega) (by omega) X.prog X.w _ _ ?_
  have e:decide (ns=ms)=false:=decide_eq_false fun z=>hl (by rw[z])
  refine⟨.bl true,H,I,rfl,?_⟩
  rw[if_pos rfl,e]at k
  exact k
noncomputable def rLens(b:Bool):R2:=fun x y H Q=>∃(p q:Addr) (xs ys:List V),x=.ref p∧y=.ref q∧H p=some (.lst xs)∧H q=some (.lst ys)∧xs.length≠ys.length∧Q (.bl b) H
theorem op_neLens(hu:X.A.units+64<cLine):OpR X (compareOp .NotEq) (rLens true):=by
 intro pins s σ H x y v u Q I rx ry h
 obtain⟨p,q,xs,ys,rfl,rfl,h1,h2,hn,k⟩:=h
 cases(show v=Value.ref p from rx)
 cases(show u=Value.ref q from ry)
 obtain⟨us,r1,l1⟩:=lstAt I h1
 obtain⟨zs,r2,l2⟩:=lstAt I h2
 have e1:=r1.length
 have e2:=r2.length
 refine SeqAt.RcNeAt.lists_lengths l1 l2 (by simp;omega) (by omega) X.prog X.w _ _ ?_
 exact⟨.bl true,H,I,rfl,k⟩
theorem i_eqI{neg:Bool}{H:Hp}{Q:VK}{p q:Addr}{ns ms:List Int}(h1:H p=some (.lst (ns.map V.int)))(h2:H q=some (.lst (ms.map V.int)))(k:Q (.bl (if neg then !decide (ns=ms)else decide (ns=ms))) H):rEqI neg (.ref p) (.ref q) H Q:=⟨p,q,ns,ms,rfl,rfl,h1,h2,k⟩
end
theorem bb_min:bootBuiltins "min"=some (.builtin "min"):=by decide+kernel
theorem bb_max:bootBuiltins "max"=some (.builtin "max"):=by decide+kernel
theorem bb_range:bootBuiltins "range"=some (.type "range"):=by decide+kernel
theorem bb_sum:bootBuiltins "sum"=some (.builtin "sum"):=by decide+kernel
theorem bb_enumerate:bootBuiltins "enumerate"=some (.type "enumerate"):=by decide+kernel
structure BltM(mg:Str→Option Value):Prop extends Blt mg where
 z_min:mg "min"=none
 z_max:mg "max"=none
 z_sum:mg "sum"=none
 z_enumerate:mg "enumerate"=none
section
variable{K:W.Frag}
theorem filterL{a:Addr}{rs:List Int}{f:Int→Bool}{tt:TT}{H1:Hp}{Fin:List V→Hp→Prop}{σ0:List (Option V)}(hl:rs.length≤1000)
  (ha:SqL K H1 a (rs.map V.int)) (htt:∀z R,R (f z) H1→tt (some (.int z)::σ0) H1 R) (fin:Fin ((rs.filter f).map V.int) H1):
  CompT (Itl K a) (gName 0) tt (tVar 0) Fin (none::σ0) H1:=by
 refine compW (fun i ys σ' H'=>(∃x,σ'=x::σ0)∧H'=H1∧ys=((rs.take i).filter f).map V.int) rs.length ⟨⟨none,rfl⟩,rfl,rfl⟩ ?_ ?_
 ·rintro ys σ' H' ⟨_,rfl,rfl⟩
  refine⟨⟨_,ha,by rw[List.length_map];exact Nat.le_refl _⟩,?_⟩
  rw[List.take_of_length_le (Nat.le_refl _)]
  exact fin
 ·rintro i ys σ' H' hi ⟨⟨x0,rfl⟩,rfl,rfl⟩
  have hx:(rs.map V.int)[i]?=some (.int rs[i]):=by rw[List.getElem?_map,List.getElem?_eq_getElem hi];rfl
  have hle:((rs.take i).filter f).length≤1000:=Nat.le_trans (List.length_filter_le _ _) (by rw[List.length_take];omega)
  refine⟨⟨_,_,ha,hx⟩,Nat.lt_of_lt_of_le (show _<1001 by rw[List.length_map];omega) (by decide),?_⟩
  rintro x H6 ⟨rfl,hy⟩
  have e:=hy _ ha
  rw[hx]at e
  cases e
  refine i_name ?_
  refine htt _ _ ?_
  have et:rs.take (i+1)=rs.take i++[rs[i]]:=by rw[List.take_succ,List.getElem?_eq_getElem hi];rfl
  cases hf:f rs[i]with
  |true=>
   refine iteT ?_
   refine i_var (v:=.int rs[i]) rfl ?_
   refine nxt hi ⟨⟨_,rfl⟩,rfl,?_⟩
   rw[et,List.filter_append,List.filter_cons,hf]
   simp
  |false=>
   refine iteF ?_
   refine nxt hi ⟨⟨_,rfl⟩,rfl,?_⟩
   rw[et,List.filter_append,List.filter_cons,hf]
   simp
theorem filterR{lo:Int}{n:Nat}{f:Int→Bool}{tt:TT}{H1:Hp}{Fin:List V→Hp→Prop}{σ0:List (Option V)}(hl:n≤1000)
  (htt:∀z R,R (f z) H1→tt (some (.int z)::σ0) H1 R) (fin:Fin (((rangeI lo n).filter f).map V.int) H1):
  CompT (Itr lo n) (gName 0) tt (tVar 0) Fin (none::σ0) H1:=by
 have hlr:=rangeI_length lo n
 refine compW (fun i ys σ' H'=>(∃x,σ'=x::σ0)∧H'=H1∧ys=(((rangeI lo n).take i).filter f).map V.int) n ⟨⟨none,rfl⟩,rfl,rfl⟩ ?_ ?_
 ·rintro ys σ' H' ⟨_,rfl,rfl⟩
  refine⟨Nat.le_refl _,?_⟩
  rw[List.take_of_length_le (by omega)]
  exact fin
 ·rintro i ys σ' H' hi ⟨⟨x0,rfl⟩,rfl,rfl⟩
  have hle:(((rangeI lo n).take i).filter f).length≤1000:=Nat.le_trans (List.length_filter_le _ _) (by rw[List.length_take];omega)
  refine⟨hi,Nat.lt_of_lt_of_le (show _<1001 by rw[List.length_map];omega) (by decide),?_⟩
  rintro x H6 ⟨rfl,rfl⟩
  refine i_name ?_
  refine htt _ _ ?_
  have et:(rangeI lo n).take (i+1)=(rangeI lo n).take i++[lo+(i:Int)]:=by rw[List.take_succ];simp[rangeI,List.getElem?_range hi]
  cases hf:f (lo+(i:Int))with
  |true=>
   refine iteT ?_
   refine i_var (v:=.int (lo+(i:Int))) rfl ?_
   refine nxt hi ⟨⟨_,rfl⟩,rfl,?_⟩
   rw[et,List.filter_append,List.filter_cons,hf]
   simp
  |false=>
   refine iteF ?_
   refine nxt hi ⟨⟨_,rfl⟩,rfl,?_⟩
   rw[et,List.filter_append,List.filter_cons,hf]
   simp
end
theorem i_rngB{σ:St}{H:Hp}{ta:TA}{N:It→Hp→Prop}(q:ta σ H fun vs H1=>∃i j:Int,vs=[.int i,.int j]∧(-(2 ^ 62)≤i∧i<2 ^ 62∧ -(2 ^ 62)≤j∧j<2 ^ 62)∧N (Itr i (j - i).toNat) H1):iRng2 ta σ H N:=q
noncomputable def uniq:List Int→List Int
 |[]=>[]
 |x::r=>if x∈uniq r then uniq r else x::uniq r
theorem mem_uniq{x:Int}:∀{ns:List Int},x∈uniq ns↔x∈ns
 |[]=>Iff.rfl
 |y::r=>by
  have ih:=@mem_uniq x r
  unfold uniq
  split
  ·rename_i h
   rw[ih,List.mem_cons]
   constructor
   ·exact .inr
   ·rintro(rfl|q)
    ·exact mem_uniq.mp h
    ·exact q
  ·rw[List.mem_cons,List.mem_cons,ih]
theorem nodup_uniq:∀{ns:List Int},(uniq ns).Nodup
 |[]=>List.nodup_nil
 |y::r=>by
  unfold uniq
  split
  ·exact nodup_uniq
  ·rename_i h
   exact List.nodup_cons.mpr ⟨h,nodup_uniq⟩
theorem nodup_len{ks js:List Int}(h1:ks.Nodup)(h2:js.Nodup)(m:∀x,x∈ks↔x∈js):ks.length=js.length:=
 Nat.le_antisymm (nodup_le h1 fun x hx=>(m x).mp hx) (nodup_le h2 fun x hx=>(m x).mpr hx)
noncomputable def cnt(ns:List Int):Nat:=(uniq ns).length
noncomputable def cntB(ns ms:List Int):Nat:=((uniq ns).filter fun x=>decide (x∈ms)).length
theorem cnt_of{ks ns:List Int}(h:ks.Nodup)(m:∀x,x∈ks↔x∈ns):ks.length=cnt ns:=nodup_len h nodup_uniq fun x=>(m x).trans mem_uniq.symm
theorem cntB_of{ks ns ms:List Int}(h:ks.Nodup)(m:∀x,x∈ks↔x∈ns∧x∈ms):ks.length=cntB ns ms:=nodup_len h (nodup_uniq.filter _) fun x=>by
 rw[m x,List.mem_filter,mem_uniq,decide_eq_true_iff]
theorem cnt_le(ns:List Int):cnt ns≤ns.length:=nodup_le nodup_uniq fun x hx=>mem_uniq.mp hx
theorem cntB_le(ns ms:List Int):cntB ns ms≤cnt ns:=List.length_filter_le _ _
theorem cnt_congr{ns ms:List Int}(m:∀x,x∈ns↔x∈ms):cnt ns=cnt ms:=cnt_of nodup_uniq fun x=>mem_uniq.trans (m x)
theorem cntB_congr{ns ms ns' ms':List Int}(m:∀x,x∈ns↔x∈ns')(n:∀x,x∈ms↔x∈ms'):cntB ns ms=cntB ns' ms':=cntB_of (nodup_uniq.filter _) fun x=>by
 rw[List.mem_filter,mem_uniq,decide_eq_true_iff,m x,n x]
theorem cntB_symm(ns ms:List Int):cntB ns ms=cntB ms ns:=cntB_of (nodup_uniq.filter _) fun x=>by
 rw[List.mem_filter,mem_uniq,decide_eq_true_iff];exact And.comm
noncomputable def likeB(ns ms:List Int):Bool:=decide (cnt ns<2*cntB ns ms) && decide (cnt ms<2*cntB ns ms)
section
variable{X:Cx}
end
section
variable{X:Cx}{K:W.Frag}{o e:Expr}{es:List Expr}{to:TE}{t:TA}{apos cpos:Pos}
end
section
variable{σ:St}{H:Hp}{Q:VK}
end
theorem sub_tuple_set0:isSubtype (.type "tuple") (.type "set")=pure false:=by rw[isSubtype_type];kernel_rfl
theorem sub_tuple_frozenset0:isSubtype (.type "tuple") (.type "frozenset")=pure false:=by rw[isSubtype_type];kernel_rfl
section
variable{prog:Program}{w:World}{A:Around}{E:Value→Shared→Prop}{s:Shared}
theorem update_loopGT{R:Result→Shared→Prop}{I S l:Addr}{items:Array Value}{ns:List Int}(hh:A.in1.handled=none)(hi:IntsAre items.toList ns)(hb:items.size+1<scanBound)(n1:S≠I)(n2:S≠l)(n3:l≠I):
  ∀(k i:Nat) (s:Shared) (ks:List Int),items.size - i=k→i≤items.size→s.heap.IsTupleIter I l i→s.heap.IsTuple l items→SetG w s.heap S ks→ks.length≤i→(∀x,x∈ks↔x∈ns.take i)→
   (∀h' tk ks',(∀b o,b≠S→b≠I→s.heap.get? b=some o→h'.get? b=some o)→SetG w h' S ks'→(∀x,x∈ks'↔x∈ns)→R (.ok (.ret .none)) {s with heap:=h',toks:=tk})→
   codeAny (model prog w) A (.builtin "set.update.loop" ⟨[.ref S,.ref I],[]⟩) R s:=by
 have hlen:items.size=ns.length:=by have:=IntsAre.length hi;simpa using this
 intro k
 induction k with
 |zero=>
  intro i s ks hk hle hit hl hS hlk hm hR
  have hin:i=items.size:=by omega
  subst hin
  refine codeAny_builtin PyProof.Rows.F.entry_set_update_loop ?_
  rw[Around.under_plainId PyProof.Rows.F.plain_set_update_loop _]
  show wpAny _ A.in1 (pyNext (.ref I) >>=_) _ _ s
  refine wpAny_bind (wpAny_pyNext_tuple_end hh hit hl (by simp) fun h' eb=>?_)
  show wpAny _ A.in1 (ret Value.none) _ _ _
  refine wpAny_pure (hR h' s.toks ks (fun b o _ b2 e=>eb b o b2 e) (hS.at fun o e=>eb _ _ n1 e) fun x=>?_)
  rw[hm x,hlen,List.take_length]
 |succ k ih=>
  intro i s ks hk hle hit hl hS hlk hm hR
  have hlt:i<items.size:=by omega
  obtain⟨t,hv⟩:=IntsAre.int_at hi i items[i] (by simp[hlt])
  have hgd:ns.getD i 0=ns[i]'(by omega):=by simp[List.getD_eq_getElem?_getD,show i<ns.length by omega]
  refine codeAny_builtin PyProof.Rows.F.entry_set_update_loop ?_
  rw[Around.under_plainId PyProof.Rows.F.plain_set_update_loop _]
  show wpAny _ A.in1 (pyNext (.ref I) >>=_) _ _ s
  refine wpAny_bind (wpAny_pyNext_tuple_item hit hl (x:=items[i]) (by simp[hlt]) fun h1 hit1 sb1=>?_)
  have hS1:SetG w h1 S ks:=hS.at fun o e=>sb1.extBut _ _ n1 e
  show wpAny _ A.in1 (holding [items[i]] (setAdd S items[i]) >>=_) _ _ _
  rw[hv]
  refine wpAny_bind (wpAny_holding ?_)
  unfold setAdd
  refine wpAny_holding ?_
  refine wpAny_bind ((intKind prog w).pyHash (k:=ns.getD i 0) (intKind_is _ _ _ _) ?_)
  refine setAddG (s:={s with heap:=h1,toks:=s.toks+1}) hS1 (by omega) fun h2 ks2 sb2 hS2 p2=>?_
  have hm2:∀x,x∈ks2↔x∈ns.take (i+1):=fun x=>by
   rw[p2.mem_iff,List.take_add_one,List.mem_append,←hm x,show ns[i]?=some (ns.getD i 0) by rw[hgd];exact List.getElem?_eq_getElem _]
   split
   ·rename_i hin
    simp only[Option.toList_some,List.mem_singleton]
    exact⟨.inl,fun z=>z.elim id fun e=>e▸hin⟩
   ·simp only[List.mem_cons,Option.toList_some,List.mem_singleton,List.not_mem_nil,or_false]
    exact Or.comm
  have hl2:ks2.length≤i+1:=by
   rw[p2.length_eq]
   split
   ·omega
   ·rw[List.length_cons];omega
  refine wpAny_pure ⟨plainId_quiet PyProof.Rows.F.plain_set_update_loop _,ih (i+1) _ ks2 (by omega) hlt ?_ ?_ hS2 hl2 hm2 fun h' tk ks' kp hS' hm'=>?_⟩
  ·(obtain⟨o,ho,r⟩:=hit1;exact⟨o,sb2.extBut _ _ (Ne.symm n1) ho,r⟩)
  ·(obtain⟨o,ho,r⟩:=hl;exact⟨o,sb2.extBut _ _ (Ne.symm n2) (sb1.extBut _ _ n3 ho),r⟩)
  ·exact hR h' tk ks' (fun b o b1 b2 e=>kp b o b1 b2 (sb2.extBut _ _ b1 (sb1.extBut _ _ b2 e))) hS' hm'
set_option maxHeartbeats 8000000 in
theorem set_tupleG{l:Addr}{items:Array Value}{ns:List Int}{Q:Value→Shared→Prop}(hh:A.handled=none)(hl:s.heap.IsTuple l items)(hi:IntsAre items.toList ns)(hb:items.size+1<scanBound)
  (h:∀(h':Heap) (tk:Nat) (ks:List Int),SetG w h' s.heap.objs.size ks→(∀x,x∈ks↔x∈ns)→(∀b o,b<s.heap.objs.size→s.heap.get? b=some o→h'.get? b=some o)→Q (.ref s.heap.objs.size) {s with heap:=h',toks:=tk}):
  wpAny (model prog w) A (call (.type "set") [.ref l]) Q E s:=by
 obtain⟨c,tl,hmro⟩:=PySem.F.called_set.mro
 have hmade:=PySem.F.called_set.made
 have hsub:=PySem.F.called_set.sub
 refine wpAny_call (codeAny_of_tree ?_)
 show wpAny _ _ (callAny (.type "set") _) _ _ _
 refine wpAny_pure ⟨Code.quiet_builtin _ (by decide+kernel),codeAny_builtin PySem.F.entry_type_call ?_⟩
 rw[Around.under_plain (weight_type_call_type "set" [.ref l] []) rfl]
 have h1:=PySem.F.called_set.notType
 have h2:=PySem.F.called_set.canCreate
 have hct:=PySem.F.typeCall_set_1 (.ref l)
 repeat (any_goals (first|assumption|wp_step))
 refine codeAny_mono (set_new_G (w:=w) (.ref l) (E:=E) (Q₁:=fun obj s₁=>obj=.ref s.heap.objs.size∧s₁={s with heap:=s.heap.push {cls:=.type "set",dict:=none,data:=.set #[] 0 (.fresh 0 0 (!bt w))}}) ⟨rfl,rfl⟩) fun r s₁ hr=>?_
 cases r with
 |error e=>exact hr
 |ok fl=>
  cases fl with
  |ret obj=>
   obtain⟨rfl,rfl⟩:=hr
   generalize hled:(!bt w)=led
   have hS:(s.heap.push {cls:=.type "set",dict:=none,data:=.set #[] 0 (.fresh 0 0 led)}).get? s.heap.objs.size=some {cls:=.type "set",dict:=none,data:=.set #[] 0 (.fresh 0 0 led)}:=Heap.get?_push_size _ rfl
   have hT:Shared.TypeIs {s with heap:=s.heap.push {cls:=.type "set",dict:=none,data:=.set #[] 0 (.fresh 0 0 led)}} (.ref s.heap.objs.size) "set":=⟨_,hS,rfl⟩
   have hli:=PySem.F.called_set.init.lookup
   have hbi:=PySem.F.called_set.init.bind (.ref s.heap.objs.size)
   repeat (any_goals (first|assumption|wp_step))
   refine codeAny_mono (codeAny_call_builtin (R:=wants (fun r s₂=>r=.none∧∃h' tk ks,s₂={s with heap:=h',toks:=tk}∧SetG w h' s.heap.objs.size ks∧(∀x,x∈ks↔x∈ns)∧
     (∀b o,b<s.heap.objs.size→s.heap.get? b=some o→h'.get? b=some o)) E) PySem.F.called_set.init.plain PySem.F.entry_set_init (check_set_init_1 hT ?_)) fun r₂ s₂ hr₂=>?_
   ·obtain⟨ol,hol,hcl,nl,hdl⟩:=hl
    obtain⟨ocls,odict,odata,oslots⟩:=ol
    simp only at hcl hdl
    subst hcl;subst hdl
    have hol':(s.heap.push {cls:=.type "set",dict:=none,data:=.set #[] 0 (.fresh 0 0 led)}).get? l=some {cls:=.type "tuple",dict:=odict,data:=.seq items nl,slots:=oslots}:=Heap.get?_push_of_some _ hol
    have hsls:=sub_tuple_set0
    have hslf:=sub_tuple_frozenset0
    have hne:(Value.type "tuple"==Value.type "dict")=false:=by decide
    have hl1:(s.heap.push {cls:=.type "set",dict:=none,data:=.set #[] 0 (.fresh 0 0 led)}).IsTuple l items:=⟨_,hol',rfl,nl,rfl⟩
    unfold Builtin.«set.__init__» noKeywords Builtin.Frozenset.updateFrom
    generalize hPI:pyIter=PI
    wp_walk
    subst hPI
    refine wpAny_pyIter_tuple hl1 ?_
    refine wpAny_bind (wpAny_runValue ?_)
    have hlS:l<s.heap.objs.size:=Heap.lt_size hol
    have hh3:A.in1.in1.in1.handled=none:=by simp[hh]
    have hSz:(s.heap.push {cls:=.type "set",dict:=none,data:=.set #[] 0 (.fresh 0 0 led)}).objs.size=s.heap.objs.size+1:=Heap.size_push ..
    have e1:s.heap.objs.size≠(s.heap.push {cls:=.type "set",dict:=none,data:=.set #[] 0 (.fresh 0 0 led)}).objs.size:=by rw[hSz];exact Nat.ne_of_lt (Nat.lt_succ_self _)
    have e2:l≠(s.heap.push {cls:=.type "set",dict:=none,data:=.set #[] 0 (.fresh 0 0 led)}).objs.size:=by rw[hSz];exact Nat.ne_of_lt (Nat.lt_succ_of_lt hlS)
    refine update_loopGT (w:=w) hh3 hi hb e1 (Nat.ne_of_gt hlS) e2 (items.size - 0) 0 _ [] (by omega) (Nat.zero_le _)
     ⟨_,Heap.get?_push_size _ rfl,rfl,rfl⟩ (hl1.push _) ⟨_,#[],0,_,Heap.get?_push_of_some _ hS,⟨rfl,rfl,rfl⟩,rfl,rfl,fun e he=>by simp at he,List.nodup_nil,by decide,by rfl,List.Pairwise.nil,?_⟩ (Nat.le_refl _) (fun x=>by simp) ?_
    ·show led=true∨bt w=true
     rw[←hled]
     cases bt w<;>simp
    ·intro h' tk ks' kp hS' hm'
     show wpAny _ _ _ _ _ _
     refine wpAny_pure ?_
     show wpAny _ _ (ret Value.none) _ _ _
     refine wpAny_pure ⟨rfl,h',tk,ks',rfl,hS',hm',fun b o hb e=>?_⟩
     exact kp b o (Nat.ne_of_lt hb) (by rw[hSz];exact Nat.ne_of_lt (Nat.lt_succ_of_lt hb)) (Heap.get?_push_of_some _ (Heap.get?_push_of_some _ e))
   ·cases r₂ with
    |error e=>exact hr₂
    |ok fl₂=>
     cases fl₂ with
     |ret r=>
      obtain⟨rfl,h',tk,ks,rfl,hS',hm',hk'⟩:=hr₂
      repeat (any_goals (first|assumption|wp_step))
      exact h _ _ _ hS' hm' hk'
     |_=>exact hr₂.elim
  |_=>exact hr.elim
end
section
variable{X:Cx}{K:W.Frag}
noncomputable def SqX(K:W.Frag)(H:Hp)(p:Addr)(xs:List V):Prop:=SqL K H p xs∨SqT K H p xs
theorem seqT_same{H H':Hp}{a:Addr}{xs:List V}(e:Same H H')(h:SqT K H a xs):SqT K H' a xs:=by
 rcases h with(h|⟨o,h⟩)|h
 ·exact .inl (.inl (e _ _ h))
 ·exact .inl (.inr ⟨o,e _ _ h⟩)
 ·exact .inr h
theorem SqX.same{H H':Hp}{p:Addr}{xs:List V}(s:Same H H')(h:SqX K H p xs):SqX K H' p xs:=h.elim (fun h=>.inl (s.seq h)) fun h=>.inr (seqT_same s h)
noncomputable def rSetX(K:W.Frag)(w:World):List V→Hp→VK→Prop:=fun xs H Q=>∃(p:Addr) (ns:List Int),xs=[.ref p]∧SqX K H p (ns.map V.int)∧ns.length+1<4096∧∀(l:Addr) (ks:List Int),H l=none→ks.Nodup→(∀x,x∈ks↔x∈ns)→Q (.ref l) (upd H l (setO w l ks))
theorem call_setX(hc:X.calm=true):CallR X (.type "set") (rSetX X.K X.w):=by
 intro pins s σ H xs us Q I r h
 obtain⟨p,ns,rfl,hq,hl,q⟩:=h
 obtain⟨u,rfl,rx⟩:=vals1 r
 cases rx
 rcases hq with hq|hq
 ·obtain⟨its,r',pl,hz⟩:=I.list hq
  have hi:=ints_of_vals r'
  have hlen:=IntsAre.length hi
  refine set_listG (I.ok.hd hc) pl.isList (by simpa using hi) (by simp only[List.size_toArray];show _<4096;omega) fun h' tk ks g m old=>?_
  exact⟨.ref s.heap.objs.size,_,I.laidD (d':=s.drawn) (fun b o e=>old b o (Heap.lt_size e) e) (Nat.le_refl _) (setO_new g),rfl,q _ ks (I.hok.fresh (Nat.le_refl _)) g.nodup m⟩
 ·obtain⟨its,r',pl,hz⟩:=I.tuple hq
  have hi:=ints_of_vals r'
  have hlen:=IntsAre.length hi
  refine set_tupleG (I.ok.hd hc) (show s.heap.IsTuple p its.toArray from pl) (by simpa using hi) (by simp only[List.size_toArray];show _<4096;omega) fun h' tk ks g m old=>?_
  exact⟨.ref s.heap.objs.size,_,I.laidD (d':=s.drawn) (fun b o e=>old b o (Heap.lt_size e) e) (Nat.le_refl _) (setO_new g),rfl,q _ ks (I.hok.fresh (Nat.le_refl _)) g.nodup m⟩
theorem cSetX{w:World}(h:X.K=K)(hw:X.w=w)(hc:X.calm=true):CallR X (.type "set") (rSetX K w):=by subst h;subst hw;exact call_setX hc
end
section
variable{σ:St}{H:Hp}{Q:VK}{K:W.Frag}{w:World}
theorem i_setX{p:Addr}{ns:List Int}(h:SqX K H p (ns.map V.int))(l:ns.length+1<4096)(q:∀(l:Addr) (ks:List Int),H l=none→ks.Nodup→(∀x,x∈ks↔x∈ns)→Q (.ref l) (upd H l (setO w l ks))):rSetX K w [.ref p] H Q:=⟨p,ns,rfl,h,l,q⟩
theorem i_inX{p:Addr}{ns:List Int}{z:Int}(h:SqX K H p (ns.map V.int))(q:Q (.bl (decide (z∈ns))) H):rIn K false (.int z) (.ref p) H Q:=by
 refine⟨p,_,rfl,h,rfl,flat_ints ns,?_⟩
 rw[inV_int]
 exact q
end
noncomputable def Ite(K:W.Frag)(l:Addr):It:=
 ⟨fun i H=>∃xs u,SqL K H l xs∧xs[i]?=some u,
  fun i H x H'=>∃T u,x=.ref T∧H T=none∧H'=upd H T (.tup [.int i,u])∧∀xs,SqL K H l xs→xs[i]?=some u,
  fun i H=>∃xs,SqL K H l xs∧xs.length≤i⟩
theorem turn_enum{P:Program}{w:World}{K:W.Frag}{es:List Expr}{kk:Nat}{pos:Pos}{e it l:Addr}(hne:e≠it)(hli:l≠it)(hle:l≠e):
  Turn P w K (.Tuple es kk pos) (Ite K l) [e,it] e (fun i h=>(∃old,IsEnum h e it i old)∧h.IsListIter it l i) where
 mem:=by simp
 obj:=fun i h st b hb=>by
  obtain⟨⟨old,he⟩,hit⟩:=st
  simp only[List.mem_cons,List.not_mem_nil,or_false]at hb
  rcases hb with rfl|rfl
  ·exact⟨_,he,fun v e=>by cases e⟩
  ·obtain⟨o,e',c,d⟩:=hit
   exact⟨o,e',fun v z=>by rw[d]at z;cases z⟩
 keep:=fun i h h' st k=>by
  obtain⟨⟨old,he⟩,hit⟩:=st
  exact⟨⟨old,k e (by simp) _ he⟩,hit.at fun o q=>k it (by simp) o q⟩
 item:=by
  intro X hP hw hK hc i pins s σ H E I hf st hg
  subst hP hw hK
  obtain⟨xs,u,q1,e1⟩:=hg
  obtain⟨its,rv,p1,_⟩:=I.list q1
  obtain⟨a1,b1,r1⟩:=rv.get e1
  obtain⟨⟨old,he⟩,hit⟩:=id st
  refine wpAny_pyNext_enum_item he hit p1.isList (x:=a1) (by simpa using b1) hne fun h' g1 g2 g3 g4 g5=>?_
  refine⟨_,rfl,wpAny_letOwnedTupleGo_enum g1 fun h'' g1' hs'=>?_⟩
  have ne:∀{b:Addr} {o:Obj},s.heap.get? b=some o→s.heap.objs.size≠b:=fun e=>Nat.ne_of_gt (Heap.lt_size e)
  have kk:∀b o,b∉ [e,it]→s.heap.get? b=some o→h''.get? b=some o:=fun b o hb q=>by
   simp only[List.mem_cons,List.not_mem_nil,or_false,not_or]at hb
   exact hs'.extBut _ _ hb.1 (g5 b o hb.1 hb.2 q)
  have hT:h''.get? s.heap.objs.size=some {cls:=.type "tuple",data:=.seq #[.int i s.toks,a1]}:=hs'.extBut _ _ (ne he) g3
  have hch:∀b∈[e,it],FpOk X pins H b:=hf
  have new:ObjOk X.prog X.w (upd H s.heap.objs.size (.tup [.int i,u])) h'' s.heap.objs.size (.tup [.int i,u]):=
   ⟨by show 2≤sizeLine;decide,[.int i s.toks,a1],.cons ⟨_,rfl⟩ (.cons r1 .nil),_,hT,rfl,_,rfl⟩
  have I1:Inv X pins σ (upd H s.heap.objs.size (.tup [.int i,u])) {s with heap:=h'',toks:=s.toks+1}:=I.chgLaid hch kk (Nat.le_refl _) new
  have hn:H s.heap.objs.size=none:=I.hok.fresh (Nat.le_refl _)
  refine⟨.ref s.heap.objs.size,_,I1,rfl,⟨_,u,rfl,hn,rfl,fun xs' w1=>by rw[I.list_inj w1 q1];exact e1⟩,⟨⟨a1,by simpa using g1'⟩,g2.at fun o q=>hs'.extBut _ _ (Ne.symm hne) q⟩,fun b hb=>?_⟩
  rw[upd_ne (fun z=>?_)]
  ·exact(hf b hb).1
  ·obtain⟨o,ho⟩:∃o,s.heap.get? b=some o:=by
    simp only[List.mem_cons,List.not_mem_nil,or_false]at hb
    rcases hb with rfl|rfl
    ·exact⟨_,he⟩
    ·obtain⟨o,e',_⟩:=hit;exact⟨o,e'⟩
   exact(ne ho) z.symm
 done:=by
  intro X hP hw hK hc i pins s σ H E I hf st hg
  subst hP hw hK
  obtain⟨xs,q1,hx⟩:=hg
  obtain⟨its,rv,p1,_⟩:=I.list q1
  have hl:=rv.length
  obtain⟨⟨old,he⟩,hit⟩:=id st
  obtain⟨f0,f1,f2,f3,f4,f5⟩:=hf it (by simp)
  exact wpAny_pyNext_enum_end (I.ok.hd hc) he hit p1.isList (by simp;omega) fun h' eb=>⟨rfl,I.turned (t':=s.toks) (fun b o hb e=>eb b o hb e) f0 f1 f3 f4 f5⟩
 self:=fun _ _ _ _ _ st h=>by
  obtain⟨⟨old,he⟩,hit⟩:=st
  exact wpAny_pyIter_enum he h
section
variable{X:Cx}{K:W.Frag}{es:List Expr}{kk:Nat}{tpos:Pos}
noncomputable def iEnum(K:W.Frag)(ta:TA):TI:=fun σ H R=>ta σ H fun vs H1=>∃a,vs=[.ref a]∧(∃xs,SqL K H1 a xs)∧R (Ite K a) H1
theorem piE{a:Expr}{ta:TA}{p pos:Pos}(hK:X.K=K)(hg:Gl X "enumerate")(hm:X.mg "enumerate"=none)(ha:PA X [a] ta)(hs:starEach [a] X.env=[(false,eval a X.env)]:=by rfl):
  PI X (.Tuple es kk tpos) (.Call (.Name "enumerate" p) [a] [] pos) (iEnum K ta):=by
 subst hK
 intro pins s σ H R I h
 refine Call_ (ld_blt I hg hm bb_enumerate (PyProof.Rows.callWith_type1 (thn (ha pos pins s σ H _ I h) fun us s1 ⟨vs,H1,I1,r1,q1⟩=>?_) hs rfl))
 obtain⟨l,e,⟨xs,hq⟩,q⟩:=q1
 subst e
 obtain⟨u,rfl,rx⟩:=vals1 r1
 cases rx
 obtain⟨its,rv,p1,_⟩:=I1.list hq
 have lt1:l<s1.heap.objs.size:=by obtain⟨_,e,_⟩:=p1.isList;exact Heap.lt_size e
 refine call_enumerate_list p1.isList fun h' g1 g2 g3 g4=>?_
 refine wpAny_pyIter_enum g1 ?_
 refine⟨_,_,_,_,H1,rfl,I1.kept (t':=s1.toks) g4,turn_enum (e:=s1.heap.objs.size+1) (it:=s1.heap.objs.size) (l:=l) (Nat.succ_ne_self _) (Nat.ne_of_lt lt1) (Nat.ne_of_lt (Nat.lt_succ_of_lt lt1)),⟨⟨_,g1⟩,g2⟩,fun b hb=>?_,q⟩
 simp only[List.mem_cons,List.not_mem_nil,or_false]at hb
 have hle:s1.heap.objs.size≤b:=by rcases hb with rfl|rfl<;>omega
 exact I1.fpOk hle (I1.hok.fresh hle)
theorem i_itE{σ:St}{H:Hp}{ta:TA}{N:It→Hp→Prop}(q:ta σ H fun vs H1=>∃a,vs=[.ref a]∧(∃xs,SqL K H1 a xs)∧N (Ite K a) H1):iEnum K ta σ H N:=q
end
section
variable{X:Cx}{K:W.Frag}
end
section
variable{σ:St}{H:Hp}{Q:VK}{K:W.Frag}
theorem i_chain{r r':R2}{ta tb tc:TE}(q:ta σ H fun x H1=>tb σ H1 fun y H2=>r x y H2 fun z H3=>∃k,z=.bl k∧(if k=true then tc σ H3 fun w' H4=>r' y w' H4 Q else Q (.bl false) H3)):tChain r r' ta tb tc σ H Q:=q
end
section
variable{elt t0 i0 t1 i1:Expr}{f0 f1:List Expr}{scope:Scope}{pos:Pos}
abbrev two(elt t0 i0:Expr)(f0:List Expr)(t1 i1:Expr)(f1:List Expr)(scope:Scope)(pos:Pos):Expr:=.ListComp elt [⟨t0,i0,f0,0⟩,⟨t1,i1,f1,0⟩] scope pos
abbrev testsOf(fs:List Expr)(env:Env):Sem Bool:=forIn fs true fun c r=>if r=true then do let ok←isTrue c env (eval c env);pure (ForInStep.yield ok)else pure (ForInStep.yield r)
theorem two_in(it acc:Value)(env:Env):compTurn (two elt t0 i0 f0 t1 i1 f1 scope pos) 1 it acc env=(standAt i1.pos >>=fun _=>pyNext it >>=fun r=>match r with
  |none=>pure (.done .next)
  |some v=>letOwnedTupleGo t1 it v >>=fun _=>assign t1 env v >>=fun _=>testsOf f1 env >>=fun ok=>
    if ok=true then((eval elt env >>=fun x=>call (.builtin "list.append") [acc,x] >>=fun _=>pure PUnit.unit) >>=fun _=>again (.compLoop (two elt t0 i0 f0 t1 i1 f1 scope pos) 1 it acc env))
    else again (.compLoop (two elt t0 i0 f0 t1 i1 f1 scope pos) 1 it acc env)):=by
 rfl
theorem two_out(it acc:Value)(env:Env):compTurn (two elt t0 i0 f0 t1 i1 f1 scope pos) 0 it acc env=(standAt i0.pos >>=fun _=>pyNext it >>=fun r=>match r with
  |none=>pure (.done .next)
  |some v=>letOwnedTupleGo t0 it v >>=fun _=>assign t0 env v >>=fun _=>testsOf f0 env >>=fun ok=>
    if ok=true then(eval i1 env >>=fun x=>standAt i1.pos >>=fun _=>foldedSetIterable i1 env x >>=fun x=>holding [x] (pyIter x) >>=fun j=>runOwn (.compStart (two elt t0 i0 f0 t1 i1 f1 scope pos) 1 j acc env) env >>=fun _=>again (.compLoop (two elt t0 i0 f0 t1 i1 f1 scope pos) 0 it acc env))
    else again (.compLoop (two elt t0 i0 f0 t1 i1 f1 scope pos) 0 it acc env)):=by
 rfl
end
section
variable{prog:Program}{w:World}{A:Around}{R:Result→Shared→Prop}{s:Shared}{elt t0 i0 t1 i1:Expr}{f0 f1:List Expr}{scope:Scope}{pos:Pos}{it acc:Value}{env:Env}
noncomputable def TurnW(prog:Program)(w:World)(A:Around)(env:Env)(it:Value)(tg:Expr)(fs:List Expr)(E:Value→Shared→Prop)(stop no yes:Shared→Prop)(s:Shared):Prop:=
 wpAny (model prog w) A (pyNext it) (fun r s₁=>match r with
  |none=>stop s₁
  |some v=>wpAny (model prog w) A (letOwnedTupleGo tg it v) (fun _ s₂=>wpAny (model prog w) A (assign tg env v) (fun _ s₃=>wpAny (model prog w) A (testsOf fs env) (fun ok s₄=>if ok=true then yes s₄ else no s₄) E s₃) E s₂) E s₁) E s
theorem twoLoop_in(I:Nat→Shared→Prop)
  (turn:∀n s,I n s→TurnW prog w A env it t1 f1 (notedBy (model prog w) A env fun e s'=>R (.error e) s') (R (.ok .next)) (fun s'=>∃m,m<n∧I m s')
   (fun s₄=>wpAny (model prog w) A (eval elt env) (fun x s₅=>wpAny (model prog w) A (call (.builtin "list.append") [acc,x]) (fun _ s₆=>∃m,m<n∧I m s₆) (notedBy (model prog w) A env fun e s'=>R (.error e) s') s₅) (notedBy (model prog w) A env fun e s'=>R (.error e) s') s₄) s)
  (n:Nat) (h:I n s):codeAny (model prog w) A (.compLoop (two elt t0 i0 f0 t1 i1 f1 scope pos) 1 it acc env) R s:=by
 refine codeAny_loop rfl I (fun n s hI=>?_) n h
 show wpAny _ A ((compTurn (two elt t0 i0 f0 t1 i1 f1 scope pos) 1 it acc env).onRaise (fun x=>do noteFrame x env;theTreesLotGoes x)) _ _ s
 refine wpAny_noted ?_
 rw[two_in]
 refine wpAny_bind (wpAny_standAt (wpAny_bind (wpAny_mono (turn n s hI) (fun r s₁ h₁=>?_) fun _ _ z=>z)))
 cases r with
 |none=>exact wpAny_pure h₁
 |some v=>
  refine wpAny_bind (wpAny_mono h₁ (fun _ s₂ h₂=>wpAny_bind (wpAny_mono h₂ (fun _ s₃ h₃=>wpAny_bind (wpAny_mono h₃ (fun ok s₄ h₄=>?_) fun _ _ z=>z)) fun _ _ z=>z)) fun _ _ z=>z)
  cases ok with
  |false=>exact wpAny_pure ⟨rfl,h₄⟩
  |true=>exact wpAny_bind (wpAny_bind (wpAny_mono h₄ (fun x s₅ h₅=>wpAny_bind (wpAny_mono h₅ (fun _ s₆ h₆=>wpAny_pure (wpAny_pure ⟨rfl,h₆⟩)) fun _ _ z=>z)) fun _ _ z=>z))
theorem twoLoop_out(hs:∀x,foldedSetIterable i1 env x=pure x)(I:Nat→Shared→Prop)
  (turn:∀n s,I n s→TurnW prog w A env it t0 f0 (notedBy (model prog w) A env fun e s'=>R (.error e) s') (R (.ok .next)) (fun s'=>∃m,m<n∧I m s')
   (fun s₄=>wpAny (model prog w) A (eval i1 env) (fun x s₅=>wpAny (model prog w) A (pyIter x) (fun j s₆=>codeAny (model prog w) (A.mark none) (.compStart (two elt t0 i0 f0 t1 i1 f1 scope pos) 1 j acc env)
    (fun r s'=>match r with|.ok _=>∃m,m<n∧I m s'|.error e=>cameBackBy (model prog w) A env (notedBy (model prog w) A env fun e s'=>R (.error e) s') e s') s₆) (notedBy (model prog w) A env fun e s'=>R (.error e) s') s₅) (notedBy (model prog w) A env fun e s'=>R (.error e) s') s₄) s)
  (n:Nat) (h:I n s):codeAny (model prog w) A (.compLoop (two elt t0 i0 f0 t1 i1 f1 scope pos) 0 it acc env) R s:=by
 refine codeAny_loop rfl I (fun n s hI=>?_) n h
 show wpAny _ A ((compTurn (two elt t0 i0 f0 t1 i1 f1 scope pos) 0 it acc env).onRaise (fun x=>do noteFrame x env;theTreesLotGoes x)) _ _ s
 refine wpAny_noted ?_
 rw[two_out]
 refine wpAny_bind (wpAny_standAt (wpAny_bind (wpAny_mono (turn n s hI) (fun r s₁ h₁=>?_) fun _ _ z=>z)))
 cases r with
 |none=>exact wpAny_pure h₁
 |some v=>
  refine wpAny_bind (wpAny_mono h₁ (fun _ s₂ h₂=>wpAny_bind (wpAny_mono h₂ (fun _ s₃ h₃=>wpAny_bind (wpAny_mono h₃ (fun ok s₄ h₄=>?_) fun _ _ z=>z)) fun _ _ z=>z)) fun _ _ z=>z)
  cases ok with
  |false=>exact wpAny_pure ⟨rfl,h₄⟩
  |true=>
   refine wpAny_bind (wpAny_mono h₄ (fun x s₅ h₅=>wpAny_bind (wpAny_standAt ?_)) fun _ _ z=>z)
   rw[hs]
   refine wpAny_bind (wpAny_pure (wpAny_bind (wpAny_holding (wpAny_mono h₅ (fun j s₆ h₆=>?_) fun _ _ z=>z))))
   refine wpAny_bind (wpAny_runOwn (h:=none) (codeAny_mono h₆ fun r s' hr=>?_))
   cases r with
   |ok f=>exact wpAny_pure ⟨rfl,hr⟩
   |error e=>exact hr
end
noncomputable def InT(J1:It)(g1:TG)(tt1:TT)(te:TE)(Fin:List V→St→Hp→Prop)(ys0:List V)(σ0:St)(H0:Hp):Prop:=
 ∃W:Nat→Nat→List V→St→Hp→Prop,(∃m,W 0 m ys0 σ0 H0)∧∀i m ys σ' H',W i m ys σ' H'→(J1.stop i H'∧Fin ys σ' H')∨
  (J1.go i H'∧ys.length<sizeLine∧∀x H2,J1.yld i H' x H2→g1 x σ' H2 fun σ3 H3=>tt1 σ3 H3 fun b H4=>if b=true then te σ3 H4 fun y H5=>∃m',m'<m∧W (i+1) m' (ys++[y]) σ3 H5 else ∃m',m'<m∧W (i+1) m' ys σ3 H4)
noncomputable def CompT2(J:It)(g:TG)(tt:TT)(wi1:TI)(g1:TG)(tt1:TT)(te:TE)(Fin:List V→Hp→Prop)(σ₀:St)(H1:Hp):Prop:=
 ∃W:Nat→Nat→List V→St→Hp→Prop,(∃m,W 0 m [] σ₀ H1)∧∀i m ys σ' H',W i m ys σ' H'→(J.stop i H'∧Fin ys H')∨
  (J.go i H'∧∀x H2,J.yld i H' x H2→g x σ' H2 fun σ3 H3=>tt σ3 H3 fun b H4=>if b=true then wi1 σ3 H4 fun J1 H5=>InT J1 g1 tt1 te (fun ys' σ5 H6=>∃m',m'<m∧W (i+1) m' ys' σ5 H6) ys σ3 H5 else ∃m',m'<m∧W (i+1) m' ys σ3 H4)
section
variable{prog:Program}{w:World}{A:Around}{R:Result→Shared→Prop}{s:Shared}{elt t0 i0 t1 i1:Expr}{f0 f1:List Expr}{scope:Scope}{pos:Pos}{it acc:Value}{env:Env}
theorem compStart_in(h0:codeAny (model prog w) A (.compLoop (two elt t0 i0 f0 t1 i1 f1 scope pos) 1 it acc env) R s)
  (h:wpAny (model prog w) A (pyIter it) (fun it' s'=>codeAny (model prog w) A (.compLoop (two elt t0 i0 f0 t1 i1 f1 scope pos) 1 it' acc env) R s') (notedBy (model prog w) A env fun x s'=>R (.error x) s') s):
  codeAny (model prog w) A (.compStart (two elt t0 i0 f0 t1 i1 f1 scope pos) 1 it acc env) R s:=by
 refine codeAny_of_tree ?_
 show wpAny _ _ ((compStart (two elt t0 i0 f0 t1 i1 f1 scope pos) 1 it acc env).onRaise _) _ _ s
 refine wpAny_notedAt ?_
 unfold compStart
 show wpAny _ _ (ask >>=_) _ _ s
 refine wpAny_bind (wpAny_askSetting (wpAny_ite ?_))
 split
 ·first|exact wpAny_bind (wpAny_pure (wpAny_pure ⟨rfl,h0⟩))|exact wpAny_pure ⟨rfl,h0⟩
 ·refine wpAny_bind (wpAny_rule ?_)
  show wpAny _ _ (standAt i1.pos >>=_) _ _ s
  exact wpAny_bind (wpAny_standAt (wpAny_bind (wpAny_mono h (fun it' s' h'=>wpAny_pure ⟨rfl,h'⟩) fun _ _ z=>z)))
end
section
variable{X:Cx}{pins:List (Addr×Obj)}{σ:St}{scope:Scope}{own:List Str}{fre:List (Nat×Str)}{elt tg iter t1 i1:Expr}{ifs f1:List Expr}{pos:Pos}{wi wi1:TI}{g g1:TG}{tt tt1:TT}{te:TE}
theorem comp_block2{s2:Shared}{H2:Hp}{it:Addr}{fp:List Addr}{tn:Nat→Heap→Prop}{J:It}{Fin:List V→Hp→Prop}{RR:Value→Addr→Result→Shared→Prop}{E:Value→Shared→Prop}
  (hc:X.calm=true) (S:CompScope X.N X.env.scope scope own fre) (I2:Inv X pins σ H2 s2) (T:Turn X.prog X.w X.K tg J fp it tn) (st2:tn 0 s2.heap) (f2:∀b∈fp,FpOk X pins H2 b)
  (hg:∀cl C s₂ H₂ fp,PG (cxC X (own++fre.map (·.2)) scope cl C s₂ H₂ fp) tg g) (ht:∀cl C s₂ H₂ fp,PTs (cxC X (own++fre.map (·.2)) scope cl C s₂ H₂ fp) ifs tt) (he:∀cl C s₂ H₂ fp,PE (cxC X (own++fre.map (·.2)) scope cl C s₂ H₂ fp) elt te)
  (hi1:∀cl C s₂ H₂ fp,PI (cxC X (own++fre.map (·.2)) scope cl C s₂ H₂ fp) t1 i1 wi1) (hg1:∀cl C s₂ H₂ fp,PG (cxC X (own++fre.map (·.2)) scope cl C s₂ H₂ fp) t1 g1) (ht1:∀cl C s₂ H₂ fp,PTs (cxC X (own++fre.map (·.2)) scope cl C s₂ H₂ fp) f1 tt1)
  (hs1:∀cl C x,foldedSetIterable i1 (compEnvC scope cl C X.env) x=pure x)
  (turns:CompT2 J g tt wi1 g1 tt1 te Fin (startC own.length fre σ) H2)
  (hend:∀(D C:Addr) (s':Shared) (H':Hp) (ys:List V) (its:List Value) (m:Str→Option Value),s2.heap.objs.size≤D→s2.heap.objs.size≤C→D≠C→Inv X pins σ H' s'→H' D=none→H' C=none→s'.heap.get? D=some (LCg.lst its)→s'.heap.Ns C m→Vals ys its→ys.length≤sizeLine→Fin ys H'→RR (.ref D) C (.ok .next) s'):
  wpAny (model X.prog X.w) X.A (newList []) (fun acc s₃=>wpAny (model X.prog X.w) X.A (newFunctionEnv scope X.env.globals (clos X.env.cells scope.names []) [] X.env.qual none .none (some X.env)) (fun cenv s₄=>
   codeAny (model X.prog X.w) X.A (.compStart (two elt tg iter ifs t1 i1 f1 scope pos) 0 (.ref it) acc {cenv with scope:=relabel scope X.env}) (RR acc cenv.locals) s₄) E s₃) E s2:=by
 obtain⟨W,⟨m0,w0⟩,turn⟩:=turns
 refine wpAny_newObj_type (wpAny_newFunctionEnv S.ocell (by intro y hy;simp at hy) (fun h₁ hns₁ hsb₁=>?_) S.kind)
 dsimp only at hns₁ hsb₁⊢
 generalize hH2:s2.heap.push {cls:=.type "list",dict:=none,data:=.seq ([]:List Value).toArray}=HH at hns₁ hsb₁⊢
 have hC:HH.objs.size=s2.heap.objs.size+1:=by rw[←hH2,Heap.size_push]
 have hDC:s2.heap.objs.size≠HH.objs.size:=by rw[hC];exact Nat.ne_of_lt (Nat.lt_succ_self _)
 have hCle:s2.heap.objs.size≤HH.objs.size:=by rw[hC];exact Nat.le_succ _
 have old:∀b o,s2.heap.get? b=some o→h₁.get? b=some o:=fun b o e=>
  hsb₁.extBut b o (by rw[hC];exact Nat.ne_of_lt (Nat.lt_succ_of_lt (Heap.lt_size e))) (Heap.get?_push_of_some _ (hH2▸Heap.get?_push_of_some _ e))
 have hacc:h₁.get? s2.heap.objs.size=some (LCg.lst []):=hsb₁.extBut _ _ hDC (Heap.get?_push_of_some _ (hH2▸Heap.get?_push_size _ rfl))
 have hfo:∀b∈fp,∃o,s2.heap.get? b=some o:=fun b hb=>by obtain⟨o,e,_⟩:=T.obj _ _ st2 b hb;exact⟨o,e⟩
 have flt:∀b∈fp,b<s2.heap.objs.size:=fun b hb=>by obtain⟨o,e⟩:=hfo b hb;exact Heap.lt_size e
 have I1:=inv_comp (tk:=s2.toks+([]:List (Str×Value)).length) I2 S f2 hfo old hCle hns₁ (Nat.le_refl _) hDC hacc
 generalize hX':cxC X (own++fre.map (·.2)) scope (clos X.env.cells scope.names []) HH.objs.size s2 H2 fp=X' at I1
 have eP:X'.prog=X.prog:=by rw[←hX'];rfl
 have eW:X'.w=X.w:=by rw[←hX'];rfl
 have eK:X'.K=X.K:=by rw[←hX'];rfl
 have eA:X'.A=X.A:=by rw[←hX'];rfl
 have eE:X'.env=compEnvC scope (clos X.env.cells scope.names []) HH.objs.size X.env:=by rw[←hX'];rfl
 have eX:X'.xe=fun _ _=>False:=by rw[←hX'];rfl
 have ePn:X'.pn=[]:=by rw[←hX'];rfl
 have eC:X'.calm=true:=by rw[←hX'];exact hc
 have eS:X'.s₀=s2:=by rw[←hX'];rfl
 have eH:X'.H₀=H2:=by rw[←hX'];rfl
 have eF:X'.fs=frs X.stack:=by rw[←hX'];rfl
 have eEx:X'.ex=fp:=by rw[←hX'];rfl
 have hg':PG X' tg g:=by rw[←hX'];exact hg _ _ _ _ _
 have ht':PTs X' ifs tt:=by rw[←hX'];exact ht _ _ _ _ _
 have he':PE X' elt te:=by rw[←hX'];exact he _ _ _ _ _
 have hi1':PI X' t1 i1 wi1:=by rw[←hX'];exact hi1 _ _ _ _ _
 have hg1':PG X' t1 g1:=by rw[←hX'];exact hg1 _ _ _ _ _
 have ht1':PTs X' f1 tt1:=by rw[←hX'];exact ht1 _ _ _ _ _
 have hs1':∀x,foldedSetIterable i1 X'.env x=pure x:=by rw[eE];exact hs1 _ _
 have ccell:∀x c,X'.env.cells.lookup x=some c→c<s2.heap.objs.size:=fun x c e=>by
  rw[eE]at e
  obtain⟨v,q⟩:=I2.cell x c (I2.clos_sub S e)
  exact q.lt
 have stat:∀{H':Hp} {o:Obj},(∀b∈fp,H' b=none)→∀b∈fp,FpOk X' [(s2.heap.objs.size,o)] H' b:=fun{H' o} hn b hb=>by
  refine⟨hn b hb,?_,?_,.inl (by rw[eEx];exact hb),fun x c e=>?_,fun p hp=>?_⟩
  ·rw[eE];exact Nat.ne_of_lt (Nat.lt_of_lt_of_le (flt b hb) hCle)
  ·rw[eF];intro z
   rcases List.mem_cons.mp (I2.stkSub b z)with q|q
   ·exact(f2 b hb).2.1 q
   ·exact(f2 b hb).2.2.1 q
  ·rw[eE]at e
   exact(f2 b hb).2.2.2.2.1 x c (I2.clos_sub S e)
  ·rw[ePn]at hp
   have e:p=(s2.heap.objs.size,o):=by simpa using hp
   rw[e]
   exact Nat.ne_of_gt (flt b hb)
 have statD:∀{H':Hp},H' s2.heap.objs.size=none→FpOk X' [] H' s2.heap.objs.size:=fun{H'} hn=>by
  refine⟨hn,?_,?_,.inr (by rw[eS];exact Nat.le_refl _),fun x c e=>Nat.ne_of_lt (ccell x c e),fun p hp=>?_⟩
  ·rw[eE];exact hDC
  ·rw[eF];intro z
   rcases List.mem_cons.mp (I2.stkSub _ z)with q|q
   ·exact absurd I2.lt (by rw[←q];exact Nat.lt_irrefl _)
   ·exact I2.nofs (Nat.le_refl _) q
  ·rw[ePn]at hp;cases hp
 have loop:∀s₃:Shared,s₃={s2 with heap:=h₁,toks:=s2.toks+([]:List (Str×Value)).length}→
   codeAny (model X.prog X.w) X.A (.compLoop (two elt tg iter ifs t1 i1 f1 scope pos) 0 (.ref it) (.ref s2.heap.objs.size) (compEnvC scope (clos X.env.cells scope.names []) HH.objs.size X.env))
    (RR (.ref s2.heap.objs.size) HH.objs.size) s₃:=by
  rintro s₃ rfl
  rw[←eE]
  refine twoLoop_out hs1' (fun n s'=>∃i ys its σ' H',Inv X' [(s2.heap.objs.size,LCg.lst its)] σ' H' s'∧Vals ys its∧ys.length≤sizeLine∧tn i s'.heap∧(∀b∈fp,H' b=none)∧W i n ys σ' H') ?_ m0
   ⟨0,[],[],_,H2,I1,.nil,Nat.zero_le _,T.keep _ _ _ st2 fun b _ o e=>old b o e,fun b hb=>(f2 b hb).1,w0⟩
  rintro n s3 ⟨i,ys,its,σ3,H3,I3,rv,hlen,st3,fr3,w3⟩
  have pD:=I3.pin (s2.heap.objs.size,LCg.lst its) (by rw[ePn];simp)
  rcases turn i n ys σ3 H3 w3 with⟨stop,fin⟩|⟨go,step⟩
  ·have dn:=T.done X' eP eW eK eC i _ s3 σ3 H3 (notedBy (model X.prog X.w) X.A X'.env fun e s'=>RR (.ref s2.heap.objs.size) HH.objs.size (.error e) s') I3 (stat fr3) st3 stop
   rw[eA]at dn
   refine wpAny_mono dn (fun r s4 ⟨hr,I4⟩=>?_) fun _ _ z=>z
   subst hr
   have pD4:=I4.pin (s2.heap.objs.size,LCg.lst its) (by rw[ePn];simp)
   obtain⟨m4,hn4,_⟩:=I4.loc
   have b4:Un (frs X.stack) fp H2 H3 s2.heap s4.heap:=by
    have z:=I4.base
    rw[eF,eEx,eH,eS]at z
    exact z
   have o4:s4.os=s2.os:=by have z:=I4.os;rw[eS]at z;exact z
   have k4:HOk X.prog X.w H3 s4.heap:=by have z:=I4.hok;rw[eP,eW]at z;exact z
   have Io:Inv X pins σ H3 s4:=I2.call' o4 b4 k4 I4.bare fun b hb=>by
    obtain⟨_,f1,_,f3,f4,f5⟩:=f2 b hb
    exact⟨f3,f1,f4,f5⟩
   refine hend _ _ s4 H3 ys its m4 (Nat.le_refl _) hCle hDC Io pD4.2.1 ?_ pD4.1 ?_ rv hlen fin
   ·have z:=I4.free;rw[eE]at z;exact z
   ·rw[eE]at hn4;exact hn4
  ·have itm:=T.item X' eP eW eK eC i _ s3 σ3 H3 (notedBy (model X.prog X.w) X.A X'.env fun e s'=>RR (.ref s2.heap.objs.size) HH.objs.size (.error e) s') I3 (stat fr3) st3 go
   rw[eA]at itm
   refine wpAny_mono itm (fun r s4 ⟨u,hr,h4⟩=>?_) fun _ _ z=>z
   subst hr
   refine wpAny_mono h4 (fun _ s5 ⟨x,H5,I5,r5,y5,st5,fr5⟩=>?_) fun _ _ z=>z
   have I5':=I5.pinned (stat fr5) (T.obj _ _ st5)
   have as:=hg' _ s5 σ3 H5 x u _ I5' r5 (step x H5 y5)
   rw[eP,eW,eA]at as
   refine wpAny_mono as (fun _ s6 ⟨σ6,H6,I6,q6⟩=>?_) (fun _ _ z=>by rw[eX]at z;exact z.elim)
   have ts:=ht' _ s6 σ6 H6 _ I6 q6
   rw[eP,eW,eA]at ts
   refine wpAny_mono ts (fun b s7 ⟨H7,I7,q7⟩=>?_) (fun _ _ z=>by rw[eX]at z;exact z.elim)
   have back:∀{σ8:St} {H8:Hp} {s8:Shared},Inv X' ([(s2.heap.objs.size,LCg.lst its)]++pinsAt fp s5.heap) σ8 H8 s8→tn (i+1) s8.heap∧(∀b∈fp,H8 b=none)∧s8.heap.get? s2.heap.objs.size=some (LCg.lst its)∧H8 s2.heap.objs.size=none:=fun{σ8 H8 s8} I8=>by
    refine⟨T.keep _ _ _ st5 fun b hb o e=>(I8.pin (b,o) (List.mem_append_right _ (List.mem_append_right _ (mem_pinsAt hb e)))).1,fun b hb=>?_,?_⟩
    ·obtain⟨o,e,d⟩:=T.obj _ _ st5 b hb
     exact(I8.pin (b,o) (List.mem_append_right _ (List.mem_append_right _ (mem_pinsAt hb e)))).2.1
    ·have z:=I8.pin (s2.heap.objs.size,LCg.lst its) (List.mem_append_right _ (List.mem_append_left _ (by simp)))
     exact⟨z.1,z.2.1⟩
   cases b with
   |false=>
    rw[if_neg Bool.false_ne_true]
    rw[if_neg Bool.false_ne_true]at q7
    obtain⟨m',hm',w7⟩:=q7
    obtain⟨b1,b2,b3,b4⟩:=back I7
    exact⟨m',hm',i+1,ys,its,σ6,H7,I7.unpinned,rv,hlen,b1,b2,w7⟩
   |true=>
    rw[if_pos rfl]
    rw[if_pos rfl]at q7
    have ev:=hi1' _ s7 σ6 H7 _ I7 q7
    rw[eP,eW,eA]at ev
    refine wpAny_mono ev (fun v s8 h8=>wpAny_mono h8 (fun jv s9 h9=>?_) (fun _ _ z=>by rw[eX]at z;exact z.elim)) (fun _ _ z=>by rw[eX]at z;exact z.elim)
    obtain⟨it1,fp1,tn1,J1,H9,rfl,I9,T1,st9,f9,W1,⟨m1,w1⟩,turn1⟩:=h9
    rw[eP,eW,eK]at T1
    rw[Around.mark_none]
    have fpx:∀{its':List Value} {H':Hp},(∀b∈fp1,H' b=none)→∀b∈fp1,FpOk X' ([(s2.heap.objs.size,LCg.lst its')]++pinsAt fp s5.heap) H' b:=fun{its' H'} hn b hb=>by
     obtain⟨_,k1,k2,k3,k4,k5⟩:=f9 b hb
     refine⟨hn b hb,k1,k2,k3,k4,fun p hp=>?_⟩
     rw[ePn]at hp
     rcases List.mem_append.mp hp with z|z
     ·cases z
     ·rcases List.mem_append.mp z with y|y
      ·have e:p=(s2.heap.objs.size,LCg.lst its'):=by simpa using y
       rw[e]
       exact k5 (s2.heap.objs.size,LCg.lst its) (by rw[ePn];simp)
      ·exact k5 p (List.mem_append_right _ (List.mem_append_right _ y))
    have loop1:codeAny (model X.prog X.w) X.A (.compLoop (two elt tg iter ifs t1 i1 f1 scope pos) 1 (.ref it1) (.ref s2.heap.objs.size) X'.env)
      (fun r s'=>match r with
       |.ok _=>∃m,m<n∧∃i ys its σ' H',Inv X' [(s2.heap.objs.size,LCg.lst its)] σ' H' s'∧Vals ys its∧ys.length≤sizeLine∧tn i s'.heap∧(∀b∈fp,H' b=none)∧W i m ys σ' H'
       |.error e=>cameBackBy (model X.prog X.w) X.A X'.env (notedBy (model X.prog X.w) X.A X'.env fun e s'=>RR (.ref s2.heap.objs.size) HH.objs.size (.error e) s') e s') s9:=by
     refine twoLoop_in (fun k s'=>∃i' ys' its' σ' H',Inv X' ([(s2.heap.objs.size,LCg.lst its')]++pinsAt fp s5.heap) σ' H' s'∧Vals ys' its'∧ys'.length≤sizeLine∧tn1 i' s'.heap∧(∀b∈fp1,H' b=none)∧W1 i' k ys' σ' H') ?_ m1
      ⟨0,ys,its,σ6,H9,I9,rv,hlen,st9,fun b hb=>(f9 b hb).1,w1⟩
     rintro k s10 ⟨i',ys',its',σ10,H10,I10,rv10,hlen10,st10,fr10,w10⟩
     rcases turn1 i' k ys' σ10 H10 w10 with⟨stop1,fin1⟩|⟨go1,hz1,step1⟩
     ·have dn:=T1.done X' eP eW eK eC i' _ s10 σ10 H10 (fun _ _=>False) I10 (fpx fr10) st10 stop1
      rw[eA]at dn
      refine wpAny_mono dn (fun r s11 ⟨hr,I11⟩=>?_) fun _ _ z=>z.elim
      subst hr
      obtain⟨m',hm',w'⟩:=fin1
      refine⟨m',hm',i+1,ys',its',σ10,H10,I11.unpinned,rv10,hlen10,T.keep _ _ _ st5 fun b hb o e=>(I11.pin (b,o) (List.mem_append_right _ (List.mem_append_right _ (mem_pinsAt hb e)))).1,fun b hb=>?_,w'⟩
      obtain⟨o,e,_⟩:=T.obj _ _ st5 b hb
      exact(I11.pin (b,o) (List.mem_append_right _ (List.mem_append_right _ (mem_pinsAt hb e)))).2.1
     ·have itm1:=T1.item X' eP eW eK eC i' _ s10 σ10 H10 (fun _ _=>False) I10 (fpx fr10) st10 go1
      rw[eA]at itm1
      refine wpAny_mono itm1 (fun r s11 ⟨u1,hr,h11⟩=>?_) fun _ _ z=>z.elim
      subst hr
      refine wpAny_mono h11 (fun _ s12 ⟨x1,H12,I12,r12,y12,st12,fr12⟩=>?_) fun _ _ z=>z.elim
      have I12':=I12.pinned (fpx fr12) (T1.obj _ _ st12)
      have as1:=hg1' _ s12 σ10 H12 x1 u1 _ I12' r12 (step1 x1 H12 y12)
      rw[eP,eW,eA]at as1
      refine wpAny_mono as1 (fun _ s13 ⟨σ13,H13,I13,q13⟩=>?_) (fun _ _ z=>by rw[eX]at z;exact z.elim)
      have ts1:=ht1' _ s13 σ13 H13 _ I13 q13
      rw[eP,eW,eA]at ts1
      refine wpAny_mono ts1 (fun b1 s14 ⟨H14,I14,q14⟩=>?_) (fun _ _ z=>by rw[eX]at z;exact z.elim)
      have back1:∀{σ8:St} {H8:Hp} {s8:Shared},Inv X' (([(s2.heap.objs.size,LCg.lst its')]++pinsAt fp s5.heap)++pinsAt fp1 s12.heap) σ8 H8 s8→tn1 (i'+1) s8.heap∧∀b∈fp1,H8 b=none:=fun{σ8 H8 s8} I8=>by
       refine⟨T1.keep _ _ _ st12 fun b hb o e=>(I8.pin (b,o) (List.mem_append_right _ (List.mem_append_right _ (mem_pinsAt hb e)))).1,fun b hb=>?_⟩
       obtain⟨o,e,_⟩:=T1.obj _ _ st12 b hb
       exact(I8.pin (b,o) (List.mem_append_right _ (List.mem_append_right _ (mem_pinsAt hb e)))).2.1
      cases b1 with
      |false=>
       rw[if_neg Bool.false_ne_true]
       rw[if_neg Bool.false_ne_true]at q14
       obtain⟨m',hm',w'⟩:=q14
       obtain⟨c1,c2⟩:=back1 I14
       exact⟨m',hm',i'+1,ys',its',σ13,H14,I14.unpinned,rv10,hlen10,c1,c2,w'⟩
      |true=>
       rw[if_pos rfl]
       rw[if_pos rfl]at q14
       have el1:=he' _ s14 σ13 H14 _ I14 q14
       rw[eP,eW,eA]at el1
       refine wpAny_mono el1 (fun yv s15 ⟨y,H15,I15,r15,q15⟩=>?_) (fun _ _ z=>by rw[eX]at z;exact z.elim)
       obtain⟨m',hm',w'⟩:=q15
       obtain⟨c1,c2⟩:=back1 I15
       have pD15:=I15.pin (s2.heap.objs.size,LCg.lst its') (List.mem_append_right _ (List.mem_append_left _ (List.mem_append_left _ (by simp))))
       have pF15:∀b o,(b,o)∈pinsAt fp s5.heap→s15.heap.get? b=some o∧H15 b=none:=fun b o hb=>by
        have z:=I15.pin (b,o) (List.mem_append_right _ (List.mem_append_left _ (List.mem_append_right _ hb)))
        exact⟨z.1,z.2.1⟩
       have hl15:=rv10.length
       refine append_at (hsz:=by show its'.toArray.size≤sizeLine;rw[List.size_toArray,←hl15];exact hlen10) pD15.1 fun h9 hs9 hD9=>?_
       have J0:Inv X' [] σ13 H15 s15:=I15.pins_of fun p hp=>absurd hp (by simp)
       have J1:Inv X' [] σ13 H15 {s15 with heap:=h9,toks:=s15.toks}:=J0.chg (ch:=[s2.heap.objs.size]) (fun b hb=>by
        have e:b=s2.heap.objs.size:=by simpa using hb
        rw[e];exact statD pD15.2.1) fun b o hb e=>hs9.extBut _ _ (by simpa using hb) e
       have hD9':h9.get? s2.heap.objs.size=some (LCg.lst (its'++[yv])):=hD9.trans (congrArg some (LCg.lst_snoc its' yv))
       have J2:Inv X' ([(s2.heap.objs.size,LCg.lst (its'++[yv]))]++pinsAt fp s5.heap) σ13 H15 {s15 with heap:=h9,toks:=s15.toks}:=J1.pins_of fun p hp=>by
        rcases List.mem_append.mp hp with hp|hp
        ·have e:p=(s2.heap.objs.size,LCg.lst (its'++[yv])):=by simpa using hp
         rw[e]
         have z:=statD pD15.2.1
         exact⟨hD9',pD15.2.1,z.2.1,z.2.2.1,fun v q=>by cases q⟩
        ·obtain⟨hb,e⟩:=of_pinsAt hp
         obtain⟨o,e',nd⟩:=T.obj _ _ st5 p.1 hb
         rw[e]at e'
         cases e'
         have zF:=pF15 p.1 p.2 hp
         have z:=stat (o:=LCg.lst its) (H':=H15) (fun b hb'=>by
          obtain⟨o,e'',_⟩:=T.obj _ _ st5 b hb'
          exact(pF15 b o (mem_pinsAt hb' e'')).2) p.1 hb
         exact⟨hs9.extBut _ _ (Nat.ne_of_lt (flt p.1 hb)) zF.1,zF.2,z.2.1,z.2.2.1,nd⟩
       refine⟨m',hm',i'+1,ys'++[y],its'++[yv],σ13,H15,J2,rv10.append (.cons r15 .nil),by rw[List.length_append,List.length_singleton];exact hz1,T1.keep _ _ _ c1 fun b hb o e=>hs9.extBut _ _ ?_ e,c2,w'⟩
       obtain⟨_,_,_,_,_,k5⟩:=f9 b hb
       exact Ne.symm (k5 (s2.heap.objs.size,LCg.lst its) (by rw[ePn];simp))
    exact compStart_in loop1 (T1.self X.A 0 _ _ _ st9 loop1)
 exact codeAny_compStart_list (loop _ rfl) (T.self X.A 0 _ _ _ (T.keep _ _ _ st2 fun b _ o e=>old b o e) (loop _ rfl))
end
noncomputable def tComp2(n:Nat)(fre:List (Nat×Str))(wi:TI)(g:TG)(tt:TT)(wi1:TI)(g1:TG)(tt1:TT)(te:TE):TE:=fun σ H Q=>wi σ H fun J H1=>CompT2 J g tt wi1 g1 tt1 te (fun ys H'=>∀D,H' D=none→Q (.ref D) (upd H' D (.lst ys))) (startC n fre σ) H1
section
variable{X:Cx}{pins:List (Addr×Obj)}{σ:St}{scope:Scope}{own:List Str}{fre:List (Nat×Str)}{elt tg iter t1 i1:Expr}{ifs f1:List Expr}{pos:Pos}{wi wi1:TI}{g g1:TG}{tt tt1:TT}{te:TE}
theorem pe_lcomp2(hc:X.calm=true)(S:CompScope X.N X.env.scope scope own fre)(hi:PI X tg iter wi)
  (hg:∀cl C s₂ H₂ fp,PG (cxC X (own++fre.map (·.2)) scope cl C s₂ H₂ fp) tg g) (ht:∀cl C s₂ H₂ fp,PTs (cxC X (own++fre.map (·.2)) scope cl C s₂ H₂ fp) ifs tt) (he:∀cl C s₂ H₂ fp,PE (cxC X (own++fre.map (·.2)) scope cl C s₂ H₂ fp) elt te)
  (hi1:∀cl C s₂ H₂ fp,PI (cxC X (own++fre.map (·.2)) scope cl C s₂ H₂ fp) t1 i1 wi1) (hg1:∀cl C s₂ H₂ fp,PG (cxC X (own++fre.map (·.2)) scope cl C s₂ H₂ fp) t1 g1) (ht1:∀cl C s₂ H₂ fp,PTs (cxC X (own++fre.map (·.2)) scope cl C s₂ H₂ fp) f1 tt1)
  (hs:∀x,foldedSetIterable iter X.env x=pure x:=by intro _;rfl) (hs1:∀cl C x,foldedSetIterable i1 (compEnvC scope cl C X.env) x=pure x:=by intro _ _ _;rfl):PE X (two elt tg iter ifs t1 i1 f1 scope pos) (tComp2 own.length fre wi g tt wi1 g1 tt1 te):=by
 intro pins s σ H Q I h
 rw[eval_ListComp]
 refine wpAny_comprehension_free (use:=none) rfl hs (closureFor_clos (I.clos_cells S)) S.kind S.locs (thn (hi pins s σ H _ I h) fun v s1 h1=>thn h1 fun itv s2 h2=>?_)
 obtain⟨it,fp,tn,J,H2,e,I2,T,st2,f2,turns⟩:=h2
 subst e
 refine comp_block2 (RR:=fun acc C=>compPost (model X.prog X.w) X.A X.xe none (EP X pins σ Q) acc C) hc S I2 T st2 f2 hg ht he hi1 hg1 ht1 hs1 turns ?_
 intro D C s' H' ys its m hD hC hDC Io nD nC oD nsC rv hlen fin
 refine⟨m,nsC,fun h' hs'=>?_⟩
 have J1:Inv X pins σ H' {s' with heap:=h',toks:=s'.toks}:=Io.chg (ch:=[C]) (fun b hb=>by
  have e:b=C:=by simpa using hb
  rw[e];exact I2.fpOk hC nC) fun b o hb e=>hs'.extBut _ _ (by simpa using hb) e
 have J2:=J1.track (o:=.lst ys) (I2.fpOk hD nD) ⟨hlen,its,_,rv,hs'.extBut _ _ hDC oD⟩
 exact⟨.ref D,_,J2,rfl,fin D nD⟩
end
theorem i_comp2{σ:St}{H:Hp}{Q:VK}{n:Nat}{fre:List (Nat×Str)}{wi:TI}{g:TG}{tt:TT}{wi1:TI}{g1:TG}{tt1:TT}{te:TE}(q:wi σ H fun J H1=>CompT2 J g tt wi1 g1 tt1 te (fun ys H'=>∀D,H' D=none→Q (.ref D) (upd H' D (.lst ys))) (startC n fre σ) H1):tComp2 n fre wi g tt wi1 g1 tt1 te σ H Q:=q
section
variable{σ:St}{H:Hp}
theorem inW{J1:It}{g1:TG}{tt1:TT}{te:TE}{Fin:List V→St→Hp→Prop}{ys0:List V}(W:Nat→List V→St→Hp→Prop)(n:Nat)(w0:W 0 ys0 σ H)(fin:∀ys σ' H',W n ys σ' H'→J1.stop n H'∧Fin ys σ' H')
  (step:∀i ys σ' H',i<n→W i ys σ' H'→J1.go i H'∧ys.length<sizeLine∧∀x H2,J1.yld i H' x H2→g1 x σ' H2 fun σ3 H3=>tt1 σ3 H3 fun b H4=>if b=true then te σ3 H4 fun y H5=>∃m',m'<n - i∧(i+1≤n∧m'=n - (i+1)∧W (i+1) (ys++[y]) σ3 H5)else ∃m',m'<n - i∧(i+1≤n∧m'=n - (i+1)∧W (i+1) ys σ3 H4)):InT J1 g1 tt1 te Fin ys0 σ H:=by
 refine⟨fun i m ys σ' H'=>i≤n∧m=n - i∧W i ys σ' H',⟨n,Nat.zero_le _,rfl,w0⟩,?_⟩
 rintro i m ys σ' H' ⟨hi,rfl,hw⟩
 rcases Nat.lt_or_ge i n with hlt|hge
 ·right
  exact step i ys σ' H' hlt hw
 ·left
  obtain rfl:i=n:=by omega
  exact fin _ _ _ hw
theorem outW{J:It}{g:TG}{tt:TT}{wi1:TI}{g1:TG}{tt1:TT}{te:TE}{Fin:List V→Hp→Prop}(W:Nat→List V→St→Hp→Prop)(n:Nat)(w0:W 0 [] σ H)(fin:∀ys σ' H',W n ys σ' H'→J.stop n H'∧Fin ys H')
  (step:∀i ys σ' H',i<n→W i ys σ' H'→J.go i H'∧∀x H2,J.yld i H' x H2→g x σ' H2 fun σ3 H3=>tt σ3 H3 fun b H4=>if b=true then wi1 σ3 H4 fun J1 H5=>InT J1 g1 tt1 te (fun ys' σ5 H6=>∃m',m'<n - i∧(i+1≤n∧m'=n - (i+1)∧W (i+1) ys' σ5 H6)) ys σ3 H5 else ∃m',m'<n - i∧(i+1≤n∧m'=n - (i+1)∧W (i+1) ys σ3 H4)):CompT2 J g tt wi1 g1 tt1 te Fin σ H:=by
 refine⟨fun i m ys σ' H'=>i≤n∧m=n - i∧W i ys σ' H',⟨n,Nat.zero_le _,rfl,w0⟩,?_⟩
 rintro i m ys σ' H' ⟨hi,rfl,hw⟩
 rcases Nat.lt_or_ge i n with hlt|hge
 ·right
  exact step i ys σ' H' hlt hw
 ·left
  obtain rfl:i=n:=by omega
  exact fin _ _ _ hw
end
noncomputable def tDead:TS:=fun _ _ _=>False
theorem ps_dead{X:Cx}{st:Stmt}:PS X st tDead:=fun _ _ _ _ _ _ h=>h.elim
abbrev testsM(fs:List Expr)(env:Env):Sem Bool:=forIn fs true fun c r=>if r=true then do let ok←isTrue c env (eval c env);pure (ForInStep.yield ok)else pure (ForInStep.yield r)
noncomputable def LastT(g:TG)(tt:TT)(te:TE)(J:It)(Fin:List V→St→Hp→Prop)(ys0:List V)(σ0:St)(H0:Hp):Prop:=
 ∃W:Nat→Nat→List V→St→Hp→Prop,(∃m,W 0 m ys0 σ0 H0)∧∀i m ys σ' H',W i m ys σ' H'→(J.stop i H'∧Fin ys σ' H')∨
  (J.go i H'∧ys.length<sizeLine∧∀x H2,J.yld i H' x H2→g x σ' H2 fun σ3 H3=>tt σ3 H3 fun b H4=>if b=true then te σ3 H4 fun y H5=>∃m',m'<m∧W (i+1) m' (ys++[y]) σ3 H5 else ∃m',m'<m∧W (i+1) m' ys σ3 H4)
noncomputable def MidT(g:TG)(tt:TT)(wi:TI)(inner:It→(List V→St→Hp→Prop)→List V→St→Hp→Prop)(J:It)(Fin:List V→St→Hp→Prop)(ys0:List V)(σ0:St)(H0:Hp):Prop:=
 ∃W:Nat→Nat→List V→St→Hp→Prop,(∃m,W 0 m ys0 σ0 H0)∧∀i m ys σ' H',W i m ys σ' H'→(J.stop i H'∧Fin ys σ' H')∨
  (J.go i H'∧∀x H2,J.yld i H' x H2→g x σ' H2 fun σ3 H3=>tt σ3 H3 fun b H4=>if b=true then wi σ3 H4 fun J1 H5=>inner J1 (fun ys' σ5 H6=>∃m',m'<m∧W (i+1) m' ys' σ5 H6) ys σ3 H5 else ∃m',m'<m∧W (i+1) m' ys σ3 H4)
structure CalmX(X:Cx):Prop where
 xe:X.xe=fun _ _=>False
 pn:X.pn=[]
 calm:X.calm=true
noncomputable def Runs(X:Cx)(D:Addr)(e:Expr)(k:Nat)(tg:Expr)(body:It→(List V→St→Hp→Prop)→List V→St→Hp→Prop):Prop:=
 ∀(P:List (Addr×Obj)) (s:Shared) (H:Hp) (σ:St) (ys:List V) (its:List Value) (it:Addr) (fp:List Addr) (tn:Nat→Heap→Prop) (J:It) (Fin:List V→St→Hp→Prop) (R:Result→Shared→Prop),
  (∀p∈P,p.1≠D)→Inv X ([(D,LCg.lst its)]++P) σ H s→Vals ys its→ys.length≤sizeLine→Turn X.prog X.w X.K tg J fp it tn→tn 0 s.heap→(∀b∈fp,FpOk X ([(D,LCg.lst its)]++P) H b)→body J Fin ys σ H→
  (∀s' ys' its' σ' H',Inv X ([(D,LCg.lst its')]++P) σ' H' s'→Vals ys' its'→ys'.length≤sizeLine→Fin ys' σ' H'→R (.ok .next) s')→
  codeAny (model X.prog X.w) X.A (.compLoop e k (.ref it) (.ref D) X.env) R s
theorem fpx_of{X:Cx}{D:Addr}{P:List (Addr×Obj)}{its its':List Value}{H H':Hp}{b:Addr}(pn:X.pn=[])(h:FpOk X ([(D,LCg.lst its)]++P) H b)(hn:H' b=none):FpOk X ([(D,LCg.lst its')]++P) H' b:=by
 obtain⟨_,k1,k2,k3,k4,k5⟩:=h
 refine⟨hn,k1,k2,k3,k4,fun p hp=>?_⟩
 rw[pn]at hp
 rcases List.mem_append.mp hp with z|z
 ·cases z
 ·rcases List.mem_append.mp z with y|y
  ·have e:p=(D,LCg.lst its'):=by simpa using y
   rw[e]
   exact k5 (D,LCg.lst its) (by rw[pn];simp)
  ·exact k5 p (List.mem_append_right _ (List.mem_append_right _ y))
section
variable{X:Cx}{D:Addr}{elt tg i0 t1 i1:Expr}{gens:List Comprehension}{scope:Scope}{pos:Pos}{fs:List Expr}{k:Nat}{g:TG}{tt:TT}{te:TE}{wi:TI}{inner:It→(List V→St→Hp→Prop)→List V→St→Hp→Prop}
theorem runs_last(hX:CalmX X)(statD:∀{H':Hp},H' D=none→FpOk X [] H' D)
  (hturn:∀it acc env,compTurn (.ListComp elt gens scope pos) k it acc env=(standAt i0.pos >>=fun _=>pyNext it >>=fun r=>match r with
   |none=>pure (.done .next)
   |some v=>letOwnedTupleGo tg it v >>=fun _=>assign tg env v >>=fun _=>testsM fs env >>=fun ok=>
    if ok=true then((eval elt env >>=fun x=>call (.builtin "list.append") [acc,x] >>=fun _=>pure PUnit.unit) >>=fun _=>again (.compLoop (.ListComp elt gens scope pos) k it acc env))
    else again (.compLoop (.ListComp elt gens scope pos) k it acc env)))
  (hg:PG X tg g) (ht:PTs X fs tt) (he:PE X elt te):Runs X D (.ListComp elt gens scope pos) k tg (LastT g tt te):=by
 intro P s H σ ys its it fp tn J Fin R hPD I rv hlen T st f9 turns hR
 obtain⟨W,⟨m0,w0⟩,turn⟩:=turns
 have hb:∀{A:Prop} {x:Value} {s':Shared},X.xe x s'→A:=fun{A x s'} z=>by rw[hX.xe]at z;exact z.elim
 refine codeAny_loop rfl (fun n s'=>∃i' ys' its' σ' H',Inv X ([(D,LCg.lst its')]++P) σ' H' s'∧Vals ys' its'∧ys'.length≤sizeLine∧tn i' s'.heap∧(∀b∈fp,H' b=none)∧W i' n ys' σ' H') (fun n s3 hI=>?_) m0
  ⟨0,ys,its,σ,H,I,rv,hlen,st,fun b hb=>(f9 b hb).1,w0⟩
 show wpAny _ X.A ((compTurn (.ListComp elt gens scope pos) k (.ref it) (.ref D) X.env).onRaise (fun x=>do noteFrame x X.env;theTreesLotGoes x)) _ _ s3
 refine wpAny_noted ?_
 rw[hturn]
 obtain⟨i',ys',its',σ10,H10,I10,rv10,hlen10,st10,fr10,w10⟩:=hI
 refine wpAny_bind (wpAny_standAt (wpAny_bind ?_))
 rcases turn i' n ys' σ10 H10 w10 with⟨stop1,fin1⟩|⟨go1,hz1,step1⟩
 ·have dn:=T.done X rfl rfl rfl hX.calm i' _ s3 σ10 H10 (fun _ _=>False) I10 (fun b hb=>fpx_of hX.pn (f9 b hb) (fr10 b hb)) st10 stop1
  refine wpAny_mono dn (fun r s11 ⟨hr,I11⟩=>?_) fun _ _ z=>z.elim
  subst hr
  exact wpAny_pure (hR _ ys' its' σ10 H10 I11 rv10 hlen10 fin1)
 ·have itm1:=T.item X rfl rfl rfl hX.calm i' _ s3 σ10 H10 (fun _ _=>False) I10 (fun b hb=>fpx_of hX.pn (f9 b hb) (fr10 b hb)) st10 go1
  refine wpAny_mono itm1 (fun r s11 ⟨u1,hr,h11⟩=>?_) fun _ _ z=>z.elim
  subst hr
  refine wpAny_bind (wpAny_mono h11 (fun _ s12 ⟨x1,H12,I12,r12,y12,st12,fr12⟩=>?_) fun _ _ z=>z.elim)
  have I12':=I12.pinned (fun b hb=>fpx_of hX.pn (f9 b hb) (fr12 b hb)) (T.obj _ _ st12)
  refine wpAny_bind (wpAny_mono (hg _ s12 σ10 H12 x1 u1 _ I12' r12 (step1 x1 H12 y12)) (fun _ s13 ⟨σ13,H13,I13,q13⟩=>?_) (fun _ _ z=>hb z))
  refine wpAny_bind (wpAny_mono (ht _ s13 σ13 H13 _ I13 q13) (fun b1 s14 ⟨H14,I14,q14⟩=>?_) (fun _ _ z=>hb z))
  have back1:∀{σ8:St} {H8:Hp} {s8:Shared},Inv X (([(D,LCg.lst its')]++P)++pinsAt fp s12.heap) σ8 H8 s8→tn (i'+1) s8.heap∧∀b∈fp,H8 b=none:=fun{σ8 H8 s8} I8=>by
   refine⟨T.keep _ _ _ st12 fun b hb o e=>(I8.pin (b,o) (List.mem_append_right _ (List.mem_append_right _ (mem_pinsAt hb e)))).1,fun b hb=>?_⟩
   obtain⟨o,e,_⟩:=T.obj _ _ st12 b hb
   exact(I8.pin (b,o) (List.mem_append_right _ (List.mem_append_right _ (mem_pinsAt hb e)))).2.1
  cases b1 with
  |false=>
   rw[if_neg Bool.false_ne_true]at q14
   obtain⟨m',hm',w'⟩:=q14
   obtain⟨c1,c2⟩:=back1 I14
   exact wpAny_pure ⟨rfl,m',hm',i'+1,ys',its',σ13,H14,I14.unpinned,rv10,hlen10,c1,c2,w'⟩
  |true=>
   rw[if_pos rfl]at q14
   refine wpAny_bind (wpAny_bind (wpAny_mono (he _ s14 σ13 H14 _ I14 q14) (fun yv s15 ⟨y,H15,I15,r15,q15⟩=>?_) (fun _ _ z=>hb z)))
   obtain⟨m',hm',w'⟩:=q15
   obtain⟨c1,c2⟩:=back1 I15
   have pD15:=I15.pin (D,LCg.lst its') (List.mem_append_right _ (List.mem_append_left _ (List.mem_append_left _ (by simp))))
   have hl15:=rv10.length
   refine wpAny_bind (append_at (hsz:=by show its'.toArray.size≤sizeLine;rw[List.size_toArray,←hl15];exact hlen10) pD15.1 fun h9 hs9 hD9=>?_)
   have J0:Inv X [] σ13 H15 s15:=I15.pins_of fun p hp=>absurd hp (by simp)
   have J1:Inv X [] σ13 H15 {s15 with heap:=h9,toks:=s15.toks}:=J0.chg (ch:=[D]) (fun b hb=>by
    have e:b=D:=by simpa using hb
    rw[e];exact statD pD15.2.1) fun b o hb e=>hs9.extBut _ _ (by simpa using hb) e
   have hD9':h9.get? D=some (LCg.lst (its'++[yv])):=hD9.trans (congrArg some (LCg.lst_snoc its' yv))
   have J2:Inv X ([(D,LCg.lst (its'++[yv]))]++P) σ13 H15 {s15 with heap:=h9,toks:=s15.toks}:=J1.pins_of fun p hp=>by
    rcases List.mem_append.mp hp with hp|hp
    ·have e:p=(D,LCg.lst (its'++[yv])):=by simpa using hp
     rw[e]
     have z:=statD pD15.2.1
     exact⟨hD9',pD15.2.1,z.2.1,z.2.2.1,fun v q=>by cases q⟩
    ·have z:=I15.pin p (List.mem_append_right _ (List.mem_append_left _ (List.mem_append_right _ hp)))
     exact⟨hs9.extBut _ _ (hPD p hp) z.1,z.2⟩
   refine wpAny_pure (wpAny_pure ⟨rfl,m',hm',i'+1,ys'++[y],its'++[yv],σ13,H15,J2,rv10.append (.cons r15 .nil),by rw[List.length_append,List.length_singleton];exact hz1,T.keep _ _ _ c1 fun b hb o e=>hs9.extBut _ _ ?_ e,c2,w'⟩)
   obtain⟨_,_,_,_,_,k5⟩:=f9 b hb
   exact Ne.symm (k5 (D,LCg.lst its) (by rw[hX.pn];simp))
theorem runs_mid(hX:CalmX X)
  (hturn:∀it acc env,compTurn (.ListComp elt gens scope pos) k it acc env=(standAt i0.pos >>=fun _=>pyNext it >>=fun r=>match r with
   |none=>pure (.done .next)
   |some v=>letOwnedTupleGo tg it v >>=fun _=>assign tg env v >>=fun _=>testsM fs env >>=fun ok=>
    if ok=true then(eval i1 env >>=fun x=>standAt i1.pos >>=fun _=>foldedSetIterable i1 env x >>=fun x=>holding [x] (pyIter x) >>=fun j=>runOwn (.compStart (.ListComp elt gens scope pos) (k+1) j acc env) env >>=fun _=>again (.compLoop (.ListComp elt gens scope pos) k it acc env))
    else again (.compLoop (.ListComp elt gens scope pos) k it acc env)))
  (hstart:∀{A:Around} {R:Result→Shared→Prop} {s:Shared} {it acc:Value} {env:Env},codeAny (model X.prog X.w) A (.compLoop (.ListComp elt gens scope pos) (k+1) it acc env) R s→
   wpAny (model X.prog X.w) A (pyIter it) (fun it' s'=>codeAny (model X.prog X.w) A (.compLoop (.ListComp elt gens scope pos) (k+1) it' acc env) R s') (notedBy (model X.prog X.w) A env fun x s'=>R (.error x) s') s→codeAny (model X.prog X.w) A (.compStart (.ListComp elt gens scope pos) (k+1) it acc env) R s)
  (hg:PG X tg g) (ht:PTs X fs tt) (hi1:PI X t1 i1 wi) (hs1:∀x,foldedSetIterable i1 X.env x=pure x) (hin:Runs X D (.ListComp elt gens scope pos) (k+1) t1 inner):Runs X D (.ListComp elt gens scope pos) k tg (MidT g tt wi inner):=by
 intro P s H σ ys its it fp tn J Fin R hPD I rv hlen T st f9 turns hR
 obtain⟨W,⟨m0,w0⟩,turn⟩:=turns
 have hb:∀{A:Prop} {x:Value} {s':Shared},X.xe x s'→A:=fun{A x s'} z=>by rw[hX.xe]at z;exact z.elim
 refine codeAny_loop rfl (fun n s'=>∃i' ys' its' σ' H',Inv X ([(D,LCg.lst its')]++P) σ' H' s'∧Vals ys' its'∧ys'.length≤sizeLine∧tn i' s'.heap∧(∀b∈fp,H' b=none)∧W i' n ys' σ' H') (fun n s3 hI=>?_) m0
  ⟨0,ys,its,σ,H,I,rv,hlen,st,fun b hb=>(f9 b hb).1,w0⟩
 show wpAny _ X.A ((compTurn (.ListComp elt gens scope pos) k (.ref it) (.ref D) X.env).onRaise (fun x=>do noteFrame x X.env;theTreesLotGoes x)) _ _ s3
 refine wpAny_noted ?_
 rw[hturn]
 obtain⟨i',ys',its',σ10,H10,I10,rv10,hlen10,st10,fr10,w10⟩:=hI
 refine wpAny_bind (wpAny_standAt (wpAny_bind ?_))
 rcases turn i' n ys' σ10 H10 w10 with⟨stop1,fin1⟩|⟨go1,step1⟩
 ·have dn:=T.done X rfl rfl rfl hX.calm i' _ s3 σ10 H10 (fun _ _=>False) I10 (fun b hb=>fpx_of hX.pn (f9 b hb) (fr10 b hb)) st10 stop1
  refine wpAny_mono dn (fun r s11 ⟨hr,I11⟩=>?_) fun _ _ z=>z.elim
  subst hr
  exact wpAny_pure (hR _ ys' its' σ10 H10 I11 rv10 hlen10 fin1)
 ·have itm1:=T.item X rfl rfl rfl hX.calm i' _ s3 σ10 H10 (fun _ _=>False) I10 (fun b hb=>fpx_of hX.pn (f9 b hb) (fr10 b hb)) st10 go1
  refine wpAny_mono itm1 (fun r s11 ⟨u1,hr,h11⟩=>?_) fun _ _ z=>z.elim
  subst hr
  refine wpAny_bind (wpAny_mono h11 (fun _ s12 ⟨x1,H12,I12,r12,y12,st12,fr12⟩=>?_) fun _ _ z=>z.elim)
  have I12':=I12.pinned (fun b hb=>fpx_of hX.pn (f9 b hb) (fr12 b hb)) (T.obj _ _ st12)
  refine wpAny_bind (wpAny_mono (hg _ s12 σ10 H12 x1 u1 _ I12' r12 (step1 x1 H12 y12)) (fun _ s13 ⟨σ13,H13,I13,q13⟩=>?_) (fun _ _ z=>hb z))
  refine wpAny_bind (wpAny_mono (ht _ s13 σ13 H13 _ I13 q13) (fun b1 s14 ⟨H14,I14,q14⟩=>?_) (fun _ _ z=>hb z))
  have back1:∀{its8:List Value} {σ8:St} {H8:Hp} {s8:Shared},Inv X (([(D,LCg.lst its8)]++P)++pinsAt fp s12.heap) σ8 H8 s8→tn (i'+1) s8.heap∧∀b∈fp,H8 b=none:=fun{its8 σ8 H8 s8} I8=>by
   refine⟨T.keep _ _ _ st12 fun b hb o e=>(I8.pin (b,o) (List.mem_append_right _ (List.mem_append_right _ (mem_pinsAt hb e)))).1,fun b hb=>?_⟩
   obtain⟨o,e,_⟩:=T.obj _ _ st12 b hb
   exact(I8.pin (b,o) (List.mem_append_right _ (List.mem_append_right _ (mem_pinsAt hb e)))).2.1
  cases b1 with
  |false=>
   rw[if_neg Bool.false_ne_true]at q14
   obtain⟨m',hm',w'⟩:=q14
   obtain⟨c1,c2⟩:=back1 I14
   exact wpAny_pure ⟨rfl,m',hm',i'+1,ys',its',σ13,H14,I14.unpinned,rv10,hlen10,c1,c2,w'⟩
  |true=>
   rw[if_pos rfl]at q14
   refine wpAny_bind (wpAny_mono (hi1 _ s14 σ13 H14 _ I14 q14) (fun v s8 h8=>?_) (fun _ _ z=>hb z))
   refine wpAny_bind (wpAny_standAt ?_)
   rw[hs1]
   refine wpAny_bind (wpAny_pure (wpAny_bind (wpAny_holding (wpAny_mono h8 (fun jv s9 h9=>?_) (fun _ _ z=>hb z)))))
   obtain⟨it1,fp1,tn1,J1,H9,rfl,I9,T1,st9,f1,q1⟩:=h9
   have run:=hin (P++pinsAt fp s12.heap) s9 H9 σ13 ys' its' it1 fp1 tn1 J1 _ (fun r s'=>match r with
     |.ok _=>∃m,m<n∧∃i' ys' its' σ' H',Inv X ([(D,LCg.lst its')]++P) σ' H' s'∧Vals ys' its'∧ys'.length≤sizeLine∧tn i' s'.heap∧(∀b∈fp,H' b=none)∧W i' m ys' σ' H'
     |.error _=>False) (fun p hp=>by
      rcases List.mem_append.mp hp with z|z
      ·exact hPD p z
      ·obtain⟨hb',_⟩:=of_pinsAt z
       obtain⟨_,_,_,_,_,k5⟩:=f9 p.1 hb'
       exact Ne.symm (k5 (D,LCg.lst its) (by rw[hX.pn];simp))) (by rw[←List.append_assoc];exact I9) rv10 hlen10 T1 st9 (by rw[←List.append_assoc];exact f1) q1
    (fun s' ys8 its8 σ8 H8 I8 rv8 hl8 fin8=>by
     obtain⟨m',hm',w'⟩:=fin8
     rw[←List.append_assoc]at I8
     obtain⟨c1,c2⟩:=back1 I8
     exact⟨m',hm',i'+1,ys8,its8,σ8,H8,I8.unpinned,rv8,hl8,c1,c2,w'⟩)
   refine wpAny_bind (wpAny_runOwn (h:=none) ?_)
   rw[Around.mark_none]
   refine codeAny_mono (hstart run (T1.self X.A 0 _ _ _ st9 run)) fun r s' hr=>?_
   cases r with
   |ok f=>exact wpAny_pure ⟨rfl,hr⟩
   |error e=>exact hr.elim
end
section
variable{X:Cx}{pins:List (Addr×Obj)}{σ:St}{scope:Scope}{own:List Str}{fre:List (Nat×Str)}{elt tg:Expr}{gens:List Comprehension}{pos:Pos}{body:It→(List V→St→Hp→Prop)→List V→St→Hp→Prop}
theorem comp_blockM{s2:Shared}{H2:Hp}{it:Addr}{fp:List Addr}{tn:Nat→Heap→Prop}{J:It}{Fin:List V→Hp→Prop}{RR:Value→Addr→Result→Shared→Prop}{E:Value→Shared→Prop}
  (hc:X.calm=true) (S:CompScope X.N X.env.scope scope own fre) (I2:Inv X pins σ H2 s2) (T:Turn X.prog X.w X.K tg J fp it tn) (st2:tn 0 s2.heap) (f2:∀b∈fp,FpOk X pins H2 b)
  (hrun:∀cl C s₂ H₂ fp D,CalmX (cxC X (own++fre.map (·.2)) scope cl C s₂ H₂ fp)→(∀{H':Hp},H' D=none→FpOk (cxC X (own++fre.map (·.2)) scope cl C s₂ H₂ fp) [] H' D)→Runs (cxC X (own++fre.map (·.2)) scope cl C s₂ H₂ fp) D (.ListComp elt gens scope pos) 0 tg body)
  (turns:body J (fun ys _ H'=>Fin ys H') [] (startC own.length fre σ) H2)
  (hend:∀(D C:Addr) (s':Shared) (H':Hp) (ys:List V) (its:List Value) (m:Str→Option Value),s2.heap.objs.size≤D→s2.heap.objs.size≤C→D≠C→Inv X pins σ H' s'→H' D=none→H' C=none→s'.heap.get? D=some (LCg.lst its)→s'.heap.Ns C m→Vals ys its→ys.length≤sizeLine→Fin ys H'→RR (.ref D) C (.ok .next) s')
  (hst:∀{A:Around} {R:Result→Shared→Prop} {s:Shared} {it acc:Value} {env:Env},codeAny (model X.prog X.w) A (.compLoop (.ListComp elt gens scope pos) 0 it acc env) R s→
   wpAny (model X.prog X.w) A (pyIter it) (fun it' s'=>codeAny (model X.prog X.w) A (.compLoop (.ListComp elt gens scope pos) 0 it' acc env) R s') (notedBy (model X.prog X.w) A env fun x s'=>R (.error x) s') s→codeAny (model X.prog X.w) A (.compStart (.ListComp elt gens scope pos) 0 it acc env) R s):
  wpAny (model X.prog X.w) X.A (newList []) (fun acc s₃=>wpAny (model X.prog X.w) X.A (newFunctionEnv scope X.env.globals (clos X.env.cells scope.names []) [] X.env.qual none .none (some X.env)) (fun cenv s₄=>
   codeAny (model X.prog X.w) X.A (.compStart (.ListComp elt gens scope pos) 0 (.ref it) acc {cenv with scope:=relabel scope X.env}) (RR acc cenv.locals) s₄) E s₃) E s2:=by
 refine wpAny_newObj_type (wpAny_newFunctionEnv S.ocell (by intro y hy;simp at hy) (fun h₁ hns₁ hsb₁=>?_) S.kind)
 dsimp only at hns₁ hsb₁⊢
 generalize hH2:s2.heap.push {cls:=.type "list",dict:=none,data:=.seq ([]:List Value).toArray}=HH at hns₁ hsb₁⊢
 have hC:HH.objs.size=s2.heap.objs.size+1:=by rw[←hH2,Heap.size_push]
 have hDC:s2.heap.objs.size≠HH.objs.size:=by rw[hC];exact Nat.ne_of_lt (Nat.lt_succ_self _)
 have hCle:s2.heap.objs.size≤HH.objs.size:=by rw[hC];exact Nat.le_succ _
 have old:∀b o,s2.heap.get? b=some o→h₁.get? b=some o:=fun b o e=>
  hsb₁.extBut b o (by rw[hC];exact Nat.ne_of_lt (Nat.lt_succ_of_lt (Heap.lt_size e))) (Heap.get?_push_of_some _ (hH2▸Heap.get?_push_of_some _ e))
 have hacc:h₁.get? s2.heap.objs.size=some (LCg.lst []):=hsb₁.extBut _ _ hDC (Heap.get?_push_of_some _ (hH2▸Heap.get?_push_size _ rfl))
 have hfo:∀b∈fp,∃o,s2.heap.get? b=some o:=fun b hb=>by obtain⟨o,e,_⟩:=T.obj _ _ st2 b hb;exact⟨o,e⟩
 have flt:∀b∈fp,b<s2.heap.objs.size:=fun b hb=>by obtain⟨o,e⟩:=hfo b hb;exact Heap.lt_size e
 have I1:=inv_comp (tk:=s2.toks+([]:List (Str×Value)).length) I2 S f2 hfo old hCle hns₁ (Nat.le_refl _) hDC hacc
 have hrun':=hrun (clos X.env.cells scope.names []) HH.objs.size s2 H2 fp s2.heap.objs.size
 generalize hX':cxC X (own++fre.map (·.2)) scope (clos X.env.cells scope.names []) HH.objs.size s2 H2 fp=X' at I1 hrun'
 have eP:X'.prog=X.prog:=by rw[←hX'];rfl
 have eW:X'.w=X.w:=by rw[←hX'];rfl
 have eK:X'.K=X.K:=by rw[←hX'];rfl
 have eA:X'.A=X.A:=by rw[←hX'];rfl
 have eE:X'.env=compEnvC scope (clos X.env.cells scope.names []) HH.objs.size X.env:=by rw[←hX'];rfl
 have eX:X'.xe=fun _ _=>False:=by rw[←hX'];rfl
 have ePn:X'.pn=[]:=by rw[←hX'];rfl
 have eC:X'.calm=true:=by rw[←hX'];exact hc
 have eS:X'.s₀=s2:=by rw[←hX'];rfl
 have eH:X'.H₀=H2:=by rw[←hX'];rfl
 have eF:X'.fs=frs X.stack:=by rw[←hX'];rfl
 have eEx:X'.ex=fp:=by rw[←hX'];rfl
 have ccell:∀x c,X'.env.cells.lookup x=some c→c<s2.heap.objs.size:=fun x c e=>by
  rw[eE]at e
  obtain⟨v,q⟩:=I2.cell x c (I2.clos_sub S e)
  exact q.lt
 have stat:∀{H':Hp} {o:Obj},(∀b∈fp,H' b=none)→∀b∈fp,FpOk X' [(s2.heap.objs.size,o)] H' b:=fun{H' o} hn b hb=>by
  refine⟨hn b hb,?_,?_,.inl (by rw[eEx];exact hb),fun x c e=>?_,fun p hp=>?_⟩
  ·rw[eE];exact Nat.ne_of_lt (Nat.lt_of_lt_of_le (flt b hb) hCle)
  ·rw[eF];intro z
   rcases List.mem_cons.mp (I2.stkSub b z)with q|q
   ·exact(f2 b hb).2.1 q
   ·exact(f2 b hb).2.2.1 q
  ·rw[eE]at e
   exact(f2 b hb).2.2.2.2.1 x c (I2.clos_sub S e)
  ·rw[ePn]at hp
   have e:p=(s2.heap.objs.size,o):=by simpa using hp
   rw[e]
   exact Nat.ne_of_gt (flt b hb)
 have statD:∀{H':Hp},H' s2.heap.objs.size=none→FpOk X' [] H' s2.heap.objs.size:=fun{H'} hn=>by
  refine⟨hn,?_,?_,.inr (by rw[eS];exact Nat.le_refl _),fun x c e=>Nat.ne_of_lt (ccell x c e),fun p hp=>?_⟩
  ·rw[eE];exact hDC
  ·rw[eF];intro z
   rcases List.mem_cons.mp (I2.stkSub _ z)with q|q
   ·exact absurd I2.lt (by rw[←q];exact Nat.lt_irrefl _)
   ·exact I2.nofs (Nat.le_refl _) q
  ·rw[ePn]at hp;cases hp
 have loop:∀s₃:Shared,s₃={s2 with heap:=h₁,toks:=s2.toks+([]:List (Str×Value)).length}→
   codeAny (model X.prog X.w) X.A (.compLoop (.ListComp elt gens scope pos) 0 (.ref it) (.ref s2.heap.objs.size) (compEnvC scope (clos X.env.cells scope.names []) HH.objs.size X.env))
    (RR (.ref s2.heap.objs.size) HH.objs.size) s₃:=by
  rintro s₃ rfl
  have run:=hrun' ⟨eX,ePn,eC⟩ statD [] _ H2 _ [] [] it fp tn J _ (RR (.ref s2.heap.objs.size) HH.objs.size) (fun p hp=>absurd hp (by simp)) (by rw[List.append_nil];exact I1) .nil (Nat.zero_le _) (by rw[eP,eW,eK];exact T)
   (T.keep _ _ _ st2 fun b _ o e=>old b o e) (by rw[List.append_nil];exact stat fun b hb=>(f2 b hb).1) turns (fun s4 ys its σ3 H3 I4 rv hlen fin=>by
    rw[List.append_nil]at I4
    have pD4:=I4.pin (s2.heap.objs.size,LCg.lst its) (by rw[ePn];simp)
    obtain⟨m4,hn4,_⟩:=I4.loc
    have b4:Un (frs X.stack) fp H2 H3 s2.heap s4.heap:=by
     have z:=I4.base
     rw[eF,eEx,eH,eS]at z
     exact z
    have o4:s4.os=s2.os:=by have z:=I4.os;rw[eS]at z;exact z
    have k4:HOk X.prog X.w H3 s4.heap:=by have z:=I4.hok;rw[eP,eW]at z;exact z
    have Io:Inv X pins σ H3 s4:=I2.call' o4 b4 k4 I4.bare fun b hb=>by
     obtain⟨_,f1,_,f3,f4,f5⟩:=f2 b hb
     exact⟨f3,f1,f4,f5⟩
    refine hend _ _ s4 H3 ys its m4 (Nat.le_refl _) hCle hDC Io pD4.2.1 ?_ pD4.1 ?_ rv hlen fin
    ·have z:=I4.free;rw[eE]at z;exact z
    ·rw[eE]at hn4;exact hn4)
  rw[eP,eW,eA,eE]at run
  exact run
 exact hst (loop _ rfl) (T.self X.A 0 _ _ _ (T.keep _ _ _ st2 fun b _ o e=>old b o e) (loop _ rfl))
end
abbrev three(elt t0 i0:Expr)(f0:List Expr)(t1 i1:Expr)(f1:List Expr)(t2 i2:Expr)(f2:List Expr)(scope:Scope)(pos:Pos):Expr:=.ListComp elt [⟨t0,i0,f0,0⟩,⟨t1,i1,f1,0⟩,⟨t2,i2,f2,0⟩] scope pos
section
variable{prog:Program}{w:World}{A:Around}{R:Result→Shared→Prop}{s:Shared}{elt t0 i0 t1 i1 t2 i2:Expr}{f0 f1 f2:List Expr}{scope:Scope}{pos:Pos}{it acc:Value}{env:Env}
theorem start3_0(h0:codeAny (model prog w) A (.compLoop (three elt t0 i0 f0 t1 i1 f1 t2 i2 f2 scope pos) 0 it acc env) R s)
  (h:wpAny (model prog w) A (pyIter it) (fun it' s'=>codeAny (model prog w) A (.compLoop (three elt t0 i0 f0 t1 i1 f1 t2 i2 f2 scope pos) 0 it' acc env) R s') (notedBy (model prog w) A env fun x s'=>R (.error x) s') s):
  codeAny (model prog w) A (.compStart (three elt t0 i0 f0 t1 i1 f1 t2 i2 f2 scope pos) 0 it acc env) R s:=codeAny_compStart_list h0 h
theorem start3_1(h0:codeAny (model prog w) A (.compLoop (three elt t0 i0 f0 t1 i1 f1 t2 i2 f2 scope pos) 1 it acc env) R s)
  (h:wpAny (model prog w) A (pyIter it) (fun it' s'=>codeAny (model prog w) A (.compLoop (three elt t0 i0 f0 t1 i1 f1 t2 i2 f2 scope pos) 1 it' acc env) R s') (notedBy (model prog w) A env fun x s'=>R (.error x) s') s):
  codeAny (model prog w) A (.compStart (three elt t0 i0 f0 t1 i1 f1 t2 i2 f2 scope pos) 1 it acc env) R s:=by
 refine codeAny_of_tree ?_
 show wpAny _ _ ((compStart (three elt t0 i0 f0 t1 i1 f1 t2 i2 f2 scope pos) 1 it acc env).onRaise _) _ _ s
 refine wpAny_notedAt ?_
 unfold compStart
 show wpAny _ _ (ask >>=_) _ _ s
 refine wpAny_bind (wpAny_askSetting (wpAny_ite ?_))
 split
 ·first|exact wpAny_bind (wpAny_pure (wpAny_pure ⟨rfl,h0⟩))|exact wpAny_pure ⟨rfl,h0⟩
 ·refine wpAny_bind (wpAny_rule ?_)
  show wpAny _ _ (standAt i1.pos >>=_) _ _ s
  exact wpAny_bind (wpAny_standAt (wpAny_bind (wpAny_mono h (fun it' s' h'=>wpAny_pure ⟨rfl,h'⟩) fun _ _ z=>z)))
theorem start3_2(h0:codeAny (model prog w) A (.compLoop (three elt t0 i0 f0 t1 i1 f1 t2 i2 f2 scope pos) 2 it acc env) R s)
  (h:wpAny (model prog w) A (pyIter it) (fun it' s'=>codeAny (model prog w) A (.compLoop (three elt t0 i0 f0 t1 i1 f1 t2 i2 f2 scope pos) 2 it' acc env) R s') (notedBy (model prog w) A env fun x s'=>R (.error x) s') s):
  codeAny (model prog w) A (.compStart (three elt t0 i0 f0 t1 i1 f1 t2 i2 f2 scope pos) 2 it acc env) R s:=by
 refine codeAny_of_tree ?_
 show wpAny _ _ ((compStart (three elt t0 i0 f0 t1 i1 f1 t2 i2 f2 scope pos) 2 it acc env).onRaise _) _ _ s
 refine wpAny_notedAt ?_
 unfold compStart
 show wpAny _ _ (ask >>=_) _ _ s
 refine wpAny_bind (wpAny_askSetting (wpAny_ite ?_))
 split
 ·first|exact wpAny_bind (wpAny_pure (wpAny_pure ⟨rfl,h0⟩))|exact wpAny_pure ⟨rfl,h0⟩
 ·refine wpAny_bind (wpAny_rule ?_)
  show wpAny _ _ (standAt i2.pos >>=_) _ _ s
  exact wpAny_bind (wpAny_standAt (wpAny_bind (wpAny_mono h (fun it' s' h'=>wpAny_pure ⟨rfl,h'⟩) fun _ _ z=>z)))
end
noncomputable def tComp3(n:Nat)(fre:List (Nat×Str))(wi:TI)(g:TG)(tt:TT)(wi1:TI)(g1:TG)(tt1:TT)(wi2:TI)(g2:TG)(tt2:TT)(te:TE):TE:=fun σ H Q=>wi σ H fun J H1=>MidT g tt wi1 (MidT g1 tt1 wi2 (LastT g2 tt2 te)) J (fun ys _ H'=>∀D,H' D=none→Q (.ref D) (upd H' D (.lst ys))) [] (startC n fre σ) H1
section
variable{X:Cx}{pins:List (Addr×Obj)}{σ:St}{scope:Scope}{own:List Str}{fre:List (Nat×Str)}{elt tg iter t1 i1 t2 i2:Expr}{ifs f1 f2:List Expr}{pos:Pos}{wi wi1 wi2:TI}{g g1 g2:TG}{tt tt1 tt2:TT}{te:TE}
theorem pe_lcomp3(hc:X.calm=true)(S:CompScope X.N X.env.scope scope own fre)(hi:PI X tg iter wi)
  (hg:∀cl C s₂ H₂ fp,PG (cxC X (own++fre.map (·.2)) scope cl C s₂ H₂ fp) tg g) (ht:∀cl C s₂ H₂ fp,PTs (cxC X (own++fre.map (·.2)) scope cl C s₂ H₂ fp) ifs tt) (he:∀cl C s₂ H₂ fp,PE (cxC X (own++fre.map (·.2)) scope cl C s₂ H₂ fp) elt te)
  (hi1:∀cl C s₂ H₂ fp,PI (cxC X (own++fre.map (·.2)) scope cl C s₂ H₂ fp) t1 i1 wi1) (hg1:∀cl C s₂ H₂ fp,PG (cxC X (own++fre.map (·.2)) scope cl C s₂ H₂ fp) t1 g1) (ht1:∀cl C s₂ H₂ fp,PTs (cxC X (own++fre.map (·.2)) scope cl C s₂ H₂ fp) f1 tt1)
  (hi2:∀cl C s₂ H₂ fp,PI (cxC X (own++fre.map (·.2)) scope cl C s₂ H₂ fp) t2 i2 wi2) (hg2:∀cl C s₂ H₂ fp,PG (cxC X (own++fre.map (·.2)) scope cl C s₂ H₂ fp) t2 g2) (ht2:∀cl C s₂ H₂ fp,PTs (cxC X (own++fre.map (·.2)) scope cl C s₂ H₂ fp) f2 tt2)
  (hs:∀x,foldedSetIterable iter X.env x=pure x:=by intro _;rfl) (hs1:∀cl C x,foldedSetIterable i1 (compEnvC scope cl C X.env) x=pure x:=by intro _ _ _;rfl) (hs2:∀cl C x,foldedSetIterable i2 (compEnvC scope cl C X.env) x=pure x:=by intro _ _ _;rfl):PE X (three elt tg iter ifs t1 i1 f1 t2 i2 f2 scope pos) (tComp3 own.length fre wi g tt wi1 g1 tt1 wi2 g2 tt2 te):=by
 intro pins s σ H Q I h
 rw[eval_ListComp]
 refine wpAny_comprehension_free (use:=none) rfl hs (closureFor_clos (I.clos_cells S)) S.kind S.locs (thn (hi pins s σ H _ I h) fun v s1 h1=>thn h1 fun itv s2 h2=>?_)
 obtain⟨it,fp,tn,J,H2,e,I2,T,st2,f2,turns⟩:=h2
 subst e
 refine comp_blockM (RR:=fun acc C=>compPost (model X.prog X.w) X.A X.xe none (EP X pins σ Q) acc C) hc S I2 T st2 f2 (fun cl C s₂ H₂ fp D cx sd=>?_) turns ?_ start3_0
 ·refine runs_mid (i0:=iter) (i1:=i1) (fs:=ifs) cx (fun _ _ _=>rfl) start3_1 (hg _ _ _ _ _) (ht _ _ _ _ _) (hi1 _ _ _ _ _) (hs1 _ _) ?_
  refine runs_mid (i0:=i1) (i1:=i2) (fs:=f1) cx (fun _ _ _=>rfl) start3_2 (hg1 _ _ _ _ _) (ht1 _ _ _ _ _) (hi2 _ _ _ _ _) (hs2 _ _) ?_
  exact runs_last (i0:=i2) cx sd (fun _ _ _=>rfl) (hg2 _ _ _ _ _) (ht2 _ _ _ _ _) (he _ _ _ _ _)
 ·intro D C s' H' ys its m hD hC hDC Io nD nC oD nsC rv hlen fin
  refine⟨m,nsC,fun h' hs'=>?_⟩
  have J1:Inv X pins σ H' {s' with heap:=h',toks:=s'.toks}:=Io.chg (ch:=[C]) (fun b hb=>by
   have e:b=C:=by simpa using hb
   rw[e];exact I2.fpOk hC nC) fun b o hb e=>hs'.extBut _ _ (by simpa using hb) e
  have J2:=J1.track (o:=.lst ys) (I2.fpOk hD nD) ⟨hlen,its,_,rv,hs'.extBut _ _ hDC oD⟩
  exact⟨.ref D,_,J2,rfl,fin D nD⟩
end
theorem i_comp3{σ:St}{H:Hp}{Q:VK}{n:Nat}{fre:List (Nat×Str)}{wi:TI}{g:TG}{tt:TT}{wi1:TI}{g1:TG}{tt1:TT}{wi2:TI}{g2:TG}{tt2:TT}{te:TE}(q:wi σ H fun J H1=>MidT g tt wi1 (MidT g1 tt1 wi2 (LastT g2 tt2 te)) J (fun ys _ H'=>∀D,H' D=none→Q (.ref D) (upd H' D (.lst ys))) [] (startC n fre σ) H1):tComp3 n fre wi g tt wi1 g1 tt1 wi2 g2 tt2 te σ H Q:=q
section
variable{σ:St}{H:Hp}{J:It}{g:TG}{tt:TT}{te:TE}{wi:TI}{inner:It→(List V→St→Hp→Prop)→List V→St→Hp→Prop}{Fin:List V→St→Hp→Prop}{ys0:List V}
theorem lastW(W:Nat→List V→St→Hp→Prop)(n:Nat)(w0:W 0 ys0 σ H)(fin:∀ys σ' H',W n ys σ' H'→J.stop n H'∧Fin ys σ' H')
  (step:∀i ys σ' H',i<n→W i ys σ' H'→J.go i H'∧ys.length<sizeLine∧∀x H2,J.yld i H' x H2→g x σ' H2 fun σ3 H3=>tt σ3 H3 fun b H4=>if b=true then te σ3 H4 fun y H5=>∃m',m'<n - i∧(i+1≤n∧m'=n - (i+1)∧W (i+1) (ys++[y]) σ3 H5)else ∃m',m'<n - i∧(i+1≤n∧m'=n - (i+1)∧W (i+1) ys σ3 H4)):LastT g tt te J Fin ys0 σ H:=by
 refine⟨fun i m ys σ' H'=>i≤n∧m=n - i∧W i ys σ' H',⟨n,Nat.zero_le _,rfl,w0⟩,?_⟩
 rintro i m ys σ' H' ⟨hi,rfl,hw⟩
 rcases Nat.lt_or_ge i n with hlt|hge
 ·right
  exact step i ys σ' H' hlt hw
 ·left
  obtain rfl:i=n:=by omega
  exact fin _ _ _ hw
theorem midW(W:Nat→List V→St→Hp→Prop)(n:Nat)(w0:W 0 ys0 σ H)(fin:∀ys σ' H',W n ys σ' H'→J.stop n H'∧Fin ys σ' H')
  (step:∀i ys σ' H',i<n→W i ys σ' H'→J.go i H'∧∀x H2,J.yld i H' x H2→g x σ' H2 fun σ3 H3=>tt σ3 H3 fun b H4=>if b=true then wi σ3 H4 fun J1 H5=>inner J1 (fun ys' σ5 H6=>∃m',m'<n - i∧(i+1≤n∧m'=n - (i+1)∧W (i+1) ys' σ5 H6)) ys σ3 H5 else ∃m',m'<n - i∧(i+1≤n∧m'=n - (i+1)∧W (i+1) ys σ3 H4)):MidT g tt wi inner J Fin ys0 σ H:=by
 refine⟨fun i m ys σ' H'=>i≤n∧m=n - i∧W i ys σ' H',⟨n,Nat.zero_le _,rfl,w0⟩,?_⟩
 rintro i m ys σ' H' ⟨hi,rfl,hw⟩
 rcases Nat.lt_or_ge i n with hlt|hge
 ·right
  exact step i ys σ' H' hlt hw
 ·left
  obtain rfl:i=n:=by omega
  exact fin _ _ _ hw
end
section
variable{X:Cx}{K:W.Frag}
noncomputable def rSum(K:W.Frag):List V→Hp→VK→Prop:=fun xs H Q=>∃(p:Addr) (ns:List Int),xs=[.ref p]∧(SqL K H p (ns.map V.int)∨SqT K H p (ns.map V.int))∧Q (.int ns.sum) H
theorem call_sumX(hc:X.calm=true):CallR X (.builtin "sum") (rSum X.K):=by
 intro pins s σ H xs us Q I r h
 obtain⟨p,ns,rfl,hq,q⟩:=h
 obtain⟨u,rfl,rx⟩:=vals1 r
 cases rx
 rcases hq with hq|hq
 ·obtain⟨its,r',pl,hz⟩:=I.list hq
  have hi:=ints_of_vals r'
  have hl:=pl.isList
  obtain⟨ys,hx⟩:=hi.allInts.items
  have hn:numsOf its.toArray.toList=ns:=by rw[show its.toArray.toList=its from rfl,hi.numsOf]
  rw[hx]at hl hn
  rw[nums_intItems]at hn
  refine sum_intListG (I.ok.hd hc) hl fun h' tk t' hk=>?_
  rw[preSum_eq,List.take_of_length_le (by simp),hn]
  exact⟨.int ns.sum,H,I.kept (t':=tk) hk,⟨_,rfl⟩,q⟩
 ·obtain⟨its,r',pl,hz⟩:=I.tuple hq
  have hi:=ints_of_vals r'
  have hl:s.heap.IsTuple p its.toArray:=pl
  obtain⟨ys,hx⟩:=hi.allInts.items
  have hn:numsOf its.toArray.toList=ns:=by rw[show its.toArray.toList=its from rfl,hi.numsOf]
  rw[hx]at hl hn
  rw[nums_intItems]at hn
  refine W.ktm_sumG (I.ok.hd hc) hl fun h' tk t' hk=>?_
  rw[preSum_eq,List.take_of_length_le (by simp),hn]
  exact⟨.int ns.sum,H,I.kept (t':=tk) hk,⟨_,rfl⟩,q⟩
theorem cSum(h:X.K=K)(hc:X.calm=true):CallR X (.builtin "sum") (rSum K):=by subst h;exact call_sumX hc
end
section
variable{prog:Program}{w:World}{A:Around}{E:Value→Shared→Prop}{s:Shared}
theorem draw_list{it t:Addr}{items:Array Value}(hne:t≠it):∀(n i:Nat) (s:Shared) (Q:List Value→Shared→Prop),s.heap.IsListIter it t i→s.heap.IsList t items→i+n≤items.size→
  (∀h',h'.IsListIter it t (i+n)→Heap.SameBut it s.heap h'→Q ((items.toList.drop i).take n) {s with heap:=h'})→wpAny (model prog w) A (draw (.ref it) n) Q E s
 |0,i,s,Q,hit,_,_,hQ=>by
  show wpAny _ _ (pure []) Q E s
  exact wpAny_pure (by simpa using hQ s.heap hit (Heap.SameBut.refl ..))
 |n+1,i,s,Q,hit,ht,hle,hQ=>by
  have hlt:i<items.size:=by omega
  show wpAny _ _ (pyNext (.ref it) >>=_) Q E s
  refine wpAny_bind (wpAny_pyNext_list_item hit ht (x:=items[i]) (by simp[hlt]) fun h₁ hit₁ hs₁=>?_)
  refine wpAny_bind (wpAny_holding (draw_list hne n (i+1) _ _ hit₁ (ht.extBut hs₁.extBut hne) (by omega) fun h₂ hit₂ hs₂=>wpAny_pure ?_))
  have hd:items.toList.drop i=items[i]::items.toList.drop (i+1):=by simp[List.drop_eq_getElem_cons,hlt]
  have:=hQ h₂ (by rw[show i+(n+1)=i+1+n by omega];exact hit₂) (hs₁.trans hs₂)
  rw[hd,List.take_succ_cons]at this
  exact this
theorem unpackItems_list{t:Addr}{items:Array Value}{Q:List Value→Shared→Prop}(hh:A.handled=none)(ht:s.heap.IsList t items)
  (hQ:∀h',Heap.ExtBut s.heap.objs.size s.heap h'→Q items.toList {s with heap:=h'}):wpAny (model prog w) A (unpackItems (.ref t) items.size none) Q E s:=by
 have hlt:t≠s.heap.objs.size:=by obtain⟨o,ho,_⟩:=ht;exact Nat.ne_of_lt (Heap.lt_size ho)
 unfold unpackItems
 refine wpAny_bind ?_
 ·unfold notIterableAtAll
  refine wpAny_bind (wpAny_specialOf ht.typeIs PySem.F.slot_list_iter.lookup ?_)
  refine wpAny_pure ?_
  simp only[Bool.false_eq_true,if_false]
  refine wpAny_bind (wpAny_holding (wpAny_pyIter_list ht ?_))
  refine wpAny_bind (wpAny_holding (draw_list hlt items.size 0 _ _ ⟨_,Heap.get?_push_size _ rfl,rfl,rfl⟩ (ht.push _) (by omega) fun h₁ hit₁ hs₁=>?_))
  have hall:List.take items.size (List.drop 0 items.toList)=items.toList:=by
   rw[List.drop_zero];exact List.take_of_length_le (by simp)
  rw[hall]
  rw[if_neg (by simp)]
  have ht₁:h₁.IsList t items:=(ht.push _).extBut hs₁.extBut hlt
  refine wpAny_bind (wpAny_holding (wpAny_pyNext_list_end hh hit₁ ht₁ (by simp) fun h₂ he₂=>?_))
  simp only[Option.isSome_none,Bool.false_eq_true,if_false]
  refine wpAny_pure (hQ h₂ fun b o hb e=>he₂ b o hb (hs₁.extBut b o hb (Heap.get?_push_of_some _ e)))
end
section
variable{X:Cx}{K:W.Frag}{pos:Pos}
noncomputable def gLst(K:W.Frag)(n:Nat)(t:TGs):TG:=fun v σ H Q=>∃a xs,v=.ref a∧SqL K H a xs∧xs.length=n∧t xs σ H Q
theorem pg_lst{es:List Expr}{k:Nat}{t:TGs}{n:Nat}(hc:X.calm=true)(h:PGs X es t)
  (hn:(assignEach es X.env).length=n:=by rfl) (hst:(assignEach es X.env).findIdx? (·.1)=none:=by rfl):PG X (.Tuple es k pos) (gLst X.K n t):=by
 intro pins s σ H v u Q I r hw
 obtain⟨a,xs,e1,hq,hl,hw⟩:=hw
 subst e1
 cases r
 obtain⟨its,rv,ht,hz⟩:=I.list hq
 have hlen:=rv.length
 rw[assign_Tuple]
 refine wpAny_bind (wpAny_standAt ?_)
 unfold unpack
 rw[hst]
 refine wpAny_bind (wpAny_holding ?_)
 have e:(assignEach es X.env).length=its.toArray.size:=by rw[hn,←hl,hlen,List.size_toArray]
 rw[e]
 refine unpackItems_list (I.ok.hd hc) ht.isList fun h' hx=>?_
 have I1:Inv X pins σ H {s with heap:=h'}:=I.kept (t':=s.toks) fun b o e=>hx b o (Nat.ne_of_lt (Heap.lt_size e)) e
 exact h pins _ σ H xs _ Q I1 (by simpa using rv) hw
theorem pgLs{es:List Expr}{k:Nat}{t:TGs}{n:Nat}{pos:Pos}(h:X.K=K)(hc:X.calm=true)(hh:PGs X es t)
  (hn:(assignEach es X.env).length=n:=by rfl) (hst:(assignEach es X.env).findIdx? (·.1)=none:=by rfl):PG X (.Tuple es k pos) (gLst K n t):=by subst h;exact pg_lst hc hh hn hst
end
section
variable{σ:St}{H:Hp}{Q:VK}{K:W.Frag}
theorem i_sum{p:Addr}{ns:List Int}(h:SqL K H p (ns.map V.int))(q:Q (.int ns.sum) H):rSum K [.ref p] H Q:=⟨p,ns,rfl,.inl h,q⟩
theorem i_sumT{p:Addr}{ns:List Int}(h:SqT K H p (ns.map V.int))(q:Q (.int ns.sum) H):rSum K [.ref p] H Q:=⟨p,ns,rfl,.inr h,q⟩
theorem i_glst{n:Nat}{t:TGs}{a:Addr}{xs:List V}{N:St→Hp→Prop}(h:SqL K H a xs)(l:xs.length=n)(q:t xs σ H N):gLst K n t (.ref a) σ H N:=⟨a,xs,rfl,h,l,q⟩
end
noncomputable def TsAt(H:Hp)(ts:List Addr)(yss:List (List Int)):Prop:=ts.length=yss.length∧∀(i:Nat) t ys,ts[i]?=some t→yss[i]?=some ys→H t=some (.tup (ys.map V.int))
theorem TsAt.same{H H':Hp}{ts:List Addr}{yss:List (List Int)}(s:Same H H')(h:TsAt H ts yss):TsAt H' ts yss:=⟨h.1,fun i t p e1 e2=>s _ _ (h.2 i t p e1 e2)⟩
theorem ref_valsT:∀{ts:List Addr} {us:List Value},Vals (ts.map V.ref) us→us=ts.map Value.ref
 |[],us,r=>by
  have:=r.length
  cases us with
  |nil=>rfl
  |cons _ _=>simp at this
 |t::ts,us,r=>by
  cases us with
  |nil=>have:=r.length;simp at this
  |cons u us=>
   obtain⟨u0,e0,q0⟩:=r.get (i:=0) (x:=.ref t) rfl
   cases e0
   have e:u=.ref t:=q0
   rw[e,ref_valsT (ts:=ts) (us:=us) (by cases r;assumption)]
   rfl
theorem ints_inj:∀{xs ys:List Int},xs.map V.int=ys.map V.int→xs=ys
 |[],[],_=>rfl
 |[],_::_,h=>by simp at h
 |_::_,[],h=>by simp at h
 |x::xs,y::ys,h=>by
  rw[List.map_cons,List.map_cons]at h
  injection h with h1 h2
  injection h1 with h1
  rw[h1,ints_inj h2]
section
variable{X:Cx}{pins:List (Addr×Obj)}{σ:St}{H:Hp}{s:Shared}{K:W.Frag}
theorem eq_tups(I:Inv X pins σ H s){A:Around}(hu:A.units<cLine){t a:Addr}{xs ys:List Int}(h1:H t=some (.tup (xs.map V.int)))(h2:H a=some (.tup (ys.map V.int))):SeqAt.EqAt A s (.ref t) (.ref a) (decide (xs=ys)):=by
 by_cases hta:t=a
 ·subst hta
  rw[h1]at h2
  injection h2 with h2
  injection h2 with h2
  rw[decide_eq_true (ints_inj h2)]
  exact .same _
 ·obtain⟨us,r1,l1⟩:=tupAt I h1
  obtain⟨zs,r2,l2⟩:=tupAt I h2
  have e1:=r1.length
  have e2:=r2.length
  rw[List.length_map]at e1 e2
  have q:=SeqAt.RcAt.tuples (A:=A) (s:=s) (e:=fun j=>decide (xs[j]?=ys[j]?)) l1 l2 hu (fun j z1 z2=>by simpa using eq_items (A:=A.in1) (s:=s) r1 r2 j (by simpa using z1) (by simpa using z2))
  have er:((List.range (min us.toArray.size zs.toArray.size)).all (fun j=>decide (xs[j]?=ys[j]?)) && (us.toArray.size==zs.toArray.size))=decide (xs=ys):=by
   rw[List.size_toArray,List.size_toArray,←e1,←e2]
   by_cases hl:xs.length=ys.length
   ·rw[←hl,Nat.min_self,all_eqI hl,beq_self_eq_true,Bool.and_true]
   ·rw[decide_eq_false (fun z=>hl (by rw[z])),Bool.and_eq_false_iff]
    exact .inr (by simpa using hl)
  rw[er]at q
  exact .of_refs hta q
noncomputable def rInT(neg:Bool):R2:=fun x y H Q=>∃(a l:Addr) (xs:List Int) (ts:List Addr) (yss:List (List Int)),x=.ref a∧y=.ref l∧H a=some (.tup (xs.map V.int))∧H l=some (.lst (ts.map V.ref))∧TsAt H ts yss∧Q (.bl (if neg then !decide (xs∈yss)else decide (xs∈yss))) H
open Classical in
theorem inT_at(I:Inv X pins σ H s)(hu:X.A.units+64<cLine){a:Addr}{xs:List Int}{ts:List Addr}{yss:List (List Int)}(h1:H a=some (.tup (xs.map V.int)))(h3:TsAt H ts yss):
  ∃e:Value→Bool,(∀y,y∈ts.map Value.ref→SeqAt.EqAt X.A.in1 s y (.ref a) (e y))∧(ts.map Value.ref).any e=decide (xs∈yss):=by
 refine⟨fun y=>decide (∃(i:Nat) (t:Addr),ts[i]?=some t∧y=.ref t∧yss[i]?=some xs),fun y hy=>?_,?_⟩
 ·obtain⟨t,ht,rfl⟩:=List.mem_map.mp hy
  obtain⟨i,hi,e⟩:=List.mem_iff_getElem.mp ht
  have e1:ts[i]?=some t:=by rw[List.getElem?_eq_getElem hi,e]
  have hi2:i<yss.length:=by rw[←h3.1];exact hi
  have ht2:=h3.2 i t _ e1 (List.getElem?_eq_getElem hi2)
  have ev:decide (∃(i:Nat) (t':Addr),ts[i]?=some t'∧(Value.ref t)=.ref t'∧yss[i]?=some xs)=decide (yss[i]=xs):=by
   congr 1;apply propext
   constructor
   ·rintro⟨j,t',z1,z2,z3⟩
    injection z2 with z2
    subst z2
    have:=h3.2 j t xs z1 z3
    rw[ht2]at this
    injection this with this
    injection this with this
    exact ints_inj this
   ·intro z
    exact⟨i,t,e1,rfl,by rw[List.getElem?_eq_getElem hi2,z]⟩
  show SeqAt.EqAt X.A.in1 s (.ref t) (.ref a) (decide (∃(i:Nat) (t':Addr),ts[i]?=some t'∧(Value.ref t)=.ref t'∧yss[i]?=some xs))
  rw[ev]
  have q:=eq_tups I (A:=X.A.in1) (by show X.A.units+1<cLine;omega) ht2 h1
  exact q
 ·apply Bool.eq_iff_iff.mpr
  rw[List.any_eq_true]
  simp only[decide_eq_true_iff]
  constructor
  ·rintro⟨y,_,i,t,e1,_,e3⟩
   exact List.mem_of_getElem? e3
  ·intro hm
   obtain⟨i,hi,e⟩:=List.mem_iff_getElem.mp hm
   have hi2:i<ts.length:=by rw[h3.1];exact hi
   exact⟨.ref ts[i],List.mem_map.mpr ⟨_,List.getElem_mem hi2,rfl⟩,i,ts[i],List.getElem?_eq_getElem hi2,rfl,by rw[List.getElem?_eq_getElem hi,e]⟩
theorem op_inT(hu:X.A.units+64<cLine):OpR X (compareOp .In) (rInT false):=by
 intro pins s σ H x y v u Q I rx ry h
 obtain⟨a,l,p,ts,ps,rfl,rfl,h1,h2,h3,k⟩:=h
 cases(show v=Value.ref a from rx)
 cases(show u=Value.ref l from ry)
 obtain⟨its,r',pl⟩:=lstAt I h2
 have e:=ref_valsT r'
 subst e
 obtain⟨e,he,ha⟩:=inT_at I hu h1 h3
 refine SeqAt.in_listAt e pl (fun y hy=>he y (by simpa using hy)) ⟨.bl _,H,I,rfl,?_⟩
 rw[List.any_toArray,ha]
 exact k
theorem op_notInT(hu:X.A.units+64<cLine):OpR X (compareOp .NotIn) (rInT true):=by
 intro pins s σ H x y v u Q I rx ry h
 obtain⟨a,l,p,ts,ps,rfl,rfl,h1,h2,h3,k⟩:=h
 cases(show v=Value.ref a from rx)
 cases(show u=Value.ref l from ry)
 obtain⟨its,r',pl⟩:=lstAt I h2
 have e:=ref_valsT r'
 subst e
 obtain⟨e,he,ha⟩:=inT_at I hu h1 h3
 refine SeqAt.notIn_listAt e pl (fun y hy=>he y (by simpa using hy)) ⟨.bl _,H,I,rfl,?_⟩
 rw[List.any_toArray,ha]
 exact k
end
section
variable{H:Hp}{Q:VK}
theorem i_inT{neg:Bool}{a l:Addr}{xs:List Int}{ts:List Addr}{yss:List (List Int)}(h1:H a=some (.tup (xs.map V.int)))(h2:H l=some (.lst (ts.map V.ref)))(h3:TsAt H ts yss)(k:Q (.bl (if neg then !decide (xs∈yss)else decide (xs∈yss))) H):rInT neg (.ref a) (.ref l) H Q:=⟨a,l,xs,ts,yss,rfl,rfl,h1,h2,h3,k⟩
end
section
variable{X:Cx}{pins:List (Addr×Obj)}{σ:St}{H:Hp}{s:Shared}{K:W.Frag}
end
section
variable{X:Cx}{K:W.Frag}{es:List Expr}{kk:Nat}{tpos:Pos}
end
section
variable{X:Cx}{K:W.Frag}{o e:Expr}{es:List Expr}{to:TE}{t:TA}{apos cpos:Pos}
end
section
variable{X:Cx}{K:W.Frag}
noncomputable def min3(a b c:Int):Int:=if b<a then(if c<b then c else b)else(if c<a then c else a)
noncomputable def rMin3:List V→Hp→VK→Prop:=fun xs H Q=>∃i j k,xs=[.int i,.int j,.int k]∧Q (.int (min3 i j k)) H
theorem cMin3(hc:X.calm=true):CallR X (.builtin "min") rMin3:=by
 intro pins s σ H xs us Q I r h
 obtain⟨i,j,k,rfl,q⟩:=h
 cases r with
 |cons r1 r=>
 cases r with
 |cons r2 r=>
 cases r with
 |cons r3 r=>
 cases r
 obtain⟨t1,rfl⟩:=r1
 obtain⟨t2,rfl⟩:=r2
 obtain⟨t3,rfl⟩:=r3
 refine min_three_ints (I.ok.hd hc) fun h' tk k'=>⟨_,H,I.kept k',?_,q⟩
 unfold min3
 split
 ·split<;>exact⟨_,rfl⟩
 ·split<;>exact⟨_,rfl⟩
end
section
variable{σ:St}{H:Hp}{Q:VK}{K:W.Frag}{D:Ends}
theorem i_min3{i j k:Int}(q:Q (.int (min3 i j k)) H):rMin3 [.int i,.int j,.int k] H Q:=⟨i,j,k,rfl,q⟩
theorem i_par{i j:Nat}{ta:TA}(q:ta σ H fun vs H1=>∃v w,vs=[v,w]∧D.nx ((σ.set i (some v)).set j (some w)) H1):tPar i j ta D σ H:=q
end
section
variable{κ:Type}[DecidableEq κ]
noncomputable def valV(kvs:List (κ×V))(k:κ):Option V:=(kvs.find? fun kv=>decide (kv.1=k)).map (·.2)
noncomputable def putK(kvs:List (κ×V))(k:κ)(v:V):List (κ×V):=
 if(kvs.any fun kv=>decide (kv.1=k))=true then kvs.map (fun kv=>if kv.1=k then(kv.1,v)else kv)else kvs++[(k,v)]
theorem valV_pos{p:κ×V}{r:List (κ×V)}{k:κ}(e:p.1=k):valV (p::r) k=some p.2:=by simp[valV,List.find?_cons,e]
theorem valV_neg{p:κ×V}{r:List (κ×V)}{k:κ}(e:¬p.1=k):valV (p::r) k=valV r k:=by simp[valV,List.find?_cons,e]
theorem valV_any(k:κ):∀kvs:List (κ×V),(kvs.any fun kv=>decide (kv.1=k))=(valV kvs k).isSome
 |[]=>rfl
 |p::r=>by
  rw[List.any_cons]
  by_cases e:p.1=k
  ·simp only[valV_pos e,decide_eq_true e,Bool.true_or,Option.isSome_some]
  ·rw[valV_neg e,decide_eq_false e,Bool.false_or];exact valV_any k r
theorem valV_map(k j:κ)(y:V):∀kvs:List (κ×V),valV (kvs.map fun kv=>if kv.1=k then(kv.1,y)else kv) j=(valV kvs j).map fun x=>if j=k then y else x
 |[]=>rfl
 |p::r=>by
  have ih:=valV_map k j y r
  rw[List.map_cons]
  by_cases h:p.1=k
  ·rw[if_pos h]
   by_cases e:p.1=j
   ·rw[valV_pos (p:=(p.1,y)) e,valV_pos e,Option.map_some,if_pos (e.symm.trans h)]
   ·rw[valV_neg (p:=(p.1,y)) e,valV_neg e,ih]
  ·rw[if_neg h]
   by_cases e:p.1=j
   ·rw[valV_pos (p:=p) e,valV_pos e,Option.map_some,if_neg (fun z=>h (e.trans z))]
   ·rw[valV_neg (p:=p) e,valV_neg e,ih]
theorem valV_snoc(k j:κ)(y:V):∀kvs:List (κ×V),valV kvs k=none→valV (kvs++[(k,y)]) j=if j=k then some y else valV kvs j
 |[],_=>by
  by_cases e:k=j
  ·rw[if_pos e.symm];exact valV_pos (p:=(k,y)) e
  ·rw[if_neg (fun z=>e z.symm)];exact valV_neg (p:=(k,y)) e
 |p::r,hn=>by
  rw[List.cons_append]
  have hk:¬p.1=k:=fun z=>by rw[valV_pos z]at hn;cases hn
  rw[valV_neg hk]at hn
  have ih:=valV_snoc k j y r hn
  by_cases e:p.1=j
  ·rw[valV_pos e,valV_pos e,if_neg (fun z=>hk (e.trans z))]
  ·rw[valV_neg e,valV_neg e,ih]
theorem valV_put(kvs:List (κ×V))(k j:κ)(y:V):valV (putK kvs k y) j=if j=k then some y else valV kvs j:=by
 unfold putK
 by_cases a:(kvs.any fun kv=>decide (kv.1=k))=true
 ·rw[if_pos a,valV_map]
  rw[valV_any]at a
  by_cases e:j=k
  ·obtain⟨x,hx⟩:=Option.isSome_iff_exists.mp a
   rw[if_pos e,e,hx,Option.map_some,if_pos rfl]
  ·rw[if_neg e]
   cases valV kvs j with
   |none=>rfl
   |some x=>rw[Option.map_some,if_neg e]
 ·rw[if_neg a]
  refine valV_snoc k j y kvs ?_
  rw[valV_any]at a
  cases q:valV kvs k with
  |none=>rfl
  |some x=>rw[q]at a;exact(a rfl).elim
theorem length_putK(kvs:List (κ×V))(k:κ)(v:V):(putK kvs k v).length≤kvs.length+1:=by
 unfold putK
 split
 ·rw[List.length_map];omega
 ·rw[List.length_append,List.length_cons,List.length_nil];omega
theorem RelO.isSome_eq{o:Option V}{u:Option Value}(r:RelO o u):o.isSome=u.isSome:=by
 cases o with
 |none=>cases u with
  |none=>rfl
  |some _=>exact(show False from r).elim
 |some _=>cases u with
  |none=>exact(show False from r).elim
  |some _=>rfl
theorem RelO.getD{o:Option V}{u:Option Value}{d:V}{d':Value}(r:RelO o u)(rd:RelV d d'):RelV (o.getD d) (u.getD d'):=by
 cases o with
 |none=>cases u with
  |none=>exact rd
  |some _=>exact(show False from r).elim
 |some _=>cases u with
  |none=>exact(show False from r).elim
  |some _=>exact r
theorem KV.val{kvs:List (κ×V)}{vs:List (κ×Value)}(r:KV kvs vs)(k:κ):RelO (valV kvs k) (valueAt vs k):=by
 unfold KV at r
 induction r with
 |nil=>exact True.intro
 |@cons p q ps qs h t ih=>
  obtain⟨h1,h2⟩:=h
  by_cases e:p.1=k
  ·have e':q.1=k:=h1.symm.trans e
   have b:valueAt (q::qs) k=some q.2:=by simp[valueAt,List.find?_cons,e']
   rw[valV_pos e,b];exact h2
  ·have e':¬q.1=k:=fun z=>e (h1.trans z)
   have b:valueAt (q::qs) k=valueAt qs k:=by simp[valueAt,List.find?_cons,e']
   rw[valV_neg e,b];exact ih
theorem KV.any{kvs:List (κ×V)}{vs:List (κ×Value)}(r:KV kvs vs)(k:κ):(kvs.any fun kv=>decide (kv.1=k))=vs.any fun kv=>decide (kv.1=k):=by
 unfold KV at r
 induction r with
 |nil=>rfl
 |cons h t ih=>rw[List.any_cons,List.any_cons,ih,h.1]
theorem KV.repl{kvs:List (κ×V)}{vs:List (κ×Value)}(r:KV kvs vs)(k:κ){y:V}{u:Value}(ry:RelV y u):
  KV (kvs.map fun kv=>if kv.1=k then(kv.1,y)else kv) (vs.map fun kv=>if kv.1=k then(kv.1,u)else kv):=by
 unfold KV at r⊢
 induction r with
 |nil=>exact .nil
 |@cons p q ps qs h t ih=>
  rw[List.map_cons,List.map_cons]
  refine .cons ?_ ih
  obtain⟨h1,h2⟩:=h
  by_cases e:p.1=k
  ·rw[if_pos e,if_pos (h1.symm.trans e)];exact⟨h1,ry⟩
  ·rw[if_neg e,if_neg (fun z=>e (h1.trans z))];exact⟨h1,h2⟩
theorem KV.put{kvs:List (κ×V)}{vs:List (κ×Value)}(r:KV kvs vs)(k:κ){y:V}{u:Value}(ry:RelV y u):KV (putK kvs k y) (stored vs k u):=by
 unfold putK stored
 rw[r.any k]
 by_cases e:(vs.any fun kv=>decide (kv.1=k))=true
 ·rw[if_pos e,if_pos e];exact r.repl k ry
 ·rw[if_neg e,if_neg e];exact Paired.snoc r ⟨rfl,ry⟩
theorem KV.length{kvs:List (κ×V)}{vs:List (κ×Value)}(r:KV kvs vs):kvs.length=vs.length:=Paired.length r
end
theorem kV_is{P:Program}{w:World}{k:Key}{u:Value}(r:RelV (kV k) u):(mixKind P w).is k u=true:=by
 cases k with
 |inl i=>obtain⟨t,e⟩:=(show ∃t,u=Value.int i t from r);subst e;exact mixKind_int P w i t
 |inr x=>obtain⟨t,e⟩:=(show ∃t,u=Value.str x t from r);subst e;exact mixKind_str P w x t
theorem items_are{P:Program}{w:World}:∀{ks:List Key} {us:List Value},Vals (ks.map kV) us→ItemsAre (mixKind P w) ks us
 |[],_,r=>by rw[List.map_nil]at r;cases r;exact .nil
 |k::ks,_,r=>by
  rw[List.map_cons]at r
  cases r with
  |cons h t=>exact .cons (kV_is h) (items_are t)
abbrev KT(H:Hp):List (List Key×V)→List (List Key×Addr×Value)→Prop:=Paired fun p q=>p.1=q.1∧H q.2.1=some (.tup (p.1.map kV))∧RelV p.2 q.2.2
theorem KT.val{H:Hp}{kvs:List (List Key×V)}{xs:List (List Key×Addr×Value)}(r:KT H kvs xs)(k:List Key):RelO (valV kvs k) ((atKey xs k).map (·.2)):=by
 induction r with
 |nil=>exact True.intro
 |@cons p q ps qs h t ih=>
  obtain⟨h1,_,h2⟩:=h
  by_cases e:p.1=k
  ·have e':q.1=k:=h1.symm.trans e
   have b:atKey (q::qs) k=some q.2:=by simp[atKey,List.find?_cons,e']
   rw[valV_pos e,b];exact h2
  ·have e':¬q.1=k:=fun z=>e (h1.trans z)
   have b:atKey (q::qs) k=atKey qs k:=by simp[atKey,List.find?_cons,e']
   rw[valV_neg e,b];exact ih
theorem KT.repl{H:Hp}{kvs:List (List Key×V)}{xs:List (List Key×Addr×Value)}(r:KT H kvs xs)(k:List Key){y:V}{u:Value}(ry:RelV y u):
  KT H (kvs.map fun kv=>if kv.1=k then(kv.1,y)else kv) (xs.map (putAt k u)):=by
 induction r with
 |nil=>exact .nil
 |@cons p q ps qs h t ih=>
  rw[List.map_cons,List.map_cons]
  refine .cons ?_ ih
  obtain⟨h1,h2,h3⟩:=h
  unfold putAt
  by_cases e:p.1=k
  ·rw[if_pos e,if_pos (h1.symm.trans e)];exact⟨h1,h2,ry⟩
  ·rw[if_neg e,if_neg (fun z=>e (h1.trans z))];exact⟨h1,h2,h3⟩
theorem KT.put{H:Hp}{kvs:List (List Key×V)}{xs:List (List Key×Addr×Value)}(r:KT H kvs xs)(k:List Key){b:Addr}{y:V}{u:Value}(hb:H b=some (.tup (k.map kV)))(ry:RelV y u):
  KT H (putK kvs k y) (storedH xs k b u):=by
 have e:(kvs.any fun kv=>decide (kv.1=k))=(atKey xs k).isSome:=by
  rw[valV_any,(r.val k).isSome_eq,Option.isSome_map]
 unfold putK storedH
 rw[e]
 by_cases q:(atKey xs k).isSome=true
 ·rw[if_pos q,if_pos q];exact r.repl k ry
 ·rw[if_neg q,if_neg q];exact Paired.snoc r ⟨rfl,hb,ry⟩
theorem KT.keeps{H H':Hp}{kvs:List (List Key×V)}{xs:List (List Key×Addr×Value)}(r:KT H kvs xs)(ht:∀b ys,H b=some (.tup ys)→H' b=some (.tup ys)):KT H' kvs xs:=
 Paired.mapP r fun _ _ z=>⟨z.1,ht _ _ z.2.1,z.2.2⟩
section
variable{P:Program}{w:World}{H:Hp}{h:Heap}{a:Addr}
theorem rd_of{u:HO}(ok:HOk P w H h)(e:Rd H a u):ObjOk P w H h a u:=e.ok ok
theorem dk_rd{kvs:List (Key×V)}(ok:HOk P w H h)(e:Rd H a (.dK kvs)):kvs.length≤sizeLine∧(a==sysModules)=false∧∃vs,KV kvs vs∧h.DictOf (mixKind P w) a vs:=
 show ObjOk P w H h a (.dK kvs)from rd_of ok e
theorem dk_of{kvs:List (Key×V)}(ok:HOk P w H h)(e:H a=some (.dK kvs)):kvs.length≤sizeLine∧(a==sysModules)=false∧∃vs,KV kvs vs∧h.DictOf (mixKind P w) a vs:=dk_rd ok (.inl e)
theorem key_of{ks:List Key}(ok:HOk P w H h)(e:H a=some (.tup (ks.map kV))):(tupleKind (mixKind P w)).is h ks a:=by
 obtain⟨_,its,r,o,h1,h2,n,h3⟩:=(show ObjOk P w H h a (.tup (ks.map kV))from ok a _ e)
 exact⟨o,its.toArray,n,h1,h2,h3,by simpa using items_are r⟩
theorem dt_rd{kvs:List (List Key×V)}(ok:HOk P w H h)(e:Rd H a (.dT kvs)):kvs.length≤sizeLine∧(a==sysModules)=false∧
  ∃xs,KT H kvs xs∧h.DictOfH (tupleKind (mixKind P w)) a xs:=by
 obtain⟨z,y,xs,r,o,es,ep,h1,h2,h3,h4,h5⟩:=(show ObjOk P w H h a (.dT kvs)from rd_of ok e)
 refine⟨z,y,xs,r,o,es,ep,h1,h2,h3,h4,fun x hx=>?_,h5⟩
 have all:∀{l:List (List Key×V)} {m:List (List Key×Addr×Value)},KT H l m→∀x∈m,(tupleKind (mixKind P w)).is h x.1 x.2.1:=by
  intro l m q
  induction q with
  |nil=>intro x hx;exact nomatch hx
  |@cons p q ps qs hq t ih=>
   intro x hx
   rcases List.mem_cons.mp hx with e|hx
   ·subst e
    exact key_of ok (by rw[←hq.1];exact hq.2.1)
   ·exact ih x hx
 exact all r x hx
theorem dt_of{kvs:List (List Key×V)}(ok:HOk P w H h)(e:H a=some (.dT kvs)):kvs.length≤sizeLine∧(a==sysModules)=false∧
  ∃xs,KT H kvs xs∧h.DictOfH (tupleKind (mixKind P w)) a xs:=dt_rd ok (.inl e)
end
noncomputable def DGet(H:Hp)(a:Addr)(y:V)(r:Option V):Prop:=
 (∃kvs k,Rd H a (.dK kvs)∧y=kV k∧r=valV kvs k)∨∃kvs k b,Rd H a (.dT kvs)∧y=.ref b∧H b=some (.tup (k.map kV))∧r=valV kvs k
noncomputable def DPut(H:Hp)(a:Addr)(y v:V)(H':Hp):Prop:=
 (∃kvs k,H a=some (.dK kvs)∧y=kV k∧kvs.length<sizeLine∧H'=upd H a (.dK (putK kvs k v)))∨
 ∃kvs k b,H a=some (.dT kvs)∧y=.ref b∧H b=some (.tup (k.map kV))∧kvs.length<sizeLine∧H'=upd H a (.dT (putK kvs k v))
theorem DGet.t{H:Hp}{a b:Addr}{kvs:List (List Key×V)}{k:List Key}(e:H a=some (.dT kvs))(eb:H b=some (.tup (k.map kV))):DGet H a (.ref b) (valV kvs k):=.inr ⟨kvs,k,b,.inl e,rfl,eb,rfl⟩
theorem DPut.t{H:Hp}{a b:Addr}{kvs:List (List Key×V)}{k:List Key}{v:V}(e:H a=some (.dT kvs))(eb:H b=some (.tup (k.map kV)))(hl:kvs.length<sizeLine):
  DPut H a (.ref b) v (upd H a (.dT (putK kvs k v))):=.inr ⟨kvs,k,b,e,rfl,eb,hl,rfl⟩
section
variable{X:Cx}{pins:List (Addr×Obj)}{σ:St}{H:Hp}{s:Shared}{a:Addr}{y v:V}{u r:Value}{o:Option V}{A:Around}{E:Value→Shared→Prop}
theorem Inv.big(I:Inv X pins σ H s):sysModules<s.heap.objs.size:=by
 have h:mainGlobals<s.heap.objs.size:=(I.mod.glob.keeps I.bk).lt
 exact Nat.lt_trans (by decide) h
theorem d_getItem{Q:Value→Shared→Prop}(hu:A.units+1<cLine)(I:Inv X pins σ H s)(g:DGet H a y (some v))(ry:RelV y u)(h:∀w' s',Inv X pins σ H s'→RelV v w'→Q w' s'):
  wpAny (model X.prog X.w) A (getItem (.ref a) u) Q E s:=by
 rcases g with⟨kvs,k,e,ey,l⟩|⟨kvs,k,b,e,ey,eb,l⟩
 ·subst ey
  obtain⟨z,hd,vs,rel,dd⟩:=dk_rd I.hok e
  obtain⟨w',hw,rw'⟩:=RelO.some_of (v:=v) (o:=valueAt vs k) (by rw[l];exact rel.val k)
  exact wpAny_getItem_of (kV_is ry) dd.mapOf hw (h w' _ (I.tok _) rw')
 ·subst ey
  cases(show u=Value.ref b from ry)
  obtain⟨z,hd,xs,rel,dd⟩:=dt_rd I.hok e
  obtain⟨w',hw,rw'⟩:=RelO.some_of (v:=v) (o:=(atKey xs k).map (·.2)) (by rw[l];exact rel.val k)
  obtain⟨p,hp,hp2⟩:=Option.map_eq_some_iff.mp hw
  refine wpAny_getItem_heap (tupleKind_room_in1 hu) (key_of I.hok eb) dd hp ?_
  rw[hp2]
  exact h w' _ (I.tok _) rw'
theorem d_notIn{Q:Value→Shared→Prop}(hu:A.units+1<cLine)(I:Inv X pins σ H s)(g:DGet H a y o)(ry:RelV y u)(h:∀s',Inv X pins σ H s'→Q (.bool (!o.isSome)) s'):
  wpAny (model X.prog X.w) A (compareOp .NotIn u (.ref a)) Q E s:=by
 rcases g with⟨kvs,k,e,ey,l⟩|⟨kvs,k,b,e,ey,eb,l⟩
 ·subst ey
  obtain⟨z,hd,vs,rel,dd⟩:=dk_rd I.hok e
  refine wpAny_notIn_of (kV_is ry) hd dd.mapOf ?_
  rw[←(rel.val k).isSome_eq,←l]
  exact h _ (I.tok _)
 ·subst ey
  cases(show u=Value.ref b from ry)
  obtain⟨z,hd,xs,rel,dd⟩:=dt_rd I.hok e
  refine wpAny_notIn_heap (tupleKind_room_in1 hu) (key_of I.hok eb) hd dd ?_
  have q:=(rel.val k).isSome_eq
  rw[Option.isSome_map]at q
  rw[←q,←l]
  exact h _ (I.tok _)
theorem d_write{h':Heap}{t':Nat}{ob:HO}(I:Inv X pins σ H s)(mu:Mut (H a))(hs:Heap.SameBut a s.heap h')(he:∃q,h'.get? a=some q)(new:ObjOk X.prog X.w (upd H a ob) h' a ob):
  Inv X pins σ (upd H a ob) {s with heap:=h',toks:=t'}:=
 I.write (x:=a) (e:=a) mu (.inl rfl) (fun b q hb z=>(hs.2 b hb).trans z) he new
theorem dk_new{P:Program}{w:World}{H':Hp}{h':Heap}{kvs:List (Key×V)}{vs:List (Key×Value)}(z:kvs.length≤sizeLine)(hd:(a==sysModules)=false)(rel:KV kvs vs)(dd:h'.DictOf (mixKind P w) a vs):
  ObjOk P w H' h' a (.dK kvs):=⟨z,hd,vs,rel,dd⟩
theorem d_setItem{H':Hp}{Q:Unit→Shared→Prop}(hu:A.units+1<cLine)(I:Inv X pins σ H s)(g:DPut H a y v H')(ry:RelV y u)(rv:RelV v r)(h:∀s',Inv X pins σ H' s'→Q () s'):
  wpAny (model X.prog X.w) A (setItem (.ref a) u r) Q E s:=by
 rcases g with⟨kvs,k,e,ey,l,eH⟩|⟨kvs,k,b,e,ey,eb,l,eH⟩
 ·subst ey eH
  obtain⟨z,hd,vs,rel,dd⟩:=dk_of I.hok e
  have hz:vs.length≤sizeLine:=by rw[←rel.length];exact z
  have hl:(putK kvs k v).length≤sizeLine:=by have:=length_putK kvs k v;omega
  refine wpAny_setItem_pairs (hsz:=hz) (kV_is ry) dd fun h' dd' hs=>h _ ?_
  have he:∃q,h'.get? a=some q:=let⟨q,_,_,hq,_⟩:=dd';⟨q,hq⟩
  exact d_write I (by rw[e];exact True.intro) hs he (dk_new hl hd (rel.put k rv) dd')
 ·subst ey eH
  cases(show u=Value.ref b from ry)
  obtain⟨z,hd,xs,rel,dd⟩:=dt_of I.hok e
  have hz:xs.length≤sizeLine:=by rw[←Paired.length rel];exact z
  have hl:(putK kvs k v).length≤sizeLine:=by have:=length_putK kvs k v;omega
  refine wpAny_setItem_heap (hsz:=hz) (tupleKind_room_in1 hu) (key_of I.hok eb) dd fun h' dd' hs=>h _ ?_
  obtain⟨q,es,ep,hq,h2,h3,h4,_,h5⟩:=dd'
  refine d_write I (by rw[e];exact True.intro) hs ⟨q,hq⟩ ⟨hl,hd,_,(rel.put k eb rv).keeps fun c ys ec=>?_,q,es,ep,hq,h2,h3,h4,h5⟩
  rw[upd_ne (ne_of ec e (fun z=>nomatch z))]
  exact ec
end
section
variable{X:Cx}{pins:List (Addr×Obj)}{σ:St}{H:Hp}{s:Shared}{a:Addr}{kvs:List (Key×V)}{k:Key}{u:Value}{A:Around}{E:Value→Shared→Prop}
end
noncomputable def NoSl(i:Expr):Prop:=∀ov iv,subscripted i false ov iv=operate [ov,iv] (getItem ov iv)
theorem subD_of{prog:Program}{w:World}{A:Around}{E:Value→Shared→Prop}{s:Shared}{env:Env}{value slice:Expr}{pos:Pos}{T id:String}{Q:Value→Shared→Prop}
  (hl:typeLookup (.type T) "__getitem__"=pure (some (.builtin id))) (hs:NoSl slice)
  (h:wpAny (model prog w) A (eval value env) (fun o s₁=>wpAny (model prog w) A (eval slice env) (fun i s₂=>s₂.TypeIs o T∧wpAny (model prog w) A (getItem o i) Q E s₂) E s₁) E s):
  wpAny (model prog w) A (eval (.Subscript value slice pos) env) Q E s:=by
 refine Subscript_ (wpAny_mono h (fun o s₁ h₁=>wpAny_mono h₁ (fun i s₂ h₂=>?_) fun _ _ x=>x) fun _ _ x=>x)
 obtain⟨hT,h₂⟩:=h₂
 unfold subscriptTail
 refine wpAny_bind ?_
 rw[getitemInPython_of_ne hT.not_modules]
 refine wpAny_bind (wpAny_specialOf hT hl ?_)
 have fin:wpAny (model prog w) A (subscripted slice false o i) (fun r s₃=>wpAny (model prog w) A (letTemporaryGo value o r >>=fun _=>pure r) Q E s₃) E s₂:=by
  rw[hs o i]
  exact wpAny_operating (wpAny_mono h₂ (fun r s₃ h₃=>wpAny_bind (wpAny_letTemporaryGo (wpAny_pure h₃))) fun _ _ x=>x)
 first
  |exact wpAny_pure (wpAny_bind fin)
  |exact wpAny_bind (wpAny_pure (wpAny_bind fin))
  |exact wpAny_bind fin
theorem dict_typeIs{X:Cx}{pins:List (Addr×Obj)}{σ:St}{H:Hp}{s:Shared}{a:Addr}{y:V}{o:Option V}(I:Inv X pins σ H s)(g:DGet H a y o):s.TypeIs (.ref a) "dict":=by
 rcases g with⟨kvs,k,e,_,_⟩|⟨kvs,k,b,e,_,_,_⟩
 ·obtain⟨_,_,vs,_,dd⟩:=dk_rd I.hok e
  exact dd.typeIs
 ·obtain⟨_,_,xs,_,dd⟩:=dt_rd I.hok e
  exact dd.typeIs
noncomputable def tDGet(td ty:TE):TE:=fun σ H Q=>td σ H fun x H1=>ty σ H1 fun y H2=>∃a v,x=.ref a∧DGet H2 a y (some v)∧Q v H2
noncomputable def tDNotIn(ty td:TE):TE:=fun σ H Q=>ty σ H fun y H1=>td σ H1 fun x H2=>∃a o,x=.ref a∧DGet H2 a y o∧Q (.bl (!o.isSome)) H2
noncomputable def sDPut(td ty tv:TE):TS:=fun D σ H=>tv σ H fun v H1=>td σ H1 fun x H2=>ty σ H2 fun y H3=>∃a H4,x=.ref a∧DPut H3 a y v H4∧D.nx σ H4
section
variable{X:Cx}{o i e value:Expr}{pos pos' tpos:Pos}{td ty tv:TE}
theorem pe_dget(hu:X.A.units+1<cLine)(ho:PE X o td)(hi:PE X i ty)(hs:NoSl i):PE X (.Subscript o i pos) (tDGet td ty):=by
 intro pins s σ H Q I h
 refine subD_of PySem.F.slot_dict_getitem.lookup hs (thn (ho pins s σ H _ I h) fun u s1 ⟨x,H1,I1,rx,q1⟩=>thn (hi pins s1 σ H1 _ I1 q1) fun iv s2 ⟨y,H2,I2,ry,a,v,ex,g,q2⟩=>?_)
 subst ex
 obtain rfl:u=Value.ref a:=rx
 exact⟨dict_typeIs I2 g,d_getItem hu I2 g ry fun w' s3 I3 rw'=>⟨v,H2,I3,rw',q2⟩⟩
theorem pc_dnotin(hu:X.A.units+1<cLine)(hi:PE X i ty)(ho:PE X o td):PC X .NotIn i o (tDNotIn ty td):=by
 intro pins s σ H Q I h
 refine thn (hi pins s σ H _ I h) fun iv s1 ⟨y,H1,I1,ry,q1⟩=>thn (ho pins s1 σ H1 _ I1 q1) fun u s2 ⟨x,H2,I2,rx,a,ov,ex,g,q2⟩=>?_
 subst ex
 obtain rfl:u=Value.ref a:=rx
 exact d_notIn hu I2 g ry fun s3 I3=>⟨.bl (!ov.isSome),H2,I3,rfl,q2⟩
theorem ps_dput(hu:X.A.units+1<cLine)(ho:PE X o td)(hi:PE X i ty)(hv:PE X value tv)(hs:swapsWith value (some (.Subscript o i pos')) pos.line X.env=pure false):
  PS X (.Assign [.Subscript o i pos'] value pos) (sDPut td ty tv):=by
 intro pins s σ H D I h
 refine wpAny_Assign_Subscript (thn (hv pins s σ H _ I h) fun r s1 ⟨v,H1,I1,rv,q1⟩=>thn (ho pins s1 σ H1 _ I1 q1) fun u s2 ⟨x,H2,I2,rx,q2⟩=>thn (hi pins s2 σ H2 _ I2 q2) fun iv s3 ⟨y,H3,I3,ry,a,H4,ex,g,q3⟩=>?_) hs
 subst ex
 obtain rfl:u=Value.ref a:=rx
 exact d_setItem hu I3 g ry rv fun s4 I4=>⟨σ,H4,I4,q3⟩
end
theorem dt_empty{P:Program}{w:World}{H:Hp}(h:Heap)(hb:sysModules<h.objs.size):ObjOk P w H (h.push {cls:=.type "dict",data:=.dict #[]}) h.objs.size (.dT []):=
 ⟨Nat.zero_le _,beq_eq_false_iff_ne.mpr (Ne.symm (Nat.ne_of_lt hb)),[],.nil,_,#[],0,Heap.get?_push_size _ rfl,⟨rfl,rfl,rfl⟩,rfl,rfl,List.nodup_nil⟩
section
variable{X:Cx}{pos:Pos}
end
structure M1(X:Cx)(o:Expr)(m:Str)(apos:Pos)(e:Expr)(cpos:Pos):Prop where
 base:attributeBase o m X.env (eval o X.env)=eval o X.env
 few:((backTo cpos (starEach [e] X.env)).all (fun x=>!x.1) && (backToKw cpos (keywordEach [] X.env)).all (fun x=>x.1.isSome)
  && decide (([e]:List Expr).length+([]:List Keyword).length+(if([]:List Keyword).isEmpty then 0 else 1)<30))=true
 line:(apos.endLine==cpos.line)=true
 trees:backTo cpos (starEach [e] X.env)=[(false,eval e X.env)]
noncomputable def IsD(H:Hp)(a:Addr):Prop:=(∃kvs,Rd H a (.dK kvs))∨∃kvs,Rd H a (.dT kvs)
theorem isD_at{X:Cx}{pins:List (Addr×Obj)}{σ:St}{H:Hp}{s:Shared}{a:Addr}(I:Inv X pins σ H s)(d:IsD H a):
  s.TypeIs (.ref a) "dict"∧(∀b,Value.ref a=.ref b→∃ob,s.heap.get? b=some ob∧ob.dict=none)∧(a==sysModules)=false:=by
 rcases d with⟨kvs,e⟩|⟨kvs,e⟩
 ·obtain⟨_,hd,vs,_,dd⟩:=dk_rd I.hok e
  refine⟨dd.typeIs,fun b q=>?_,hd⟩
  cases q
  obtain⟨ob,_,_,h1,h2,_⟩:=dd
  exact⟨ob,h1,h2.2.1⟩
 ·obtain⟨_,hd,xs,_,dd⟩:=dt_rd I.hok e
  refine⟨dd.typeIs,fun b q=>?_,hd⟩
  cases q
  obtain⟨ob,_,_,h1,h2,_⟩:=dd
  exact⟨ob,h1,h2.2.1⟩
section
variable{X:Cx}{pins:List (Addr×Obj)}{σ:St}{H:Hp}{s:Shared}{a:Addr}{y d:V}{u r:Value}{o:Option V}{A:Around}{E:Value→Shared→Prop}
theorem d_get1{Q:Value→Shared→Prop}(hu:A.units+1<cLine)(I:Inv X pins σ H s)(g:DGet H a y o)(ry:RelV y u)(h:∀w' s',Inv X pins σ H s'→RelV (o.getD .non) w'→Q w' s'):
  wpAny (model X.prog X.w) A (call (.builtin "dict.get") [.ref a,u]) Q E s:=by
 rcases g with⟨kvs,k,e,ey,l⟩|⟨kvs,k,b,e,ey,eb,l⟩
 ·subst ey
  obtain⟨z,hd,vs,rel,dd⟩:=dk_rd I.hok e
  refine call_meetsIn PySem.F.slot_dict_get dd.typeIs PySem.F.entry_dict_get (PySem.F.args_dict_get_2 _ _) (meets_dict_get (mixKind X.prog X.w) a (kV_is ry) hd) ⟨_,dd.mapOf,h _ _ (I.tok _) ?_⟩
  rw[l]
  exact(rel.val k).getD rfl
 ·subst ey
  cases(show u=Value.ref b from ry)
  obtain⟨z,hd,xs,rel,dd⟩:=dt_rd I.hok e
  refine call_meetsIn PySem.F.slot_dict_get dd.typeIs PySem.F.entry_dict_get (PySem.F.args_dict_get_2 _ _) (meetsH_dict_get (tupleKind (mixKind X.prog X.w)) a b hd) ⟨tupleKind_room_in1 hu,k,xs,key_of I.hok eb,dd,h _ _ (I.tok _) ?_⟩
  rw[l]
  exact(rel.val k).getD rfl
end
noncomputable def tDGet1(td ty:TE):TE:=fun σ H Q=>td σ H fun x H1=>∃a,x=.ref a∧IsD H1 a∧ty σ H1 fun y H2=>∃o,DGet H2 a y o∧Q (o.getD .non) H2
section
variable{X:Cx}{o e f:Expr}{apos cpos:Pos}{td ty tx:TE}
theorem pe_dget1(hu:X.A.units+1<cLine)(ho:PE X o td)(he:PE X e ty)(m:M1 X o "get" apos e cpos):PE X (.Call (.Attribute o "get" apos) [e] [] cpos) (tDGet1 td ty):=by
 intro pins s σ H Q I h
 refine wpAny_Call_method m.base m.few m.line PySem.F.plainAttrs_dict PySem.F.slot_dict_get PySem.F.type_dict_get (thn (ho pins s σ H _ I h) fun u s1 ⟨x,H1,I1,rx,a,ex,d,q1⟩=>?_)
 subst ex
 obtain rfl:u=Value.ref a:=rx
 obtain⟨t1,t2,_⟩:=isD_at I1 d
 refine⟨t1,t2,?_⟩
 rw[m.trees]
 refine Calls.callWith_builtin rfl (Calls.evalArgs_plain (Calls.spliced_cons (thn (he pins s1 σ H1 _ I1 q1) fun iv s2 ⟨y,H2,I2,ry,ov,g,q2⟩=>Calls.spliced_nil ?_)))
 exact d_get1 hu I2 g ry fun w' s3 I3 rw'=>⟨_,H2,I3,rw',q2⟩
end
section
variable{X:Cx}{pins:List (Addr×Obj)}{σ:St}{H:Hp}{s:Shared}{a:Addr}{kvs:List (Key×V)}{A:Around}{E:Value→Shared→Prop}
end
section
variable{X:Cx}{pins:List (Addr×Obj)}{σ:St}{H:Hp}{s:Shared}{a:Addr}{y:V}{u:Value}{A:Around}{E:Value→Shared→Prop}
end
end L2
namespace Att
open PySem PySem.W PySem.Calls PyProof.Rows
section
variable{prog:Program}{w:World}{A:Around}{E:Value→Shared→Prop}{s:Shared}{K:Frag}
end
end Att
namespace L2
open PySem PySem.Spec PyProof.Rows
section
variable{P:Program}{w:World}{K:W.Frag}{mg:Str→Option Value}{base:Heap}
end
section
variable{X:Cx}
end
section
variable{κ:Type}[DecidableEq κ]
end
theorem hu1{A:Around}(h:A.units+64<cLine):A.units+1<cLine:=by omega
noncomputable def tDisp1(tk tv:TE):TE:=fun σ H Q=>∀p,H p=none→tk σ (upd H p (.dT [])) fun x H1=>tv σ H1 fun y H2=>∃(b:Addr) (k:List Key),x=.ref b∧H2 p=some (.dT [])∧H2 b=some (.tup (k.map kV))∧Q (.ref p) (upd H2 p (.dT [(k,y)]))
theorem pe_disp1{X:Cx}{pos:Pos}{k v:Expr}{tk tv:TE}(hu:X.A.units+1<cLine)(hk:PE X k tk)(hv:PE X v tv):PE X (.Dict [some k] [v] pos) (tDisp1 tk tv):=by
 intro pins s σ H Q I q
 have hn:=I.hok.fresh (Nat.le_refl s.heap.objs.size)
 have I1:=I.laid (a:=s.heap.objs.size) (o:=.dT []) (h':=s.heap.push {cls:=.type "dict",data:=.dict #[]}) (t':=s.toks) (fun _ _ q=>Heap.get?_push_of_some _ q) (Nat.le_refl _) (dt_empty s.heap I.big)
 refine wpAny_Dict_any rfl rfl (by intro z;cases z) (by show 1≤15;decide) (pairTrees_cons_walk (thn (hk pins _ σ _ _ I1 (q _ hn)) fun u s1 ⟨x,H1,I1',rx,q1⟩=>thn (hv pins s1 σ H1 _ I1' q1) fun w2 s2 ⟨y,H2,I2,ry,b,kk,ex,e,eb,q2⟩=>pairTrees_nil_walk ?_))
 subst ex
 cases(show u=Value.ref b from rx)
 unfold storeAll
 simp only[List.forIn_cons,List.forIn_nil,pure_bind,bind_assoc]
 obtain⟨z,hd,xs,rel,dd⟩:=dt_of I2.hok e
 have hz:xs.length≤sizeLine:=by rw[←Paired.length rel];exact Nat.zero_le _
 refine wpAny_bind (wpAny_dictSet_heap (hsz:=hz) (show(tupleKind (mixKind X.prog X.w)).room X.A from(show X.A.units<cLine by omega)) (key_of I2.hok eb) dd fun h' dd' hs=>?_)
 refine wpAny_pure ?_
 obtain⟨q',es,ep,hq,h2,h3,h4,_,h5⟩:=dd'
 have e2:putK ([]:List (List Key×V)) kk y=[(kk,y)]:=rfl
 refine⟨.ref s.heap.objs.size,upd H2 s.heap.objs.size (.dT [(kk,y)]),d_write (ob:=.dT [(kk,y)]) I2 (by rw[e];exact True.intro) hs ⟨q',hq⟩ ⟨by show 1≤sizeLine;decide,hd,_,(e2▸ (rel.put kk eb ry)).keeps fun c ys ec=>?_,q',es,ep,hq,h2,h3,h4,h5⟩,rfl,q2⟩
 rw[upd_ne (ne_of ec e (fun z=>nomatch z))]
 exact ec
section
variable{σ:St}{H:Hp}{Q:VK}{D:Ends}
theorem i_dget{td ty:TE}(q:td σ H fun x H1=>ty σ H1 fun y H2=>∃a v,x=.ref a∧DGet H2 a y (some v)∧Q v H2):tDGet td ty σ H Q:=q
theorem i_dnotin{td ty:TE}(q:ty σ H fun y H1=>td σ H1 fun x H2=>∃a o,x=.ref a∧DGet H2 a y o∧Q (.bl (!o.isSome)) H2):tDNotIn ty td σ H Q:=q
theorem i_dput{td ty tv:TE}(q:tv σ H fun v H1=>td σ H1 fun x H2=>ty σ H2 fun y H3=>∃a H4,x=.ref a∧DPut H3 a y v H4∧D.nx σ H4):sDPut td ty tv D σ H:=q
theorem i_dget1{td ty:TE}(q:td σ H fun x H1=>∃a,x=.ref a∧IsD H1 a∧ty σ H1 fun y H2=>∃o,DGet H2 a y o∧Q (o.getD .non) H2):tDGet1 td ty σ H Q:=q
theorem i_disp1{tk tv:TE}(q:∀p,H p=none→tk σ (upd H p (.dT [])) fun x H1=>tv σ H1 fun y H2=>∃(b:Addr) (k:List Key),x=.ref b∧H2 p=some (.dT [])∧H2 b=some (.tup (k.map kV))∧Q (.ref p) (upd H2 p (.dT [(k,y)]))):tDisp1 tk tv σ H Q:=q
end
noncomputable def kI(xs:List Int):List Key:=xs.map Sum.inl
theorem kI_kV(xs:List Int):(kI xs).map kV=xs.map V.int:=by unfold kI;rw[List.map_map];rfl
theorem kI_inj{xs ys:List Int}(h:kI xs=kI ys):xs=ys:=by
 unfold kI at h
 induction xs generalizing ys with
 |nil=>cases ys with
  |nil=>rfl
  |cons y r=>cases h
 |cons x r ih=>cases ys with
  |nil=>cases h
  |cons y r'=>
   rw[List.map_cons,List.map_cons]at h
   injection h with h1 h2
   injection h1 with h1
   rw[h1,ih h2]
end L2
namespace K57
open PySem L2
noncomputable def top(i:Nat):Stmt:=PySem.Challenge.pw_argosy_k57_lists_handed_in_may_be_change.main.body.getD i (.Pass ⟨0,0,0,0⟩)
end K57
namespace K57
noncomputable def bin:Nat→Nat→Nat
 |_,0=>1
 |0,_+1=>0
 |n+1,k+1=>bin n k+bin n (k+1)
theorem bin_zero(n:Nat):bin n 0=1:=by cases n<;>rfl
theorem bin_succ(n k:Nat):bin (n+1) (k+1)=bin n k+bin n (k+1):=rfl
theorem bin_none:∀(n k:Nat),n<k→bin n k=0
 |0,k+1,_=>rfl
 |n+1,k+1,h=>by rw[bin_succ,bin_none n k (by omega),bin_none n (k+1) (by omega)]
 |_,0,h=>by omega
theorem bin_pos:∀(n k:Nat),k≤n→1≤bin n k
 |n,0,_=>by rw[bin_zero];exact Nat.le_refl _
 |0,k+1,h=>by omega
 |n+1,k+1,h=>by have:=bin_pos n k (by omega);rw[bin_succ];omega
theorem bin_le:∀(n k:Nat),bin n k≤2 ^ n
 |n,0=>by rw[bin_zero];exact Nat.one_le_two_pow
 |0,k+1=>by show 0≤_;omega
 |n+1,k+1=>by
  have h1:=bin_le n k
  have h2:=bin_le n (k+1)
  rw[bin_succ,Nat.pow_succ]
  omega
theorem bin_step:∀(n k:Nat),bin n (k+1)*(k+1)=bin n k*(n - k)
 |0,k=>by show 0*_=_;rw[Nat.zero_sub,Nat.mul_zero,Nat.zero_mul]
 |n+1,0=>by
  have h:=bin_step n 0
  rw[bin_zero]at h
  rw[bin_succ,bin_zero,bin_zero]
  omega
 |n+1,k+1=>by
  have h1:=bin_step n (k+1)
  have h2:=bin_step n k
  rw[bin_succ,bin_succ]
  rcases Nat.lt_or_ge k n with q|q
  ·obtain⟨m,rfl⟩:∃m,n=k+1+m:=⟨n - (k+1),by omega⟩
   rw[show k+1+m - (k+1)=m by omega]at h1
   rw[show k+1+m - k=m+1 by omega]at h2
   rw[show k+1+m+1 - (k+1)=m+1 by omega]
   generalize bin (k+1+m) (k+1+1)=x at*
   generalize bin (k+1+m) (k+1)=y at*
   generalize bin (k+1+m) k=z at*
   have e1:(y+x)*(k+1+1)=y*(k+1+1)+x*(k+1+1):=Nat.add_mul _ _ _
   have e2:(z+y)*(m+1)=z*(m+1)+y*(m+1):=Nat.add_mul _ _ _
   rw[e1,e2,h1,←h2,Nat.mul_add y (k+1) 1,Nat.mul_add y m 1]
   omega
  ·rw[bin_none n (k+1) (by omega),bin_none n (k+1+1) (by omega),show n+1 - (k+1)=0 by omega]
   simp
noncomputable def cb:Nat→Nat→Nat→Int→Nat
 |0,r,m,t=>if t≤0 then bin r m else 0
 |s+1,r,0,t=>cb s r 0 t
 |s+1,r,m+1,t=>cb s r m (t - 1)+cb s r (m+1) t
theorem cb_s0(s r:Nat)(t:Int):cb (s+1) r 0 t=cb s r 0 t:=rfl
theorem cb_s(s r m:Nat)(t:Int):cb (s+1) r (m+1) t=cb s r m (t - 1)+cb s r (m+1) t:=rfl
theorem cb_le:∀(s r m:Nat) (t:Int),cb s r m t≤bin (s+r) m
 |0,r,m,t=>by
  show(if t≤0 then bin r m else 0)≤bin (0+r) m
  rw[Nat.zero_add]
  split
  ·exact Nat.le_refl _
  ·exact Nat.zero_le _
 |s+1,r,0,t=>by
  have:=cb_le s r 0 t
  rw[cb_s0,bin_zero]
  rw[bin_zero]at this
  exact this
 |s+1,r,m+1,t=>by
  have h1:=cb_le s r m (t - 1)
  have h2:=cb_le s r (m+1) t
  rw[cb_s,show s+1+r=s+r+1 by omega,bin_succ]
  omega
noncomputable def smd(s r m:Nat)(t:Int):Nat→Nat
 |0=>0
 |x+1=>smd s r m t x+if t≤(x:Int)then bin s x*bin r (m - x)else 0
theorem smd_zero(s r m:Nat)(t:Int):∀k,(∀x:Nat,x<k→¬t≤(x:Int))→smd s r m t k=0
 |0,_=>rfl
 |k+1,h=>by
  show smd s r m t k+(if t≤(k:Int)then _ else 0)=0
  rw[smd_zero s r m t k fun x hx=>h x (by omega),if_neg (h k (by omega))]
theorem smd_s(s r m:Nat)(t:Int):∀k,k≤m+1→smd (s+1) r (m+1) t (k+1)=smd s r m (t - 1) k+smd s r (m+1) t (k+1)
 |0,_=>by
  show 0+(if t≤((0:Nat):Int)then bin (s+1) 0*bin r (m+1 - 0)else 0)=0+(0+if t≤((0:Nat):Int)then bin s 0*bin r (m+1 - 0)else 0)
  rw[bin_zero,bin_zero]
  omega
 |k+1,h=>by
  have ih:=smd_s s r m t k (by omega)
  show smd (s+1) r (m+1) t (k+1)+(if t≤((k+1:Nat):Int)then bin (s+1) (k+1)*bin r (m+1 - (k+1))else 0)=(smd s r m (t - 1) k+if t - 1≤(k:Int)then bin s k*bin r (m - k)else 0)+(smd s r (m+1) t (k+1)+if t≤((k+1:Nat):Int)then bin s (k+1)*bin r (m+1 - (k+1))else 0)
  rw[ih,show m+1 - (k+1)=m - k by omega]
  by_cases ht:t≤((k+1:Nat):Int)
  ·rw[if_pos ht,if_pos ht,if_pos (by omega),bin_succ,Nat.add_mul]
   omega
  ·rw[if_neg ht,if_neg ht,if_neg (by omega)]
   omega
theorem cb_smd:∀(s r m:Nat) (t:Int),cb s r m t=smd s r m t (m+1)
 |0,r,m,t=>by
  have gen:∀k,smd 0 r m t (k+1)=if t≤0 then bin r m else 0:=by
   intro k
   induction k with
   |zero=>
    show 0+(if t≤((0:Nat):Int)then bin 0 0*bin r (m - 0)else 0)=_
    rw[bin_zero,Nat.one_mul,Nat.sub_zero,Nat.zero_add]
    rfl
   |succ k ih=>
    show smd 0 r m t (k+1)+(if t≤((k+1:Nat):Int)then bin 0 (k+1)*bin r (m - (k+1))else 0)=_
    rw[ih,show bin 0 (k+1)=0 from rfl,Nat.zero_mul]
    split<;>split<;>rfl
  exact(gen m).symm
 |s+1,r,0,t=>by
  rw[cb_s0,cb_smd s r 0 t]
  show 0+(if t≤((0:Nat):Int)then bin s 0*bin r (0 - 0)else 0)=0+(if t≤((0:Nat):Int)then bin (s+1) 0*bin r (0 - 0)else 0)
  rw[bin_zero s,bin_zero (s+1)]
 |s+1,r,m+1,t=>by rw[cb_s,cb_smd s r m (t - 1),cb_smd s r (m+1) t,smd_s s r m t (m+1) (Nat.le_refl _)]
end K57
namespace K57
open PySem L2
local macro_rules| `(tactic|walk_at "s")=> `(tactic|first|(with_reducible refine i_seq ?_)|(with_reducible refine i_asg ?_)|(with_reducible refine i_ret ?_)|(with_reducible refine i_if ?_)|(with_reducible refine i_next ?_)|(with_reducible refine i_drop ?_)|((with_reducible refine' i_var ?k1 ?_);(case k1=>exact rfl))|(with_reducible refine i_tC ?_)|(with_reducible refine i_op ?_)|(with_reducible refine i_un ?_)|(with_reducible refine i_rI0 ?_)|(with_reducible refine i_rU ?_)|((with_reducible refine' i_rEq ?k1 ?_);(case k1=>exact rfl))|((with_reducible refine' i_rNe ?k1 ?_);(case k1=>exact rfl))|(with_reducible refine i_test ?_)|(with_reducible refine i_tB ?_)|(with_reducible refine i_bl ?_)|(with_reducible refine i_int ?_)|(with_reducible refine i_and ?_)|(with_reducible refine i_or ?_)|(with_reducible refine i_not ?_)|(with_reducible refine i_andV ?_)|(with_reducible refine i_orV ?_)|(with_reducible refine i_notV ?_)|(with_reducible refine i_isN ?_)|(with_reducible refine i_notN ?_)|(with_reducible refine i_ifE ?_)|(with_reducible refine i_name ?_)|(with_reducible refine i_cons ?_)|(with_reducible refine i_nil ?_)|(with_reducible refine i_cb ?_)|(with_reducible refine i_call ?_)|(with_reducible refine i_tup ?_)|(with_reducible refine i_lst ?_)|(with_reducible refine i_gsub ?_)|(with_reducible refine i_gcons ?_)|(with_reducible refine i_gnil ?_)|(with_reducible refine i_yes ?_)|(with_reducible refine i_slice ?_)|(with_reducible refine i_nopart ?_)|(with_reducible refine i_part ?_)|(with_reducible refine i_abs ?_)|((with_reducible refine' i_ixL ?k1 ?k2 ?_);(case k1=>first|exact SqL.of (by assumption)|assumption|exact SqL.of upd_same);(case k2=>exact rfl))|((with_reducible refine' i_ixT ?k1 ?k2 ?_);(case k1=>first|exact SqT.of (by assumption)|assumption|exact SqT.of upd_same);(case k2=>exact rfl))|((with_reducible refine' i_setL ?k1 ?k2 ?_);(case k1=>first|assumption|exact upd_same);(case k2=>exact rfl))|((with_reducible refine' i_gtup ?k1 ?k2 ?_);(case k1=>first|exact SqT.of (by assumption)|assumption|exact SqT.of upd_same);(case k2=>exact rfl))|((with_reducible refine' i_len ?k1 ?_);(case k1=>first|exact SqL.of (by assumption)|assumption|exact SqL.of upd_same))|((with_reducible refine' i_lenT ?k1 ?_);(case k1=>first|exact SqT.of (by assumption)|assumption|exact SqT.of upd_same))|((with_reducible refine' i_list ?k1 ?_);(case k1=>first|exact SqL.of (by assumption)|assumption|exact SqL.of upd_same))|((with_reducible refine' i_slL ?k1 ?_);(case k1=>first|exact SqL.of (by assumption)|assumption|exact SqL.of upd_same))|((with_reducible refine' i_isi ?k1 ?k2 ?_);(case k1=>assumption);(case k2=>decide))|((with_reducible refine i_rI ?k1 ?_);(case k1=>first|(show(0:Int)<_;decide)|(show CPow _ _;exact⟨by decide,by decide,by decide⟩)|(show CDiv _ _;exact⟨by decide,by decide⟩)|(show CMul _ _;exact .inr ⟨by decide,by decide⟩)|(show CMul _ _;exact .inl ⟨by decide,by decide⟩)|(show(0:Int)<_;omega)|(show CDiv _ _;exact⟨by omega,by omega⟩)|(show CMul _ _;exact .inr ⟨by omega,by omega⟩)|(show CMul _ _;exact .inl ⟨by omega,by omega⟩)))|(with_reducible refine i_comp ?_)|(with_reducible refine i_zip ?_)|(with_reducible refine i_itL ?_)|(with_reducible refine i_itT ?_)|(with_reducible refine i_rng1 ?_)|(with_reducible refine i_bm ?_)|(with_reducible refine i_for ?_)|(with_reducible refine i_min2 ?_)|(with_reducible refine i_max2 ?_)|(with_reducible refine i_rng2 ?_)|(with_reducible refine i_intB ?_)|(with_reducible refine i_rev ?_)|(with_reducible refine i_rngB ?_)|(with_reducible refine i_itS ?_)|(with_reducible refine i_inStr ?_)|(with_reducible refine i_find ?_)|(with_reducible refine i_itE ?_)|(with_reducible refine i_comp3 ?_)|(with_reducible refine i_bm0 ?_))| `(tactic|walk_at "r")=> `(tactic|repeat walk_at "s")
noncomputable def DrawC(H:Hp)(d c:Addr):Prop:=∃(ns:List Int) (a:Nat) (r e:Int),H d=some (.lst [.ref c,.int a,.int r,.int e])∧H c=some (.lst (ns.map V.int))∧0≤r∧0≤e
noncomputable def spBeginC(K:W.Frag):Sp:=fun vs H Q _=>∃(a:Addr) (ns:List Int),vs=[.ref a]∧SqL K H a (ns.map V.int)∧ns.length≤63∧∀d c H',Same H H'→H d=none→H c=none→DrawC H' d c→Q (.ref d) H'
noncomputable def spTakeC:Sp:=fun vs H Q _=>∃(d c:Addr) (m:Int),vs=[.ref d,.int m]∧DrawC H d c∧0<m∧m.natAbs<2 ^ 500∧∀r H',0≤r→r<m→DrawC H' d c→But d H H'→Q (.int r) H'
theorem DrawC.same{H H':Hp}{d c:Addr}(s:Same H H')(h:DrawC H d c):DrawC H' d c:=by
 obtain⟨ns,a,r,e,h1,h2,h3,h4⟩:=h
 exact⟨ns,a,r,e,s _ _ h1,s _ _ h2,h3,h4⟩
theorem DrawC.put{H:Hp}{d c b:Addr}{o:HO}(h:DrawC H d c)(n1:b≠d)(n2:b≠c):DrawC (upd H b o) d c:=by
 obtain⟨ns,a,r,e,h1,h2,h3,h4⟩:=h
 exact⟨ns,a,r,e,by rw[upd_ne (Ne.symm n1)];exact h1,by rw[upd_ne (Ne.symm n2)];exact h2,h3,h4⟩
theorem DrawC.is{H:Hp}{d c:Addr}(h:DrawC H d c):(∃o,H d=some o)∧∃o,H c=some o:=by
 obtain⟨ns,a,r,e,h1,h2,h3,h4⟩:=h
 exact⟨⟨_,h1⟩,⟨_,h2⟩⟩
theorem DrawC.ne_tup{H:Hp}{d c p:Addr}{xs:List V}(h:DrawC H d c)(e:H p=some (.tup xs)):p≠d:=by
 obtain⟨ns,a,r,e',h1,_⟩:=h
 exact ne_of e h1 (by intro z;cases z)
section
variable{P:Program}{w:World}{K:W.Frag}{mg:Str→Option Value}{base:Heap}
abbrev sLawBegin:Stmt:=top 50
theorem scLawBegin:FnScope ["_law_script"] ["_law_script"] (defScope sLawBegin):=⟨rfl,rfl,rfl,by decide+kernel,rfl,by decide+kernel,by decide+kernel⟩
theorem ok_begin{f:Addr}{fd:FuncData}(F:Fun K "_law_begin" "_law_begin" sLawBegin f fd)(T:Blt mg):FnOk P w K mg base CX0 1 f fd ["_law_script"] (spBeginC K):=by
 refine F.ok scLawBegin (fun vs H Q E h=>?_) (fun cdv A outer s H vs Q E hr h=>?_)
 ·obtain⟨a,ns,rfl,_⟩:=h
  rfl
 ·obtain⟨a,ns,rfl,hS,hl,k⟩:=h
  refine⟨_,(pss_one (ps_ret (pe_lst (pa_cons (pe_callTy (cList (K:=K) rfl) (by rfl) T.z_list bb_list (pa_cons (pe_slice (slL (K:=K) rfl) (pv 0) po_none (po_some pe_int)) pa_nil)) (pa_cons pe_int (pa_cons pe_int (pa_cons pe_int pa_nil))))))),?_⟩
  walk_at "r"
  intro p hp
  have s1:=same_upd (o:=.lst (cutV (ns.map V.int) none (some 63))) hp
  walk_at "r"
  intro c hc
  have s2:=same_upd (o:=.lst (cutV (ns.map V.int) none (some 63))) hc
  walk_at "r"
  refine⟨by show 4≤sizeLine;decide,fun d hd=>?_⟩
  have s3:=same_upd (o:=.lst [.ref c,.int 0,.int 0,.int 17]) hd
  have e:cutV (ns.map V.int) none (some 63)=(ns.take 63).map V.int:=by
   unfold cutV
   rw[HT.sIx_none,List.drop_zero,List.length_map,List.map_take]
   have z:HT.sIx ns.length ns.length (some (63:Int))=min 63 ns.length:=HT.sIx_nat ns.length ns.length 63
   rw[z,Nat.sub_zero]
   rcases Nat.le_total 63 ns.length with q|q
   ·rw[Nat.min_eq_left q]
   ·rw[Nat.min_eq_right q,List.take_of_length_le (by simp),List.take_of_length_le (by simpa using q)]
  refine k d c _ ((s1.trans s2).trans s3) ((s1.trans s2).free hd) (s1.free hc) ⟨ns.take 63,0,0,17,upd_same,?_,by decide,by decide⟩
  rw[←e]
  exact s3 _ _ upd_same
abbrev sLawTake:Stmt:=top 51
theorem scLawTake:FnScope ["_law_draw","_law_many","_law_cell","_law_got"] ["_law_draw","_law_many"] (defScope sLawTake):=⟨rfl,rfl,rfl,by decide+kernel,rfl,by decide+kernel,by decide+kernel⟩
theorem ok_take{f:Addr}{fd:FuncData}(F:Fun K "_law_take" "_law_take" sLawTake f fd)(T:Blt mg):FnOk P w K mg base CX0 1 f fd ["_law_draw","_law_many"] spTakeC:=by
 refine F.ok scLawTake (fun vs H Q E h=>?_) (fun cdv A outer s H vs Q E hr h=>?_)
 ·obtain⟨d,c,m,rfl,_⟩:=h
  rfl
 ·obtain⟨d,c,m,rfl,⟨ns,a,r,e,h1,h2,h3,h4⟩,hm,hm2,k⟩:=h
  have ncd:=draw_ne h1 h2
  refine⟨_,(pss_cut (ps_if ((pw_and (pt_cmpR op_lt (pe_ix (ixL (K:=K) rfl) (pv 0) pe_int (fun _ _=>rfl)) (pv 1) (nomark _)) (pw_and1 (pt_cmpR op_lt (pe_ix (ixL (K:=K) rfl) (pv 0) pe_int (fun _ _=>rfl)) (pe_callB (cLen (K:=K) rfl) (by rfl) T.z_len bb_len (pa_cons (pe_ix (ixL (K:=K) rfl) (pv 0) pe_int (fun _ _=>rfl)) pa_nil)) (nomark _))))).pt (pss_cons (ps_set (i:=2) scLawTake.nd rfl (Or.inl rfl) (pe_ix (ixL (K:=K) rfl) (pe_ix (ixL (K:=K) rfl) (pv 0) pe_int (fun _ _=>rfl)) (pe_ix (ixL (K:=K) rfl) (pv 0) pe_int (fun _ _=>rfl)) (fun _ _=>rfl)))
   (pss_cons (ps_asg (pe_op op_add (pe_ix (ixL (K:=K) rfl) (pv 0) pe_int (fun _ _=>rfl)) pe_int) (pg_sub (pv 0) pe_int set_list))
   (pss_cons (ps_asg pe_int (pg_sub (pv 0) pe_int set_list))
   (pss_one (ps_if (pt_cmpR op_ge (pe_callB call_absR (by rfl) T.z_abs bb_abs (pa_cons (pv 2) pa_nil)) (pe_op op_pow pe_int pe_int) (nomark _)) (pss_one (ps_asg (pe_callB call_absR (by rfl) T.z_abs bb_abs (pa_cons (pv 2) pa_nil)) (pg_sub (pv 0) pe_int set_list))) (pss_one (ps_asg (pe_op op_mod (pe_op op_add (pe_op op_add (pe_op op_mul (pe_ix (ixL (K:=K) rfl) (pv 0) pe_int (fun _ _=>rfl)) pe_int) (pe_op op_mul (pe_op op_mod (pv 2) pe_int) pe_int)) pe_int) pe_int) (pg_sub (pv 0) pe_int set_list)))))))) pss_nil)
   (pss_cons (ps_if (pt_cmpR op_ge (pe_ix (ixL (K:=K) rfl) (pv 0) pe_int (fun _ _=>rfl)) (pv 1) (nomark _)) (pss_cons (ps_set (i:=3) scLawTake.nd rfl (Or.inl rfl) (pe_op op_mod (pe_ix (ixL (K:=K) rfl) (pv 0) pe_int (fun _ _=>rfl)) (pv 1)))
   (pss_cons (ps_asg (pe_op op_fdivB (pe_ix (ixL (K:=K) rfl) (pv 0) pe_int (fun _ _=>rfl)) (pv 1)) (pg_sub (pv 0) pe_int set_list))
   (pss_one (ps_ret (pv 3))))) pss_nil)
   (pss_cons (ps_asg (pe_op op_mod (pe_op op_add (pe_op op_mul (pe_ix (ixL (K:=K) rfl) (pv 0) pe_int (fun _ _=>rfl)) pe_int) pe_int) pe_int) (pg_sub (pv 0) pe_int set_list))
   (pss_one (ps_ret (pe_op op_mod (pe_op op_fdiv (pe_ix (ixL (K:=K) rfl) (pv 0) pe_int (fun _ _=>rfl)) pe_int) (pv 1))))))),?_⟩
  refine⟨fun σ' H'=>(∃v,σ'=[some (.ref d),some (.int m),v,none])∧DrawC H' d c∧But d H H',?_,?_⟩
  ·walk_at "r"
   refine ite2 (fun _=>?_) (fun _=>?_)
   ·walk_at "r"
    refine ite2 (fun hlt=>?_) (fun _=>?_)
    ·have hlt':a<ns.length:=by
      have z:(a:Int)<((ns.map V.int).length:Int):=of_decide_eq_true hlt
      rw[List.length_map]at z
      omega
     have hc0:atI (ns.map V.int) (a:Int)=some (.int (ns[a]'hlt')):=atI_nat (by rw[List.getElem?_map,List.getElem?_eq_getElem hlt'];rfl)
     generalize ns[a]'hlt'=cell at hc0
     walk_at "r"
     refine i_ixL (SqL.of h2) hc0 ?_
     walk_at "r"
     refine ite2 (fun _=>?_) (fun _=>?_)
     ·walk_at "r"
      refine⟨⟨_,rfl⟩,⟨ns,a+1,_,e,upd_same,?_,?_,h4⟩,but_upd.trans (but_upd.trans but_upd)⟩
      ·rw[upd_ne ncd,upd_ne ncd,upd_ne ncd]
       exact h2
      ·split<;>omega
     ·walk_at "r"
      refine⟨⟨_,rfl⟩,⟨ns,a+1,0,_,upd_same,?_,by decide,?_⟩,but_upd.trans (but_upd.trans but_upd)⟩
      ·rw[upd_ne ncd,upd_ne ncd,upd_ne ncd]
       exact h2
      ·exact Int.emod_nonneg _ (by decide)
    ·exact⟨⟨_,rfl⟩,⟨ns,a,r,e,h1,h2,h3,h4⟩,But.refl⟩
   ·exact⟨⟨_,rfl⟩,⟨ns,a,r,e,h1,h2,h3,h4⟩,But.refl⟩
  ·rintro σ' H' ⟨⟨v,rfl⟩,⟨ns,a,r,e,h1,h2,h3,h4⟩,bt⟩
   have ncd:=draw_ne h1 h2
   walk_at "r"
   refine ite2 (fun _=>?_) (fun _=>?_)
   ·walk_at "r"
    refine i_rI (cdivB hm hm2) ?_
    walk_at "r"
    refine k _ _ (Int.emod_nonneg _ (by omega)) (Int.emod_lt_of_pos _ hm) ⟨ns,a,_,e,upd_same,?_,Int.ediv_nonneg h3 (by omega),h4⟩ (bt.trans but_upd)
    rw[upd_ne ncd]
    exact h2
   ·walk_at "r"
    refine k _ _ (Int.emod_nonneg _ (by omega)) (Int.emod_lt_of_pos _ hm) ⟨ns,a,r,_,upd_same,?_,h3,Int.emod_nonneg _ (by decide)⟩ (bt.trans but_upd)
    rw[upd_ne ncd]
    exact h2
noncomputable def spS:Nat→Sp
 |0=>fun _ _ _ _=>False
 |n+1=>spSame n
theorem same_turns{S1 S2:Hp→List V→Prop}{n:Nat}{vs us:List V}{ds:List Dt}{H1:Hp}{Fin:List V→Hp→Prop}{σ:St}(hS1:∀H',Same H1 H'→S1 H' vs)(hS2:∀H',Same H1 H'→S2 H' us)
  (r1:Reps H1 vs ds) (r2:Reps H1 us ds) (hd:depths ds+1≤n) (hw:wides ds≤1000) (hl:ds.length≤1000) (fin:∀H',Same H1 H'→Fin (List.replicate ds.length (.bl true)) H'):
  CompT (Itz S1 S2) (gTup K 2 (gCons (gName 0) (gCons (gName 1) gNil))) tYes (tCall (spS n) [] E0 (tCons (tVar 0) (tCons (tVar 1) tNil))) Fin (startC 2 [] σ) H1:=by
 have l1:=r1.length
 have l2:=r2.length
 refine⟨fun i m ys σ' H'=>i≤ds.length∧m=ds.length - i∧ys=List.replicate i (.bl true)∧(∃x y,σ'=[x,y])∧Same H1 H',⟨ds.length,Nat.zero_le _,rfl,rfl,⟨none,none,rfl⟩,Same.refl _⟩,?_⟩
 rintro i m ys σ' H' ⟨hi,rfl,rfl,⟨x,y,rfl⟩,s1⟩
 rcases Nat.lt_or_ge i ds.length with hlt|hge
 ·right
  have e1:∃a,vs[i]?=some a:=⟨vs[i]'(by omega),List.getElem?_eq_getElem _⟩
  have e2:∃a,us[i]?=some a:=⟨us[i]'(by omega),List.getElem?_eq_getElem _⟩
  obtain⟨a,ea⟩:=e1
  obtain⟨b,eb⟩:=e2
  obtain⟨d1,g1,p1⟩:=r1.get ea
  obtain⟨d2,g2,p2⟩:=r2.get eb
  rw[g1]at g2
  cases g2
  refine⟨⟨vs,us,a,b,hS1 H' s1,hS2 H' s1,ea,eb⟩,small1000 (by rw[List.length_replicate];omega),?_⟩
  rintro z H2 ⟨T,u,v,rfl,hn,rfl,q⟩
  obtain⟨q1,q2⟩:=q vs us (hS1 H' s1) (hS2 H' s1)
  rw[ea]at q1
  rw[eb]at q2
  cases q1
  cases q2
  have s2:=same_upd (o:=.tup [a,b]) hn
  obtain⟨n',rfl⟩:∃n',n=n'+1:=⟨n - 1,by omega⟩
  refine i_gtup (SqT.of upd_same) rfl ?_
  walk_at "r"
  refine iteT ?_
  walk_at "r"
  have dd:=depth_le g1
  have dw:=wide_le g1
  refine⟨a,b,d1,rfl,p1.mono (s1.trans s2),p2.mono (s1.trans s2),by omega,by omega,fun H3 s3=>?_⟩
  refine⟨ds.length - (i+1),by omega,hlt,rfl,?_,⟨_,_,rfl⟩,(s1.trans s2).trans s3⟩
  rw[List.replicate_succ']
 ·left
  obtain rfl:i=ds.length:=by omega
  exact⟨⟨vs,us,hS1 H' s1,hS2 H' s1,.inl (by omega)⟩,fin H' s1⟩
theorem all_yes(n:Nat):(List.replicate n true).all id=true:=by
 induction n with
 |zero=>rfl
 |succ n ih=>rw[List.replicate_succ,List.all_cons,ih];rfl
abbrev sLawSame:Stmt:=top 52
theorem scLawSame:FnScope ["_law_found","_law_due"] ["_law_found","_law_due"] (defScope sLawSame):=⟨rfl,rfl,rfl,by decide+kernel,rfl,by decide+kernel,by decide+kernel⟩
theorem nd_176_56:(["_law_one","_law_other"]:List Str).Nodup:=by decide+kernel
theorem S_176_56:CompScope ["_law_found","_law_due"] (defScope sLawSame) ({kind:=ScopeKind.function,names:=[(Str.ofString ".0",NameKind.local),(Str.ofString "_law_one",NameKind.local),(Str.ofString "_law_other",NameKind.local),(Str.ofString "_law_same",NameKind.globalImplicit)],isGenerator:=false,isCoroutine:=false,more:=[]:Scope}) (["_law_one","_law_other"]:List Str) ([]:List (Nat×Str)):=⟨by decide+kernel,by decide+kernel,by decide+kernel,by decide+kernel,by decide+kernel⟩
theorem ok_same{f:Addr}{fd:FuncData}(F:Fun K "_law_same" "_law_same" sLawSame f fd)(T:Blt mg)(hm:mg "_law_same"=some (.ref f))(b:Binds K fd ["_law_found","_law_due"] []):∀n,FnOk P w K mg base CX0 n f fd ["_law_found","_law_due"] (spS n)
 |0=>⟨fun _ _ _ _ h=>h.elim,fun _ _ _ _ _ _ _ _ _ _ _ _ _ h=>h.elim⟩
 |n+1=>by
  have c_law_same:Cal P w K mg base "_law_same" n ["_law_found","_law_due"] (spS n):=⟨f,fd,ok_same F T hm b n,hm,F.kp,b⟩
  refine F.ok scLawSame (fun vs H Q E h=>?_) (fun cdv A outer s H vs Q E hr h=>?_)
  ·obtain⟨f,u,dd,rfl,_⟩:=h
   rfl
  ·obtain⟨f1,u,dd,rfl,r1,r2,hd,hw,k⟩:=h
   refine⟨_,(pss_cons (ps_if (pt_val (pe_callB (cIsiT (K:=K) rfl) (by rfl) T.z_isinstance bb_isinstance (pa_cons (pv 1) (pa_cons (pe_tup (pa_cons (pe_bltn (v:=.ty "list") (by rfl) T.z_list bb_list rfl) (pa_cons (pe_bltn (v:=.ty "tuple") (by rfl) T.z_tuple bb_tuple rfl) pa_nil))) pa_nil)))) (pss_cons (ps_if ((pw_or (pt_cmpR op_ne (pe_callB (cIsi (K:=K) rfl) (by rfl) T.z_isinstance bb_isinstance (pa_cons (pv 0) (pa_cons (pe_bltn (v:=.ty "list") (by rfl) T.z_list bb_list rfl) pa_nil))) (pe_callB (cIsi (K:=K) rfl) (by rfl) T.z_isinstance bb_isinstance (pa_cons (pv 1) (pa_cons (pe_bltn (v:=.ty "list") (by rfl) T.z_list bb_list rfl) pa_nil))) (nomark _)) (pw_or1 (pt_cmpR op_ne (pe_callB (cIsi (K:=K) rfl) (by rfl) T.z_isinstance bb_isinstance (pa_cons (pv 0) (pa_cons (pe_bltn (v:=.ty "tuple") (by rfl) T.z_tuple bb_tuple rfl) pa_nil))) (pe_callB (cIsi (K:=K) rfl) (by rfl) T.z_isinstance bb_isinstance (pa_cons (pv 1) (pa_cons (pe_bltn (v:=.ty "tuple") (by rfl) T.z_tuple bb_tuple rfl) pa_nil))) (nomark _))))).pt (pss_one (ps_ret pe_bl)) pss_nil)
   (pss_one (ps_ret (pe_and (pe_cmpR op_eq (pe_callB (cLen (K:=K) rfl) (by rfl) T.z_len bb_len (pa_cons (pv 0) pa_nil)) (pe_callB (cLen (K:=K) rfl) (by rfl) T.z_len bb_len (pa_cons (pv 1) pa_nil)) (nomark _)) (pe_one (pe_callB (cAll (K:=K) rfl rfl) (by rfl) T.z_all bb_all (pa_cons (pe_lcomp rfl S_176_56 (piZ (K:=K) rfl (by rfl) T.z_zip (pa_cons (pv 0) (pa_cons (pv 1) pa_nil))) (by intro _ _ _ _ _;exact(pgT (K:=K) (n:=2) rfl rfl (pgs_cons (pg_name (i:=0) nd_176_56 rfl (Or.inl rfl)) (pgs_cons (pg_name (i:=1) nd_176_56 rfl (Or.inl rfl)) pgs_nil)))) (by intro _ _ _ _ _;exact pts_nil) (by intro _ _ _ _ _;exact(pe_callC c_law_same (hr.mono (by omega)) (by rfl) (pa_cons (pv 0) (pa_cons (pv 1) pa_nil))))) pa_nil))))))) pss_nil)
   (pss_cons (ps_if (pt_cmp (pc_isN (pv 1))) (pss_one (ps_ret (pe_cmp (pc_isN (pv 0))))) pss_nil)
   (pss_cons (ps_if ((pw_or (pt_cmpR op_ne (pe_callB (cIsi (K:=K) rfl) (by rfl) T.z_isinstance bb_isinstance (pa_cons (pv 0) (pa_cons (pe_bltn (v:=.ty "bool") (by rfl) T.z_bool bb_bool rfl) pa_nil))) (pe_callB (cIsi (K:=K) rfl) (by rfl) T.z_isinstance bb_isinstance (pa_cons (pv 1) (pa_cons (pe_bltn (v:=.ty "bool") (by rfl) T.z_bool bb_bool rfl) pa_nil))) (nomark _)) (pw_or1 (pt_cmpR op_ne (pe_callB (cIsi (K:=K) rfl) (by rfl) T.z_isinstance bb_isinstance (pa_cons (pv 0) (pa_cons (pe_bltn (v:=.ty "str") (by rfl) T.z_str bb_str rfl) pa_nil))) (pe_callB (cIsi (K:=K) rfl) (by rfl) T.z_isinstance bb_isinstance (pa_cons (pv 1) (pa_cons (pe_bltn (v:=.ty "str") (by rfl) T.z_str bb_str rfl) pa_nil))) (nomark _))))).pt (pss_one (ps_ret pe_bl)) pss_nil)
   (pss_one (ps_ret (pe_and (pe_cmpR op_eq (pe_callB (cIsi (K:=K) rfl) (by rfl) T.z_isinstance bb_isinstance (pa_cons (pv 0) (pa_cons (pe_bltn (v:=.ty "int") (by rfl) T.z_int bb_int rfl) pa_nil))) (pe_callB (cIsi (K:=K) rfl) (by rfl) T.z_isinstance bb_isinstance (pa_cons (pv 1) (pa_cons (pe_bltn (v:=.ty "int") (by rfl) T.z_int bb_int rfl) pa_nil))) (nomark _)) (pe_one (pe_cmpR op_eq (pv 0) (pv 1) (nomark _))))))))),?_⟩
   walk_at "r"
   refine⟨by show 2≤sizeLine;decide,fun p hp=>?_⟩
   have s1:=same_upd (o:=.tup [.ty "list",.ty "tuple"]) hp
   generalize hH1:upd H p (.tup [.ty "list",.ty "tuple"])=H1 at s1
   have hT:SqT K H1 p (["list","tuple"].map V.ty):=by rw[←hH1];exact SqT.of upd_same
   walk_at "r"
   replace r1:=r1.mono s1
   replace r2:=r2.mono s1
   cases r2 with
   |int i=>
    cases r1
    have kn:Knd K H1 (.int i) "int":=⟨.int i,by decide⟩
    refine⟨_,p,["list","tuple"],"int",rfl,hT,kn,by decide,?_⟩
    walk_at "r"
    refine iteF ?_
    walk_at "r"
    refine iteF ?_
    walk_at "r"
    refine iteNS rfl ?_
    walk_at "r"
    refine iteNS rfl ?_
    walk_at "r"
    rw[decide_eq_true (show V.bl (isTy "int" "int")=V.bl (isTy "int" "int")from rfl)]
    refine iteT ?_
    walk_at "r"
    rw[decide_eq_true rfl]
    exact k _ s1
   |bl i=>
    cases r1
    have kn:Knd K H1 (.bl i) "bool":=⟨.bl i,by decide⟩
    refine⟨_,p,["list","tuple"],"bool",rfl,hT,kn,by decide,?_⟩
    walk_at "r"
    refine iteF ?_
    walk_at "r"
    refine iteF ?_
    walk_at "r"
    refine iteNS rfl ?_
    walk_at "r"
    refine iteNS rfl ?_
    walk_at "r"
    rw[decide_eq_true (show V.bl (isTy "bool" "int")=V.bl (isTy "bool" "int")from rfl)]
    refine iteT ?_
    walk_at "r"
    rw[decide_eq_true rfl]
    exact k _ s1
   |str i=>
    cases r1
    have kn:Knd K H1 (.str i) "str":=⟨.str i,by decide⟩
    refine⟨_,p,["list","tuple"],"str",rfl,hT,kn,by decide,?_⟩
    walk_at "r"
    refine iteF ?_
    walk_at "r"
    refine iteF ?_
    walk_at "r"
    refine iteNS rfl ?_
    walk_at "r"
    refine iteNS rfl ?_
    walk_at "r"
    rw[decide_eq_true (show V.bl (isTy "str" "int")=V.bl (isTy "str" "int")from rfl)]
    refine iteT ?_
    walk_at "r"
    rw[decide_eq_true rfl]
    exact k _ s1
   |non=>
    cases r1
    have kn:Knd K H1 (.non) "NoneType":=⟨.non,by decide⟩
    refine⟨_,p,["list","tuple"],"NoneType",rfl,hT,kn,by decide,?_⟩
    walk_at "r"
    refine iteF ?_
    walk_at "r"
    rw[decide_eq_true (show V.non=V.non from rfl)]
    refine iteT ?_
    walk_at "r"
    rw[decide_eq_true (show V.non=V.non from rfl)]
    exact k _ s1
   |lst e2 q2=>
    cases r1 with
    |lst e1 q1=>
     have kn1:Knd K H1 _ "list":=⟨.lst e1,by decide⟩
     have kn2:Knd K H1 _ "list":=⟨.lst e2,by decide⟩
     refine⟨_,p,["list","tuple"],"list",rfl,hT,kn2,by decide,?_⟩
     walk_at "r"
     refine iteT ?_
     walk_at "r"
     refine iteNS rfl ?_
     walk_at "r"
     refine iteNS rfl ?_
     walk_at "r"
     have el:=congrArg (fun z:Nat=>V.int (z:Int)) (q1.length.trans q2.length.symm)
     rw[decide_eq_true el]
     refine iteT ?_
     walk_at "r"
     have hd':depths _+1≤n:=hd
     have hw':max _ (wides _)≤1000:=hw
     refine⟨_,_,rfl,.inl ⟨_,_,SqL.of e1,SqL.of e2,?_⟩⟩
     refine same_turns (fun H' s'=>SqL.of (s' _ _ e1)) (fun H' s'=>SqL.of (s' _ _ e2)) q1 q2 hd' (Nat.le_trans (Nat.le_max_right _ _) hw') (Nat.le_trans (Nat.le_max_left _ _) hw') ?_
     intro H' s' D hD
     walk_at "r"
     refine⟨D,List.replicate _ true,rfl,SqL.of (by rw[List.map_replicate];exact upd_same),?_⟩
     rw[all_yes]
     exact k _ ((s1.trans s').trans (same_upd hD))
   |tup e2 q2=>
    cases r1 with
    |tup e1 q1=>
     have kn1:Knd K H1 _ "tuple":=⟨.tup e1,by decide⟩
     have kn2:Knd K H1 _ "tuple":=⟨.tup e2,by decide⟩
     refine⟨_,p,["list","tuple"],"tuple",rfl,hT,kn2,by decide,?_⟩
     walk_at "r"
     refine iteT ?_
     walk_at "r"
     refine iteNS rfl ?_
     walk_at "r"
     refine iteNS rfl ?_
     walk_at "r"
     have el:=congrArg (fun z:Nat=>V.int (z:Int)) (q1.length.trans q2.length.symm)
     rw[decide_eq_true el]
     refine iteT ?_
     walk_at "r"
     have hd':depths _+1≤n:=hd
     have hw':max _ (wides _)≤1000:=hw
     refine⟨_,_,rfl,.inr ⟨_,_,SqT.of e1,SqT.of e2,?_⟩⟩
     refine same_turns (fun H' s'=>SqT.of (s' _ _ e1)) (fun H' s'=>SqT.of (s' _ _ e2)) q1 q2 hd' (Nat.le_trans (Nat.le_max_right _ _) hw') (Nat.le_trans (Nat.le_max_left _ _) hw') ?_
     intro H' s' D hD
     walk_at "r"
     refine⟨D,List.replicate _ true,rfl,SqL.of (by rw[List.map_replicate];exact upd_same),?_⟩
     rw[all_yes]
     exact k _ ((s1.trans s').trans (same_upd hD))
end
section
variable{P:Program}{w:World}{K:W.Frag}{mg:Str→Option Value}{base:Heap}
theorem DrawC.ne_ints{H:Hp}{d c p:Addr}{ns:List Int}(h:DrawC H d c)(e:H p=some (.lst (ns.map V.int))):p≠d:=by
 obtain⟨_,a,r,e',h1,_⟩:=h
 intro z
 subst z
 rw[h1]at e
 have q:=Option.some.inj e
 injection q with q
 cases ns with
 |nil=>cases q
 |cons n r=>injection q with q _;cases q
noncomputable def spSomeC(K:W.Frag):Sp:=fun vs H Q _=>∃(d c0 l:Addr) (ns:List Int) (m:Int),vs=[.ref d,.ref l,.int m]∧DrawC H d c0∧SqL K H l (ns.map V.int)∧ns.length≤200∧ -(2 ^ 61)≤m∧m≤2 ^ 61∧
 ∀p H' (fs ls:List Int),DrawC H' d c0→But d H H'→H p=none→H' p=some (.lst (fs.map V.int))→(fs++ls).Perm ns→fs.length=min m.toNat ns.length→Q (.ref p) H'
theorem small_int{m:Int}(h:0<m)(h2:m≤10000):m.natAbs<2 ^ 500:=Nat.lt_trans (show m.natAbs<2 ^ 20 by omega) (Nat.pow_lt_pow_right (by decide) (by decide))
theorem le_line{n:Nat}(h:n≤1000):n≤sizeLine:=Nat.le_trans h (by decide)
theorem lt_line{n:Nat}(h:n<1000):n<sizeLine:=Nat.lt_of_lt_of_le h (by decide)
theorem but_new{d a:Addr}{H H':Hp}{o:HO}(h:H a=none)(b:But d H H'):But d H (upd H' a o):=fun c u n e=>by rw[upd_ne (ne_of_none e h)];exact b c u n e
theorem erase_perm:∀(l:List Int) (k:Nat) (h:k<l.length),(l[k]::l.eraseIdx k).Perm l
 |[],_,h=>absurd h (Nat.not_lt_zero _)
 |x::r,0,_=>List.Perm.refl _
 |x::r,k+1,h=>by
  have h':k<r.length:=by simpa using h
  exact(List.Perm.swap x (r[k]) (r.eraseIdx k)).trans ((erase_perm r k h').cons x)
abbrev sLawSome:Stmt:=top 55
theorem scLawSome:FnScope ["_law_draw","_law_pool","_law_many","_law_left","_law_found","_law_k"] ["_law_draw","_law_pool","_law_many"] (defScope sLawSome):=⟨rfl,rfl,rfl,by decide+kernel,rfl,by decide+kernel,by decide+kernel⟩
theorem ok_some{f:Addr}{fd:FuncData}(F:Fun K "_law_some" "_law_some" sLawSome f fd)(T:BltM mg)(c_law_take:Cal P w K mg base "_law_take" 1 ["_law_draw","_law_many"] spTakeC):FnOk P w K mg base CX0 2 f fd ["_law_draw","_law_pool","_law_many"] (spSomeC K):=by
 refine F.ok scLawSome (fun vs H Q E h=>?_) (fun cdv A outer s H vs Q E hr h=>?_)
 ·obtain⟨d,c0,l,ns,m,rfl,_⟩:=h
  rfl
 ·obtain⟨d,c0,l,ns,m,rfl,hD,hS,hl,m1,m2,k⟩:=h
  refine⟨_,(pss_cons (ps_set (i:=3) scLawSome.nd rfl (Or.inl rfl) (pe_callTy (cList (K:=K) rfl) (by rfl) T.z_list bb_list (pa_cons (pv 1) pa_nil)))
   (pss_cons (ps_set (i:=4) scLawSome.nd rfl (Or.inl rfl) (pe_lst pa_nil))
   (pss_cons (ps_for PassesOwn.never rfl (pi_range1 (by rfl) T.z_range (pa_cons (pe_callB (cMin2 rfl) (by rfl) T.z_min bb_min (pa_cons (pv 2) (pa_cons (pe_callB (cLen (K:=K) rfl) (by rfl) T.z_len bb_len (pa_cons (pv 3) pa_nil)) pa_nil))) pa_nil)) (pg_name (i:=5) scLawSome.nd rfl (Or.inl rfl)) (pss_one (ps_expr (mApp (K:=K) rfl (pv 4) (pa_cons (mPopAt (K:=K) rfl (pv 3) (pa_cons (pe_callC c_law_take (hr.mono (by omega)) (by rfl) (pa_cons (pv 0) (pa_cons (pe_callB (cLen (K:=K) rfl) (by rfl) T.z_len bb_len (pa_cons (pv 3) pa_nil)) pa_nil))) pa_nil)) pa_nil)))))
   (pss_one (ps_ret (pv 4)))))),?_⟩
  walk_at "r"
  intro a ha
  have s1:=same_upd (o:=.lst (ns.map V.int)) ha
  have ha1:upd H a (.lst (ns.map V.int)) a=some (.lst (ns.map V.int)):=upd_same
  generalize upd H a (.lst (ns.map V.int))=H1 at s1 ha1⊢
  walk_at "r"
  refine⟨Nat.zero_le _,fun b hb=>?_⟩
  have s2:=same_upd (o:=.lst []) hb
  have hb2:upd H1 b (.lst []) b=some (.lst []):=upd_same
  have ha2:=s2 _ _ ha1
  have hab:a≠b:=ne_of_none ha1 hb
  have hb0:=s1.free hb
  have s12:=s1.trans s2
  generalize upd H1 b (.lst [])=H2 at s2 s12 ha2 hb2⊢
  walk_at "r"
  refine⟨_,rfl,?_,?_,?_⟩
  ·rw[List.length_map];split<;>omega
  ·rw[List.length_map];split<;>omega
  rw[List.length_map]
  have en:(if(ns.length:Int)<m then(ns.length:Int)else m).toNat=min m.toNat ns.length:=by split<;>omega
  rw[en]
  obtain⟨⟨o,ho⟩,⟨o',ho'⟩⟩:=hD.is
  have hac:a≠c0:=Ne.symm (ne_of_none ho' ha)
  have hbc:b≠c0:=Ne.symm (ne_of_none ho' hb0)
  have had:a≠d:=Ne.symm (ne_of_none ho ha)
  have hbd:b≠d:=Ne.symm (ne_of_none ho hb0)
  refine forW (fun i σ' H'=>(∃x,σ'=[some (.ref d),some (.ref l),some (.int m),some (.ref a),some (.ref b),x])∧DrawC H' d c0∧But d H H'∧∃fs ls:List Int,H' a=some (.lst (ls.map V.int))∧H' b=some (.lst (fs.map V.int))∧fs.length=i∧ls.length=ns.length - i∧(fs++ls).Perm ns) (min m.toNat ns.length)
   ⟨⟨none,rfl⟩,hD.same s12,s12.but,[],ns,ha2,hb2,rfl,rfl,List.Perm.refl _⟩ ?_ ?_
  ·rintro σ' H' ⟨⟨x,rfl⟩,hD',bt,fs,ls,_,hb',lf,_,pm⟩
   refine⟨Nat.le_refl _,?_⟩
   walk_at "r"
   exact k b H' fs ls hD' bt hb0 hb' pm lf
  ·rintro i σ' H' hi ⟨⟨x,rfl⟩,hD',bt,fs,ls,ha',hb',lf,ll,pm⟩
   refine⟨hi,?_⟩
   rintro x' H3 ⟨rfl,rfl⟩
   walk_at "r"
   refine⟨.inl ⟨rfl,_,SqL.of hb'⟩,?_⟩
   walk_at "r"
   refine⟨.inl ⟨rfl,_,SqL.of ha'⟩,?_⟩
   walk_at "r"
   refine⟨d,c0,_,rfl,hD',by rw[List.length_map];omega,small_int (by rw[List.length_map];omega) (by rw[List.length_map];omega),fun r H4 r0 r1 hD4 b4=>?_⟩
   rw[List.length_map]at r1
   have ha4:=b4 _ _ had ha'
   have hb4:=b4 _ _ hbd hb'
   walk_at "r"
   obtain⟨j,rfl⟩:∃j:Nat,r=j:=⟨r.toNat,by omega⟩
   have hj:j<ls.length:=by omega
   refine i_popAt ha4 hj (by omega) ?_
   walk_at "r"
   refine i_app (by rw[upd_ne (Ne.symm hab)];exact hb4) (lt_line (by rw[List.length_map];omega)) ?_
   walk_at "r"
   have bt4:=bt.trans b4
   have hx:(fs.map V.int++[V.int ls[j]])=(fs++[ls[j]]).map V.int:=by rw[List.map_append];rfl
   rw[hx]
   refine⟨⟨_,rfl⟩,(hD4.put had hac).put hbd hbc,but_new hb0 (but_new ha bt4),fs++[ls[j]],ls.eraseIdx j,by rw[upd_ne hab];exact upd_same,upd_same,by simp[lf],by rw[List.length_eraseIdx_of_lt hj];omega,?_⟩
   refine List.Perm.trans ?_ pm
   rw[List.append_assoc]
   exact List.Perm.append_left fs (erase_perm ls j hj)
abbrev sLawSet:Stmt:=top 53
theorem scLawSet:FnScope ["_law_timbers"] ["_law_timbers"] (defScope sLawSet):=⟨rfl,rfl,rfl,by decide+kernel,rfl,by decide+kernel,by decide+kernel⟩
noncomputable def spRis(K:W.Frag):Sp:=fun vs H Q _=>∃(p:Addr) (ns:List Int),vs=[.ref p]∧SqX K H p (ns.map V.int)∧ns.length<64∧∀l H' (rs:List Int),Same H H'→H l=none→H' l=some (.lst (rs.map V.int))→Ris rs (fun x=>x∈ns)→Q (.ref l) H'
theorem ok_set{f:Addr}{fd:FuncData}(F:Fun K "_law_set" "_law_set" sLawSet f fd)(T:BltM mg):FnOk P w K mg base CX0 1 f fd ["_law_timbers"] (spRis K):=by
 refine F.ok scLawSet (fun vs H Q E h=>?_) (fun cdv A outer s H vs Q E hr h=>?_)
 ·obtain⟨p,ns,rfl,_⟩:=h
  rfl
 ·obtain⟨p,ns,rfl,hS,hl,k⟩:=h
  refine⟨_,(pss_one (ps_ret (pe_callB (cSortedS (w:=w) rfl rfl) (by rfl) T.z_sorted bb_sorted (pa_cons (pe_callTy (cSetX (K:=K) (w:=w) rfl rfl rfl) (by rfl) T.z_set bb_set (pa_cons (pv 0) pa_nil)) pa_nil)))),?_⟩
  walk_at "r"
  refine i_setX hS (by omega) fun a ks ha nd mem=>?_
  walk_at "r"
  refine i_sortedS upd_same (Nat.lt_of_le_of_lt (nodup_le nd fun x hx=>(mem x).mp hx) hl) fun l rs hl pm so=>?_
  have s1:=same_upd (o:=setO w a ks) ha
  exact k l _ rs (s1.trans (same_upd hl)) (s1.free hl) upd_same (ris_of pm so nd mem)
end
section
variable{P:Program}{w:World}{K:W.Frag}{mg:Str→Option Value}{base:Heap}
abbrev sRising:Stmt:=top 5
theorem scRising:FnScope ["timbers"] ["timbers"] (defScope sRising):=⟨rfl,rfl,rfl,by decide+kernel,rfl,by decide+kernel,by decide+kernel⟩
theorem ok_rising{f:Addr}{fd:FuncData}(F:Fun K "rising" "rising" sRising f fd)(T:BltM mg):FnOk P w K mg base CX0 1 f fd ["timbers"] (spRis K):=by
 refine F.ok scRising (fun vs H Q E h=>?_) (fun cdv A outer s H vs Q E hr h=>?_)
 ·obtain⟨p,ns,rfl,_⟩:=h
  rfl
 ·obtain⟨p,ns,rfl,hS,hl,k⟩:=h
  refine⟨_,(pss_one (ps_ret (pe_callB (cSortedS (w:=w) rfl rfl) (by rfl) T.z_sorted bb_sorted (pa_cons (pe_callTy (cSetX (K:=K) (w:=w) rfl rfl rfl) (by rfl) T.z_set bb_set (pa_cons (pv 0) pa_nil)) pa_nil)))),?_⟩
  walk_at "r"
  refine i_setX hS (by omega) fun a ks ha nd mem=>?_
  walk_at "r"
  refine i_sortedS upd_same (Nat.lt_of_le_of_lt (nodup_le nd fun x hx=>(mem x).mp hx) hl) fun l rs hl pm so=>?_
  have s1:=same_upd (o:=setO w a ks) ha
  exact k l _ rs (s1.trans (same_upd hl)) (s1.free hl) upd_same (ris_of pm so nd mem)
end
theorem Reps.snoc{H:Hp}:∀{vs:List V} {ds:List Dt} {v:V} {d:Dt},Reps H vs ds→Rep H v d→Reps H (vs++[v]) (ds++[d])
 |_,_,_,_,.nil,r=>.cons r .nil
 |_,_,_,_,.cons a t,r=>.cons a (Reps.snoc t r)
theorem Reps.append{H:Hp}:∀{vs ws:List V} {ds es:List Dt},Reps H vs ds→Reps H ws es→Reps H (vs++ws) (ds++es)
 |_,_,_,_,.nil,r=>r
 |_,_,_,_,.cons a t,r=>.cons a (Reps.append t r)
theorem mapW{J:It}{g:TG}{te:TE}{ws:List V}{H1:Hp}{Fin:List V→Hp→Prop}{σ0:St}(Iv:St→Prop)(h0:Iv σ0)(hl:ws.length≤1000)
  (stop:∀H',Same H1 H'→J.stop ws.length H') (go:∀i H',i<ws.length→Same H1 H'→J.go i H')
  (step:∀i w x σ' H' H2 (R:V→St→Hp→Prop) (R0:St→Hp→Prop),ws[i]?=some w→Iv σ'→Same H1 H'→J.yld i H' x H2→(∀σ3 H3,Iv σ3→Same H1 H3→R w σ3 H3)→
   g x σ' H2 fun σ3 H3=>tYes σ3 H3 fun b H4=>if b=true then te σ3 H4 (fun y H5=>R y σ3 H5)else R0 σ3 H4)
  (fin:∀H',Same H1 H'→Fin ws H'):CompT J g tYes te Fin σ0 H1:=by
 refine compW (fun i ys σ' H'=>Iv σ'∧Same H1 H'∧ys=ws.take i) ws.length ⟨h0,Same.refl _,rfl⟩ ?_ ?_
 ·rintro ys σ' H' ⟨_,s1,rfl⟩
  refine⟨stop H' s1,?_⟩
  rw[List.take_of_length_le (Nat.le_refl _)]
  exact fin H' s1
 ·rintro i ys σ' H' hi ⟨iv,s1,rfl⟩
  refine⟨go i H' hi s1,Nat.lt_of_lt_of_le (show _<1001 by rw[List.length_take];omega) (by decide),?_⟩
  intro x H2 hy
  have hw:ws[i]?=some ws[i]:=List.getElem?_eq_getElem hi
  refine step i _ x σ' H' H2 _ _ hw iv s1 hy fun σ3 H3 iv3 s3=>nxt hi ⟨iv3,s3,?_⟩
  rw[List.take_succ,hw]
  rfl
noncomputable def inB(lo hi x:Int):Bool:=decide (lo≤x) && decide (x≤hi)
noncomputable def spIn(lo hi:Int):Sp:=fun vs H Q _=>∃x:Int,vs=[.int x]∧Q (.bl (inB lo hi x)) H
theorem in_chain{σ:St}{H:Hp}{Q:VK}{ta tb tc:TE}{lo hi x:Int}(h1:∀Q',Q' (.int lo) H→ta σ H Q')(h2:∀Q',Q' (.int x) H→tb σ H Q')(h3:∀Q',Q' (.int hi) H→tc σ H Q')(q:Q (.bl (inB lo hi x)) H):
  tChain (rI0 fun i j=>.bl (decide (i≤j))) (rI0 fun i j=>.bl (decide (i≤j))) ta tb tc σ H Q:=by
 refine i_chain (h1 _ (h2 _ (i_rI0 (i_bl ?_))))
 unfold inB at q
 cases h:decide (lo≤x)with
 |true=>
  rw[h,Bool.true_and]at q
  exact iteT (h3 _ (i_rI0 q))
 |false=>
  rw[h,Bool.false_and]at q
  exact iteF q
theorem inB_true{lo hi x:Int}(h1:lo≤x)(h2:x≤hi):inB lo hi x=true:=by unfold inB;rw[decide_eq_true h1,decide_eq_true h2];rfl
noncomputable def cntR(ns ms:List Int):Nat:=((uniq ns).filter fun x=>!decide (x∈ms)).length
theorem cntR_of{ks ns ms:List Int}(h:ks.Nodup)(m:∀x,x∈ks↔x∈ns∧x∉ms):ks.length=cntR ns ms:=nodup_len h (nodup_uniq.filter _) fun x=>by
 rw[m x,List.mem_filter,mem_uniq];simp
theorem cnt_split(ns ms:List Int):cntR ns ms+cntB ns ms=cnt ns:=by
 unfold cntR cntB cnt
 induction uniq ns with
 |nil=>rfl
 |cons x r ih=>
  rw[List.filter_cons,List.filter_cons,List.length_cons]
  cases h:decide (x∈ms)<;>simp only[Bool.not_false,Bool.not_true,if_true,if_false,Bool.false_eq_true,List.length_cons]<;>omega
abbrev T3:=Nat×Nat×Nat
noncomputable def tri(p:T3):Dt:=.tup [.int p.1,.int p.2.1,.int p.2.2]
noncomputable def triV(p:T3):List V:=[.int p.1,.int p.2.1,.int p.2.2]
noncomputable def triI(p:T3):List Int:=[p.1,p.2.1,p.2.2]
theorem rep_tri{H:Hp}{v:V}{p:T3}(h:Rep H v (tri p)):∃a,v=.ref a∧H a=some (.tup (triV p)):=by
 cases h with
 |tup e r=>
  cases r with
  |cons r1 t1=>
   cases t1 with
   |cons r2 t2=>
    cases t2 with
    |cons r3 t3=>
     cases t3
     cases r1;cases r2;cases r3
     exact⟨_,rfl,e⟩
theorem tri_rep{H:Hp}{a:Addr}{p:T3}(h:H a=some (.tup (triV p))):Rep H (.ref a) (tri p):=.tup h (.cons (.int _) (.cons (.int _) (.cons (.int _) .nil)))
theorem depths_tri:∀l:List T3,depths (l.map tri)≤1
 |[]=>Nat.zero_le _
 |p::r=>by
  show max (max 0 (max 0 (max 0 0))+1) (depths (r.map tri))≤1
  have:=depths_tri r
  omega
theorem wides_tri:∀l:List T3,wides (l.map tri)≤3
 |[]=>Nat.zero_le _
 |p::r=>by
  show max (max 3 (max 0 (max 0 (max 0 0)))) (wides (r.map tri))≤3
  have:=wides_tri r
  omega
theorem depth_tri(l:List T3):(Dt.lst (l.map tri)).depth≤2:=by show depths (l.map tri)+1≤2;have:=depths_tri l;omega
noncomputable def okT(slip:Int)(p:T3):Bool:=inB 1 slip ((p.1:Int)+p.2.1+p.2.2)
noncomputable def rowT(x y k:Nat):List T3:=(List.range k).map fun z=>(x,y,z)
noncomputable def plT(x c j:Nat):List T3:=(List.range j).flatMap fun y=>rowT x y (c+1)
noncomputable def alT(b c i:Nat):List T3:=(List.range i).flatMap fun x=>plT x c (b+1)
noncomputable def stagesOf(a b c:Nat)(slip:Int):List T3:=(alT b c (a+1)).filter (okT slip)
theorem rowT_succ(x y k:Nat):rowT x y (k+1)=rowT x y k++[(x,y,k)]:=by unfold rowT;rw[List.range_succ,List.map_append];rfl
theorem plT_succ(x c j:Nat):plT x c (j+1)=plT x c j++rowT x j (c+1):=by unfold plT;rw[List.range_succ,List.flatMap_append];simp
theorem alT_succ(b c i:Nat):alT b c (i+1)=alT b c i++plT i c (b+1):=by unfold alT;rw[List.range_succ,List.flatMap_append];simp
theorem rowT_len(x y k:Nat):(rowT x y k).length=k:=by simp[rowT]
theorem plT_len(x c j:Nat):(plT x c j).length=j*(c+1):=by
 induction j with
 |zero=>simp[plT]
 |succ j ih=>rw[plT_succ,List.length_append,ih,rowT_len,Nat.succ_mul]
theorem alT_len(b c i:Nat):(alT b c i).length=i*((b+1)*(c+1)):=by
 induction i with
 |zero=>simp[alT]
 |succ j ih=>rw[alT_succ,List.length_append,ih,plT_len];exact(Nat.succ_mul _ _).symm
theorem few_at:∀b,b<13→(13 - b)*((b+1)*(13 - b))≤405:=by decide
theorem few{a b c:Nat}(h1:a+b≤12)(h2:c+b≤12):(a+1)*((b+1)*(c+1))≤1000:=by
 have e:=few_at b (by omega)
 have e1:a+1≤13 - b:=by omega
 have e2:c+1≤13 - b:=by omega
 exact Nat.le_trans (Nat.mul_le_mul e1 (Nat.mul_le_mul (Nat.le_refl _) e2)) (by omega)
theorem stagesOf_len{a b c:Nat}{slip:Int}(h1:a+b≤12)(h2:c+b≤12):(stagesOf a b c slip).length≤1000:=
 Nat.le_trans (List.length_filter_le _ _) (by rw[alT_len];exact few h1 h2)
noncomputable def minI(i j:Int):Int:=if j<i then j else i
noncomputable def minS(xs ys:List Int):Int:=(List.zipWith minI xs ys).sum
noncomputable def nearB(xs ys:List Int):Bool:=decide (2*minS xs ys >xs.sum) && decide (2*minS xs ys >ys.sum)
noncomputable def spNear(K:W.Frag):Sp:=fun vs H Q _=>∃(p q:Addr) (xs ys:List Int),vs=[.ref p,.ref q]∧SqT K H p (xs.map V.int)∧SqT K H q (ys.map V.int)∧xs.length=3∧ys.length=3∧∀H',Same H H'→Q (.bl (nearB xs ys)) H'
section
variable{P:Program}{w:World}{K:W.Frag}{mg:Str→Option Value}{base:Heap}
noncomputable def pBoth(ns ms:List Int)(x:Int):Prop:=x∈ns∧x∈ms
noncomputable def pRest(ns ms:List Int)(x:Int):Prop:=x∈ns∧x∉ms
noncomputable def spTwo(K:W.Frag)(R:List Int→List Int→Int→Prop):Sp:=fun vs H Q _=>∃(p q:Addr) (ns ms:List Int),vs=[.ref p,.ref q]∧SqX K H p (ns.map V.int)∧SqX K H q (ms.map V.int)∧ns.length<64∧ms.length<64∧
 ∀l H' (rs:List Int),Same H H'→H l=none→H' l=some (.lst (rs.map V.int))→Ris rs (R ns ms)→Q (.ref l) H'
abbrev sCommon:Stmt:=top 6
theorem scCommon:FnScope ["one","other"] ["one","other"] (defScope sCommon):=⟨rfl,rfl,rfl,by decide+kernel,rfl,by decide+kernel,by decide+kernel⟩
theorem ok_common{f:Addr}{fd:FuncData}(F:Fun K "common" "common" sCommon f fd)(T:BltM mg):FnOk P w K mg base CX0 1 f fd ["one","other"] (spTwo K pBoth):=by
 refine F.ok scCommon (fun vs H Q E h=>?_) (fun cdv A outer s H vs Q E hr h=>?_)
 ·obtain⟨p,q,ns,ms,rfl,_⟩:=h
  rfl
 ·obtain⟨p,q,ns,ms,rfl,hp,hq,l1,l2,k⟩:=h
  refine⟨_,(pss_one (ps_ret (pe_callB (cSortedS (w:=w) rfl rfl) (by rfl) T.z_sorted bb_sorted (pa_cons (pe_op (oAndS (w:=w) rfl) (pe_callTy (cSetX (K:=K) (w:=w) rfl rfl rfl) (by rfl) T.z_set bb_set (pa_cons (pv 0) pa_nil)) (pe_callTy (cSetX (K:=K) (w:=w) rfl rfl rfl) (by rfl) T.z_set bb_set (pa_cons (pv 1) pa_nil))) pa_nil)))),?_⟩
  walk_at "r"
  refine i_setX hp (by omega) fun a ks ha nd mem=>?_
  have s1:=same_upd (o:=setO w a ks) ha
  walk_at "r"
  refine i_setX (hq.same s1) (by omega) fun b js hb nd2 mem2=>?_
  have s2:=same_upd (o:=setO w b js) hb
  have ea:upd (upd H a (setO w a ks)) b (setO w b js) a=some (setO w a ks):=s2 _ _ upd_same
  refine i_andS ea upd_same (ne_of_none upd_same hb) fun c kr hc nd3 mem3=>?_
  have s3:=same_upd (o:=setO w c kr) hc
  refine i_sortedS upd_same (Nat.lt_of_le_of_lt (nodup_le nd3 fun x hx=>(mem x).mp ((mem3 x).mp hx).1) l1) fun l rs hl pm so=>?_
  have s123:=(s1.trans s2).trans s3
  refine k l _ rs (s123.trans (same_upd hl)) (s123.free hl) upd_same (ris_of pm so nd3 fun x=>?_)
  rw[mem3 x,mem x,mem2 x]
  exact Iff.rfl
abbrev sApart:Stmt:=top 7
theorem scApart:FnScope ["one","other"] ["one","other"] (defScope sApart):=⟨rfl,rfl,rfl,by decide+kernel,rfl,by decide+kernel,by decide+kernel⟩
theorem ok_apart{f:Addr}{fd:FuncData}(F:Fun K "apart" "apart" sApart f fd)(T:BltM mg):FnOk P w K mg base CX0 1 f fd ["one","other"] (spTwo K pRest):=by
 refine F.ok scApart (fun vs H Q E h=>?_) (fun cdv A outer s H vs Q E hr h=>?_)
 ·obtain⟨p,q,ns,ms,rfl,_⟩:=h
  rfl
 ·obtain⟨p,q,ns,ms,rfl,hp,hq,l1,l2,k⟩:=h
  refine⟨_,(pss_one (ps_ret (pe_callB (cSortedS (w:=w) rfl rfl) (by rfl) T.z_sorted bb_sorted (pa_cons (pe_op (oSubS (w:=w) rfl) (pe_callTy (cSetX (K:=K) (w:=w) rfl rfl rfl) (by rfl) T.z_set bb_set (pa_cons (pv 0) pa_nil)) (pe_callTy (cSetX (K:=K) (w:=w) rfl rfl rfl) (by rfl) T.z_set bb_set (pa_cons (pv 1) pa_nil))) pa_nil)))),?_⟩
  walk_at "r"
  refine i_setX hp (by omega) fun a ks ha nd mem=>?_
  have s1:=same_upd (o:=setO w a ks) ha
  walk_at "r"
  refine i_setX (hq.same s1) (by omega) fun b js hb nd2 mem2=>?_
  have s2:=same_upd (o:=setO w b js) hb
  have ea:upd (upd H a (setO w a ks)) b (setO w b js) a=some (setO w a ks):=s2 _ _ upd_same
  refine i_subS ea upd_same (Nat.lt_of_le_of_lt (nodup_le nd fun x hx=>(mem x).mp hx) l1) fun c kr hc nd3 mem3=>?_
  have s3:=same_upd (o:=setO w c kr) hc
  refine i_sortedS upd_same (Nat.lt_of_le_of_lt (nodup_le nd3 fun x hx=>(mem x).mp ((mem3 x).mp hx).1) l1) fun l rs hl pm so=>?_
  have s123:=(s1.trans s2).trans s3
  refine k l _ rs (s123.trans (same_upd hl)) (s123.free hl) upd_same (ris_of pm so nd3 fun x=>?_)
  rw[mem3 x,mem x,mem2 x]
  exact Iff.rfl
abbrev sIsSlip:Stmt:=top 12
theorem scIsSlip:FnScope ["number"] ["number"] (defScope sIsSlip):=⟨rfl,rfl,rfl,by decide+kernel,rfl,by decide+kernel,by decide+kernel⟩
theorem ok_is_slip{f:Addr}{fd:FuncData}(F:Fun K "is_slip" "is_slip" sIsSlip f fd)(T:BltM mg){tk:Tok}(hMost:mg "MOST_SLIP"=some (.int 12 tk)):FnOk P w K mg base CX0 1 f fd ["number"] (spIn 1 12):=by
 refine F.ok scIsSlip (fun vs H Q E h=>?_) (fun cdv A outer s H vs Q E hr h=>?_)
 ·obtain⟨x,rfl,_⟩:=h
  rfl
 ·obtain⟨x,rfl,k⟩:=h
  refine⟨_,(pss_one (ps_ret (pe_chain op_le op_le pe_int (pv 0) (pe_glob (v:=.int 12) (by rfl) hMost ⟨_,rfl⟩)))),?_⟩
  refine i_ret ?_
  exact in_chain (fun _ q=>i_tC q) (fun _ q=>i_var rfl q) (fun _ q=>i_tC q) k
noncomputable def spNeedSlip:Sp:=fun vs H Q _=>∃x:Int,vs=[.int x]∧1≤x∧x≤12∧Q .non H
abbrev sNeedSlip:Stmt:=top 13
theorem scNeedSlip:FnScope ["number"] ["number"] (defScope sNeedSlip):=⟨rfl,rfl,rfl,by decide+kernel,rfl,by decide+kernel,by decide+kernel⟩
theorem ok_need_slip{f:Addr}{fd:FuncData}(F:Fun K "need_slip" "need_slip" sNeedSlip f fd)(T:BltM mg)(c_is_slip:Cal P w K mg base "is_slip" 1 ["number"] (spIn 1 12)):FnOk P w K mg base CX0 2 f fd ["number"] spNeedSlip:=by
 refine F.ok scNeedSlip (fun vs H Q E h=>?_) (fun cdv A outer s H vs Q E hr h=>?_)
 ·obtain⟨x,rfl,_⟩:=h
  rfl
 ·obtain⟨x,rfl,h1,h2,k⟩:=h
  refine⟨_,(pss_one (ps_if (pt_not (pt_val (pe_callC c_is_slip (hr.mono (by omega)) (by rfl) (pa_cons (pv 0) pa_nil)))) (pss_one ps_dead) pss_nil)),?_⟩
  walk_at "r"
  refine⟨x,rfl,?_⟩
  rw[inB_true h1 h2]
  walk_at "r"
  refine iteF ?_
  walk_at "r"
  exact k
noncomputable def spNeedBoat(K:W.Frag):Sp:=fun vs H Q _=>∃(p:Addr) (ns:List Int) (slip:Int),vs=[.ref p,.int slip]∧SqX K H p (ns.map V.int)∧ns.length<64∧1≤cnt ns∧(cnt ns:Int)≤slip∧∀H',Same H H'→Q .non H'
abbrev sNeedBoat:Stmt:=top 14
theorem scNeedBoat:FnScope ["timbers","slip"] ["timbers","slip"] (defScope sNeedBoat):=⟨rfl,rfl,rfl,by decide+kernel,rfl,by decide+kernel,by decide+kernel⟩
theorem ok_need_boat{f:Addr}{fd:FuncData}(F:Fun K "need_boat" "need_boat" sNeedBoat f fd)(T:BltM mg)(c_rising:Cal P w K mg base "rising" 1 ["timbers"] (spRis K)):FnOk P w K mg base CX0 2 f fd ["timbers","slip"] (spNeedBoat K):=by
 refine F.ok scNeedBoat (fun vs H Q E h=>?_) (fun cdv A outer s H vs Q E hr h=>?_)
 ·obtain⟨p,ns,slip,rfl,_⟩:=h
  rfl
 ·obtain⟨p,ns,slip,rfl,hp,hl,h1,h2,k⟩:=h
  refine⟨_,(pss_one (ps_if (pt_not (pt_chain op_le op_le pe_int (pe_callB (cLen (K:=K) rfl) (by rfl) T.z_len bb_len (pa_cons (pe_callC c_rising (hr.mono (by omega)) (by rfl) (pa_cons (pv 0) pa_nil)) pa_nil)) (pv 1))) (pss_one ps_dead) pss_nil)),?_⟩
  walk_at "r"
  refine i_chain ?_
  walk_at "r"
  refine⟨p,ns,rfl,hp,hl,fun l H1 rs s1 _ hl1 ris=>?_⟩
  have er:rs.length=cnt ns:=cnt_of ris.nodup ris.2
  walk_at "r"
  rw[List.length_map,er,decide_eq_true (show(1:Int)≤(cnt ns:Int) by omega)]
  refine iteT ?_
  walk_at "r"
  rw[decide_eq_true h2]
  walk_at "r"
  refine iteF ?_
  walk_at "r"
  exact k _ s1
noncomputable def spNeedCarry(K:W.Frag):Sp:=fun vs H Q _=>∃(p q:Addr) (ns ms:List Int) (slip:Int),vs=[.ref p,.ref q,.int slip]∧SqX K H p (ns.map V.int)∧SqX K H q (ms.map V.int)∧ns.length<64∧ms.length<64∧slip≤12∧1≤cnt ns∧(cnt ns:Int)≤slip∧1≤cnt ms∧(cnt ms:Int)≤slip∧∀H',Same H H'→Q .non H'
abbrev sNeedCarrying:Stmt:=top 16
theorem scNeedCarrying:FnScope ["start","goal","slip"] ["start","goal","slip"] (defScope sNeedCarrying):=⟨rfl,rfl,rfl,by decide+kernel,rfl,by decide+kernel,by decide+kernel⟩
theorem ok_need_carry{f:Addr}{fd:FuncData}(F:Fun K "need_carrying" "need_carrying" sNeedCarrying f fd)(T:BltM mg)(c_need_slip:Cal P w K mg base "need_slip" 2 ["number"] spNeedSlip)(c_need_boat:Cal P w K mg base "need_boat" 2 ["timbers","slip"] (spNeedBoat K)):FnOk P w K mg base CX0 3 f fd ["start","goal","slip"] (spNeedCarry K):=by
 refine F.ok scNeedCarrying (fun vs H Q E h=>?_) (fun cdv A outer s H vs Q E hr h=>?_)
 ·obtain⟨p,q,ns,ms,slip,rfl,_⟩:=h
  rfl
 ·obtain⟨p,q,ns,ms,slip,rfl,hp,hq,l1,l2,h12,h1,h2,h3,h4,k⟩:=h
  refine⟨_,(pss_cons (ps_expr (pe_callC c_need_slip (hr.mono (by omega)) (by rfl) (pa_cons (pv 2) pa_nil)))
   (pss_cons (ps_expr (pe_callC c_need_boat (hr.mono (by omega)) (by rfl) (pa_cons (pv 0) (pa_cons (pv 2) pa_nil))))
   (pss_one (ps_expr (pe_callC c_need_boat (hr.mono (by omega)) (by rfl) (pa_cons (pv 1) (pa_cons (pv 2) pa_nil))))))),?_⟩
  walk_at "r"
  refine⟨slip,rfl,by omega,h12,?_⟩
  walk_at "r"
  refine⟨p,ns,slip,rfl,hp,l1,h1,h2,fun H1 s1=>?_⟩
  walk_at "r"
  refine⟨q,ms,slip,rfl,hq.same s1,l2,h3,h4,fun H2 s2=>?_⟩
  walk_at "r"
  exact k _ (s1.trans s2)
noncomputable def spKinds(K:W.Frag):Sp:=fun vs H Q _=>∃(p q:Addr) (ns ms:List Int),vs=[.ref p,.ref q]∧SqX K H p (ns.map V.int)∧SqX K H q (ms.map V.int)∧ns.length<64∧ms.length<64∧
 ∀l H' (a b c:Addr) (r1 r2 r3:List Int),Same H H'→H l=none→H' l=some (.lst [.ref a,.ref b,.ref c])→H' a=some (.lst (r1.map V.int))→H' b=some (.lst (r2.map V.int))→H' c=some (.lst (r3.map V.int))→
  Ris r1 (pRest ns ms)→Ris r2 (pBoth ns ms)→Ris r3 (pRest ms ns)→Q (.ref l) H'
abbrev sTimbersByKind:Stmt:=top 17
theorem scTimbersByKind:FnScope ["start","goal"] ["start","goal"] (defScope sTimbersByKind):=⟨rfl,rfl,rfl,by decide+kernel,rfl,by decide+kernel,by decide+kernel⟩
theorem ok_kinds{f:Addr}{fd:FuncData}(F:Fun K "timbers_by_kind" "timbers_by_kind" sTimbersByKind f fd)(T:BltM mg)(c_common:Cal P w K mg base "common" 1 ["one","other"] (spTwo K pBoth))(c_apart:Cal P w K mg base "apart" 1 ["one","other"] (spTwo K pRest)):FnOk P w K mg base CX0 2 f fd ["start","goal"] (spKinds K):=by
 refine F.ok scTimbersByKind (fun vs H Q E h=>?_) (fun cdv A outer s H vs Q E hr h=>?_)
 ·obtain⟨p,q,ns,ms,rfl,_⟩:=h
  rfl
 ·obtain⟨p,q,ns,ms,rfl,hp,hq,l1,l2,k⟩:=h
  refine⟨_,(pss_one (ps_ret (pe_lst (pa_cons (pe_callC c_apart (hr.mono (by omega)) (by rfl) (pa_cons (pv 0) (pa_cons (pv 1) pa_nil))) (pa_cons (pe_callC c_common (hr.mono (by omega)) (by rfl) (pa_cons (pv 0) (pa_cons (pv 1) pa_nil))) (pa_cons (pe_callC c_apart (hr.mono (by omega)) (by rfl) (pa_cons (pv 1) (pa_cons (pv 0) pa_nil))) pa_nil)))))),?_⟩
  walk_at "r"
  refine⟨p,q,ns,ms,rfl,hp,hq,l1,l2,fun a H1 r1 s1 _ ha1 ris1=>?_⟩
  walk_at "r"
  refine⟨p,q,ns,ms,rfl,hp.same s1,hq.same s1,l1,l2,fun b H2 r2 s2 _ hb2 ris2=>?_⟩
  have s12:=s1.trans s2
  walk_at "r"
  refine⟨q,p,ms,ns,rfl,hq.same s12,hp.same s12,l2,l1,fun c H3 r3 s3 _ hc3 ris3=>?_⟩
  walk_at "r"
  refine⟨by show 3≤sizeLine;decide,fun l hl=>?_⟩
  have s4:=same_upd (o:=.lst [.ref a,.ref b,.ref c]) hl
  have s13:=s12.trans s3
  exact k l _ a b c r1 r2 r3 (s13.trans s4) (s13.free hl) upd_same (s4 _ _ (s3 _ _ (s2 _ _ ha1))) (s4 _ _ (s3 _ _ hb2)) (s4 _ _ hc3) ris1 ris2 ris3
abbrev sNear:Stmt:=top 19
theorem scNear:FnScope ["one","other","shared"] ["one","other"] (defScope sNear):=⟨rfl,rfl,rfl,by decide+kernel,rfl,by decide+kernel,by decide+kernel⟩
theorem nd_39_17:(["here","there"]:List Str).Nodup:=by decide+kernel
theorem S_39_17:CompScope ["one","other","shared"] (defScope sNear) ({kind:=ScopeKind.function,names:=[(Str.ofString ".0",NameKind.local),(Str.ofString "here",NameKind.local),(Str.ofString "there",NameKind.local),(Str.ofString "min",NameKind.globalImplicit)],isGenerator:=false,isCoroutine:=false,more:=[]:Scope}) (["here","there"]:List Str) ([]:List (Nat×Str)):=⟨by decide+kernel,by decide+kernel,by decide+kernel,by decide+kernel,by decide+kernel⟩
theorem ok_near{f:Addr}{fd:FuncData}(F:Fun K "near" "near" sNear f fd)(T:BltM mg):FnOk P w K mg base CX0 1 f fd ["one","other"] (spNear K):=by
 refine F.ok scNear (fun vs H Q E h=>?_) (fun cdv A outer s H vs Q E hr h=>?_)
 ·obtain⟨p,q,xs,ys,rfl,_⟩:=h
  rfl
 ·obtain⟨p,q,xs,ys,rfl,hp,hq,l1,l2,k⟩:=h
  refine⟨_,(pss_cons (ps_set (i:=2) scNear.nd rfl (Or.inl rfl) (pe_callB (cSum (K:=K) rfl rfl) (by rfl) T.z_sum bb_sum (pa_cons (pe_lcomp rfl S_39_17 (piZ (K:=K) rfl (by rfl) T.z_zip (pa_cons (pv 0) (pa_cons (pv 1) pa_nil))) (by intro _ _ _ _ _;exact(pgT (K:=K) (n:=2) rfl rfl (pgs_cons (pg_name (i:=0) nd_39_17 rfl (Or.inl rfl)) (pgs_cons (pg_name (i:=1) nd_39_17 rfl (Or.inl rfl)) pgs_nil)))) (by intro _ _ _ _ _;exact pts_nil) (by intro _ _ _ _ _;exact(pe_callB (cMin2 rfl) (by rfl) T.z_min bb_min (pa_cons (pv 0) (pa_cons (pv 1) pa_nil))))) pa_nil)))
   (pss_one (ps_ret (pe_and (pe_cmpR op_gt (pe_op op_mul pe_int (pv 2)) (pe_callB (cSum (K:=K) rfl rfl) (by rfl) T.z_sum bb_sum (pa_cons (pv 0) pa_nil)) (nomark _)) (pe_one (pe_cmpR op_gt (pe_op op_mul pe_int (pv 2)) (pe_callB (cSum (K:=K) rfl rfl) (by rfl) T.z_sum bb_sum (pa_cons (pv 1) pa_nil)) (nomark _))))))),?_⟩
  walk_at "r"
  refine⟨p,q,rfl,.inr ⟨_,_,hp,hq,?_⟩⟩
  have lz:((List.zipWith minI xs ys).map V.int).length=3:=by rw[List.length_map,List.length_zipWith,l1,l2];rfl
  refine mapW (ws:=(List.zipWith minI xs ys).map V.int) (fun σ=>∃a b,σ=[a,b]) ⟨none,none,rfl⟩ (by omega) (fun H' s'=>⟨_,_,seqT_same s' hp,seqT_same s' hq,.inl (by rw[List.length_map];omega)⟩) (fun i H' hi s'=>?_) ?_ ?_
  ·rw[lz]at hi
   exact⟨_,_,.int (xs[i]'(by omega)),.int (ys[i]'(by omega)),seqT_same s' hp,seqT_same s' hq,by rw[List.getElem?_map,List.getElem?_eq_getElem (by omega)];rfl,by rw[List.getElem?_map,List.getElem?_eq_getElem (by omega)];rfl⟩
  ·rintro i wv x σ' H' H2 R R0 hw ⟨a0,b0,rfl⟩ s' ⟨T',u,v,rfl,hn,rfl,qq⟩ hR
   obtain⟨q1,q2⟩:=qq _ _ (seqT_same s' hp) (seqT_same s' hq)
   rw[List.getElem?_map]at q1 q2 hw
   rw[List.getElem?_zipWith]at hw
   cases ex:xs[i]? with
   |none=>rw[ex]at q1;cases q1
   |some x1=>
    cases ey:ys[i]? with
    |none=>rw[ey]at q2;cases q2
    |some y1=>
     rw[ex]at q1 hw
     rw[ey]at q2 hw
     cases q1;cases q2;cases hw
     have s2:=s'.trans (same_upd (o:=.tup [.int x1,.int y1]) hn)
     refine i_gtup (SqT.of upd_same) rfl ?_
     walk_at "r"
     refine iteT ?_
     walk_at "r"
     exact hR _ _ ⟨_,_,rfl⟩ s2
  ·intro H1 s1 D hD
   have s2:=s1.trans (same_upd (o:=.lst ((List.zipWith minI xs ys).map V.int)) hD)
   walk_at "r"
   refine i_sum (SqL.of upd_same) ?_
   walk_at "r"
   refine i_sumT (seqT_same s2 hp) ?_
   walk_at "r"
   have e1:(List.zipWith minI xs ys).sum=minS xs ys:=rfl
   rw[e1]
   unfold nearB at k
   cases h:decide (2*minS xs ys >xs.sum)with
   |false=>
    refine iteF ?_
    rw[h,Bool.false_and]at k
    exact k _ s2
   |true=>
    refine iteT ?_
    rw[h,Bool.true_and]at k
    walk_at "r"
    refine i_sumT (seqT_same s2 hq) ?_
    walk_at "r"
    exact k _ s2
end
section
variable{P:Program}{w:World}{K:W.Frag}{mg:Str→Option Value}{base:Heap}
noncomputable def rowF(slip:Int)(x y k:Nat):List T3:=(rowT x y k).filter (okT slip)
theorem rowF_succ(slip:Int)(x y k:Nat):rowF slip x y (k+1)=rowF slip x y k++(if okT slip (x,y,k)=true then[(x,y,k)]else[]):=by
 unfold rowF
 rw[rowT_succ,List.filter_append,List.filter_cons]
 split<;>rfl
noncomputable def spStages(K:W.Frag):Sp:=fun vs H Q _=>∃(p q:Addr) (ns ms:List Int) (slip:Int),vs=[.ref p,.ref q,.int slip]∧SqX K H p (ns.map V.int)∧SqX K H q (ms.map V.int)∧ns.length<64∧ms.length<64∧slip≤12∧1≤cnt ns∧(cnt ns:Int)≤slip∧1≤cnt ms∧(cnt ms:Int)≤slip∧
 ∀l H' (ws:List V),Same H H'→H l=none→H' l=some (.lst ws)→Reps H' ws ((stagesOf (cntR ns ms) (cntB ns ms) (cntR ms ns) slip).map tri)→Q (.ref l) H'
abbrev sStages:Stmt:=top 20
theorem scStages:FnScope ["start","goal","slip","most_alone","most_both","most_wished"] ["start","goal","slip"] (defScope sStages):=⟨rfl,rfl,rfl,by decide+kernel,rfl,by decide+kernel,by decide+kernel⟩
theorem nd_43_41:(["timbers"]:List Str).Nodup:=by decide+kernel
theorem S_43_41:CompScope ["start","goal","slip","most_alone","most_both","most_wished"] (defScope sStages) ({kind:=ScopeKind.function,names:=[(Str.ofString ".0",NameKind.local),(Str.ofString "timbers",NameKind.local),(Str.ofString "len",NameKind.globalImplicit)],isGenerator:=false,isCoroutine:=false,more:=[]:Scope}) (["timbers"]:List Str) ([]:List (Nat×Str)):=⟨by decide+kernel,by decide+kernel,by decide+kernel,by decide+kernel,by decide+kernel⟩
theorem nd_44_11:(["alone","both","wished","slip","most_both","most_wished"]:List Str).Nodup:=by decide+kernel
theorem S_44_11:CompScope ["start","goal","slip","most_alone","most_both","most_wished"] (defScope sStages) ({kind:=ScopeKind.function,names:=[(Str.ofString ".0",NameKind.local),(Str.ofString "alone",NameKind.local),(Str.ofString "both",NameKind.local),(Str.ofString "range",NameKind.globalImplicit),(Str.ofString "wished",NameKind.local),(Str.ofString "most_both",NameKind.free),(Str.ofString "most_wished",NameKind.free),(Str.ofString "slip",NameKind.free)],isGenerator:=false,isCoroutine:=false,more:=[]:Scope}) (["alone","both","wished"]:List Str) ([(2,"slip"),(4,"most_both"),(5,"most_wished")]:List (Nat×Str)):=⟨by decide+kernel,by decide+kernel,by decide+kernel,by decide+kernel,by decide+kernel⟩
theorem ok_stages{f:Addr}{fd:FuncData}(F:Fun K "stages" "stages" sStages f fd)(T:BltM mg)(c_need_carrying:Cal P w K mg base "need_carrying" 3 ["start","goal","slip"] (spNeedCarry K))(c_timbers_by_kind:Cal P w K mg base "timbers_by_kind" 2 ["start","goal"] (spKinds K)):FnOk P w K mg base CX0 4 f fd ["start","goal","slip"] (spStages K):=by
 refine F.ok scStages (fun vs H Q E h=>?_) (fun cdv A outer s H vs Q E hr h=>?_)
 ·obtain⟨p,q,ns,ms,slip,rfl,_⟩:=h
  rfl
 ·obtain⟨p,q,ns,ms,slip,rfl,hp,hq,l1,l2,h12,h1,h2,h3,h4,k⟩:=h
  refine⟨_,(pss_cons (ps_expr (pe_callC c_need_carrying (hr.mono (by omega)) (by rfl) (pa_cons (pv 0) (pa_cons (pv 1) (pa_cons (pv 2) pa_nil)))))
   (pss_cons (ps_asg (pe_lcomp rfl S_43_41 (piL (K:=K) rfl (pe_callC c_timbers_by_kind (hr.mono (by omega)) (by rfl) (pa_cons (pv 0) (pa_cons (pv 1) pa_nil)))) (by intro _ _ _ _ _;exact(pg_name (i:=0) nd_43_41 rfl (Or.inl rfl))) (by intro _ _ _ _ _;exact pts_nil) (by intro _ _ _ _ _;exact(pe_callB (cLen (K:=K) rfl) (by rfl) T.z_len bb_len (pa_cons (pv 0) pa_nil)))) (pgLs (K:=K) (n:=3) rfl rfl (pgs_cons (pg_name (i:=3) scStages.nd rfl (Or.inl rfl)) (pgs_cons (pg_name (i:=4) scStages.nd rfl (Or.inr rfl)) (pgs_cons (pg_name (i:=5) scStages.nd rfl (Or.inr rfl)) pgs_nil)))))
   (pss_one (ps_ret (pe_lcomp3 rfl S_44_11 (pi_range1 (by rfl) T.z_range (pa_cons (pe_op op_add (pv 3) pe_int) pa_nil)) (by intro _ _ _ _ _;exact(pg_name (i:=0) nd_44_11 rfl (Or.inl rfl))) (by intro _ _ _ _ _;exact pts_nil) (by intro _ _ _ _ _;exact(pe_tup (pa_cons (pv 0) (pa_cons (pv 1) (pa_cons (pv 2) pa_nil))))) (by intro _ _ _ _ _;exact(pi_range1 (by rfl) T.z_range (pa_cons (pe_op op_add (pv 4) pe_int) pa_nil))) (by intro _ _ _ _ _;exact(pg_name (i:=1) nd_44_11 rfl (Or.inl rfl))) (by intro _ _ _ _ _;exact pts_nil) (by intro _ _ _ _ _;exact(pi_range1 (by rfl) T.z_range (pa_cons (pe_op op_add (pv 5) pe_int) pa_nil))) (by intro _ _ _ _ _;exact(pg_name (i:=2) nd_44_11 rfl (Or.inl rfl))) (by intro _ _ _ _ _;exact(pts_one (pt_chain op_le op_le pe_int (pe_op op_add (pe_op op_add (pv 0) (pv 1)) (pv 2)) (pv 3))))))))),?_⟩
  walk_at "r"
  refine⟨p,q,ns,ms,slip,rfl,hp,hq,l1,l2,h12,h1,h2,h3,h4,fun H1 s1=>?_⟩
  walk_at "r"
  refine⟨p,q,ns,ms,rfl,hp.same s1,hq.same s1,l1,l2,fun l H2 a b c r1 r2 r3 s2 _ hl2 ha2 hb2 hc2 ris1 ris2 ris3=>?_⟩
  have e1:r1.length=cntR ns ms:=cntR_of ris1.nodup ris1.2
  have e2:r2.length=cntB ns ms:=cntB_of ris2.nodup ris2.2
  have e3:r3.length=cntR ms ns:=cntR_of ris3.nodup ris3.2
  have q1:=cnt_split ns ms
  have q2:=cnt_split ms ns
  rw[cntB_symm ms ns]at q2
  generalize cntR ns ms=na at e1 q1 k
  generalize cntB ns ms=nb at e2 q1 q2 k
  generalize cntR ms ns=nc at e3 q2 k
  have s12:=s1.trans s2
  walk_at "r"
  refine⟨l,rfl,⟨_,SqL.of hl2⟩,?_⟩
  refine mapW (ws:=[.int na,.int nb,.int nc]) (fun σ=>∃x,σ=[x]) ⟨none,rfl⟩ (show 3≤1000 by decide) (fun H' s'=>⟨_,SqL.of (s' _ _ hl2),Nat.le_refl _⟩) (fun i H' hi s'=>?_) ?_ ?_
  ·have hi':i<[V.ref a,V.ref b,V.ref c].length:=hi
   exact⟨_,_,SqL.of (s' _ _ hl2),List.getElem?_eq_getElem hi'⟩
  ·rintro i wv x σ' H' G R R0 hw ⟨x0,rfl⟩ s' ⟨rfl,hy⟩ hR
   have ex:=hy _ (SqL.of (s' _ _ hl2))
   match i,hw,ex with
   |0,hw,ex=>
    cases hw;cases ex
    walk_at "r"
    refine iteT ?_
    walk_at "r"
    refine i_len (SqL.of (s' _ _ ha2)) ?_
    rw[List.length_map,e1]
    exact hR _ _ ⟨_,rfl⟩ s'
   |1,hw,ex=>
    cases hw;cases ex
    walk_at "r"
    refine iteT ?_
    walk_at "r"
    refine i_len (SqL.of (s' _ _ hb2)) ?_
    rw[List.length_map,e2]
    exact hR _ _ ⟨_,rfl⟩ s'
   |2,hw,ex=>
    cases hw;cases ex
    walk_at "r"
    refine iteT ?_
    walk_at "r"
    refine i_len (SqL.of (s' _ _ hc2)) ?_
    rw[List.length_map,e3]
    exact hR _ _ ⟨_,rfl⟩ s'
   |n+3,hw,ex=>simp at hw
  ·intro H3 s3 D hD
   have s4:=s12.trans (s3.trans (same_upd (o:=.lst [.int na,.int nb,.int nc]) hD))
   have hD4:upd H3 D (.lst [.int na,.int nb,.int nc]) D=some (.lst [.int na,.int nb,.int nc]):=upd_same
   generalize upd H3 D (.lst [.int na,.int nb,.int nc])=H4 at s4 hD4⊢
   refine i_glst (SqL.of hD4) rfl ?_
   walk_at "r"
   refine⟨_,rfl,by omega,by omega,?_⟩
   have t1:((na:Int)+1).toNat=na+1:=by omega
   have t2:((nb:Int)+1).toNat=nb+1:=by omega
   have t3:((nc:Int)+1).toNat=nc+1:=by omega
   rw[t1]
   refine midW (fun i ys σ' H'=>(∃x y z,σ'=[x,y,z,some (.int slip),some (.int nb),some (.int nc)])∧Same H4 H'∧Reps H' ys (((alT nb nc i).filter (okT slip)).map tri)∧ys.length≤i*169) (na+1) ⟨⟨none,none,none,rfl⟩,Same.refl _,.nil,Nat.zero_le _⟩ ?_ ?_
   ·rintro ys σ' H5 ⟨_,s5,rp,_⟩
    refine⟨Nat.le_refl _,fun e he=>?_⟩
    have s6:=same_upd (o:=.lst ys) he
    exact k e _ ys (s4.trans (s5.trans s6)) ((s4.trans s5).free he) upd_same (rp.mono s6)
   ·rintro i ys σ' H5 hi ⟨⟨x,y,z,rfl⟩,s5,rp,ly⟩
    refine⟨hi,?_⟩
    rintro x' G ⟨rfl,rfl⟩
    rw[Int.zero_add]
    walk_at "r"
    refine iteT ?_
    walk_at "r"
    refine⟨_,rfl,by omega,by omega,?_⟩
    rw[t2]
    refine midW (fun j ys σ' H'=>(∃y z,σ'=[some (.int i),y,z,some (.int slip),some (.int nb),some (.int nc)])∧Same H4 H'∧Reps H' ys (((alT nb nc i++plT i nc j).filter (okT slip)).map tri)∧ys.length≤i*169+j*13) (nb+1) ⟨⟨_,_,rfl⟩,s5,by simpa[plT]using rp,by omega⟩ ?_ ?_
    ·rintro ys σ' H6 ⟨⟨y,z,rfl⟩,s6,rp6,ly6⟩
     refine⟨Nat.le_refl _,nxt hi ⟨⟨_,_,_,rfl⟩,s6,by rw[alT_succ];exact rp6,by omega⟩⟩
    ·rintro j ys σ' H6 hj ⟨⟨y,z,rfl⟩,s6,rp6,ly6⟩
     refine⟨hj,?_⟩
     rintro x' G2 ⟨rfl,rfl⟩
     rw[Int.zero_add]
     walk_at "r"
     refine iteT ?_
     walk_at "r"
     refine⟨_,rfl,by omega,by omega,?_⟩
     rw[t3]
     refine lastW (fun m ys σ' H'=>(∃z,σ'=[some (.int i),some (.int j),z,some (.int slip),some (.int nb),some (.int nc)])∧Same H4 H'∧Reps H' ys (((alT nb nc i++plT i nc j).filter (okT slip)++rowF slip i j m).map tri)∧ys.length≤i*169+j*13+m) (nc+1) ⟨⟨_,rfl⟩,s6,by simpa[rowF,rowT]using rp6,by omega⟩ ?_ ?_
     ·rintro ys σ' H7 ⟨⟨z,rfl⟩,s7,rp7,ly7⟩
      refine⟨Nat.le_refl _,nxt hj ⟨⟨_,_,rfl⟩,s7,?_,by omega⟩⟩
      rw[plT_succ,←List.append_assoc,List.filter_append]
      exact rp7
     ·rintro m ys σ' H7 hm ⟨⟨z,rfl⟩,s7,rp7,ly7⟩
      refine⟨hm,Nat.lt_of_lt_of_le (show _<10000 by omega) (by decide),?_⟩
      rintro x' G3 ⟨rfl,rfl⟩
      rw[Int.zero_add]
      walk_at "r"
      refine in_chain (x:=(i:Int)+j+m) (hi:=slip) (fun _ q=>i_tC q) (fun _ q=>i_op (i_op (i_var rfl (i_var rfl (i_rI0 (i_var rfl (i_rI0 q))))))) (fun _ q=>i_var rfl q) ?_
      refine i_bl ?_
      have eo:inB 1 slip ((i:Int)+j+m)=okT slip (i,j,m):=rfl
      rw[eo]
      cases ho:okT slip (i,j,m)with
      |false=>
       refine iteF ?_
       refine nxt hm ⟨⟨_,rfl⟩,s7,?_,by omega⟩
       rw[rowF_succ,ho,if_neg Bool.false_ne_true,List.append_nil]
       exact rp7
      |true=>
       refine iteT ?_
       walk_at "r"
       refine⟨by show 3≤sizeLine;decide,fun e he=>?_⟩
       have s8:=same_upd (o:=.tup [.int i,.int j,.int m]) he
       refine nxt hm ⟨⟨_,rfl⟩,s7.trans s8,?_,by rw[List.length_append,List.length_singleton];omega⟩
       rw[rowF_succ,ho,if_pos rfl,←List.append_assoc,List.map_append]
       exact Reps.snoc (rp7.mono s8) (tri_rep (p:=(i,j,m)) upd_same)
end
section
variable{P:Program}{w:World}{K:W.Frag}{mg:Str→Option Value}{base:Heap}
noncomputable def spSorts(K:W.Frag):Sp:=fun vs H Q _=>∃(p q:Addr) (ns ms:List Int),vs=[.ref p,.ref q]∧SqL K H p (ns.map V.int)∧SqL K H q (ms.map V.int)∧ns.length<64∧ms.length<64∧
 ∀l H',Same H H'→H l=none→H' l=some (.tup [.int (cntR ns ms),.int (cntB ns ms),.int (cntR ms ns)])→Q (.ref l) H'
abbrev sLawKinds:Stmt:=top 64
theorem scLawKinds:FnScope ["_law_start","_law_goal","_law_both"] ["_law_start","_law_goal"] (defScope sLawKinds):=⟨rfl,rfl,rfl,by decide+kernel,rfl,by decide+kernel,by decide+kernel⟩
theorem nd_239_20:(["_law_timber","_law_goal"]:List Str).Nodup:=by decide+kernel
theorem S_239_20:CompScope ["_law_start","_law_goal","_law_both"] (defScope sLawKinds) ({kind:=ScopeKind.function,names:=[(Str.ofString ".0",NameKind.local),(Str.ofString "_law_timber",NameKind.local),(Str.ofString "_law_goal",NameKind.free)],isGenerator:=false,isCoroutine:=false,more:=[]:Scope}) (["_law_timber"]:List Str) ([(1,"_law_goal")]:List (Nat×Str)):=⟨by decide+kernel,by decide+kernel,by decide+kernel,by decide+kernel,by decide+kernel⟩
theorem ok_sorts{f:Addr}{fd:FuncData}(F:Fun K "_law_kinds" "_law_kinds" sLawKinds f fd)(T:BltM mg)(c_law_set:Cal P w K mg base "_law_set" 1 ["_law_timbers"] (spRis K)):FnOk P w K mg base CX0 2 f fd ["_law_start","_law_goal"] (spSorts K):=by
 refine F.ok scLawKinds (fun vs H Q E h=>?_) (fun cdv A outer s H vs Q E hr h=>?_)
 ·obtain⟨p,q,ns,ms,rfl,_⟩:=h
  rfl
 ·obtain⟨p,q,ns,ms,rfl,hp,hq,l1,l2,k⟩:=h
  refine⟨_,(pss_cons (ps_set (i:=2) scLawKinds.nd rfl (Or.inl rfl) (pe_callB (cLen (K:=K) rfl) (by rfl) T.z_len bb_len (pa_cons (pe_lcomp rfl S_239_20 (piL (K:=K) rfl (pe_callC c_law_set (hr.mono (by omega)) (by rfl) (pa_cons (pv 0) pa_nil))) (by intro _ _ _ _ _;exact(pg_name (i:=0) nd_239_20 rfl (Or.inl rfl))) (by intro _ _ _ _ _;exact(pts_one (pt_cmpR (oIn (K:=K) rfl) (pv 0) (pv 1) (by with_unfolding_all rfl)))) (by intro _ _ _ _ _;exact(pv 0))) pa_nil)))
   (pss_one (ps_ret (pe_tup (pa_cons (pe_op op_sub (pe_callB (cLenS (w:=w) rfl) (by rfl) T.z_len bb_len (pa_cons (pe_callTy (cSetX (K:=K) (w:=w) rfl rfl rfl) (by rfl) T.z_set bb_set (pa_cons (pv 0) pa_nil)) pa_nil)) (pv 2)) (pa_cons (pv 2) (pa_cons (pe_op op_sub (pe_callB (cLenS (w:=w) rfl) (by rfl) T.z_len bb_len (pa_cons (pe_callTy (cSetX (K:=K) (w:=w) rfl rfl rfl) (by rfl) T.z_set bb_set (pa_cons (pv 1) pa_nil)) pa_nil)) (pv 2)) pa_nil))))))),?_⟩
  walk_at "r"
  refine⟨p,ns,rfl,.inl hp,l1,fun l H1 rs s1 _ hl1 ris=>?_⟩
  walk_at "r"
  refine⟨l,rfl,⟨_,SqL.of hl1⟩,?_⟩
  have lr:rs.length<64:=Nat.lt_of_le_of_lt (ris.le fun x hx=>hx) l1
  refine filterL (σ0:=[some (.ref q)]) (f:=fun z=>decide (z∈ms)) (by omega) (SqL.of hl1) ?_ ?_
  ·intro z R hR
   walk_at "r"
   refine i_inI (s1.seq hq) ?_
   walk_at "r"
   exact hR
  intro e he
  have s2:=s1.trans (same_upd (o:=.lst ((rs.filter fun z=>decide (z∈ms)).map V.int)) he)
  have eb:(rs.filter fun z=>decide (z∈ms)).length=cntB ns ms:=cntB_of (ris.nodup.filter _) fun x=>by rw[List.mem_filter,ris.2 x,decide_eq_true_iff]
  have he2:upd H1 e (.lst ((rs.filter fun z=>decide (z∈ms)).map V.int)) e=_:=upd_same
  generalize upd H1 e (.lst ((rs.filter fun z=>decide (z∈ms)).map V.int))=H2 at s2 he2⊢
  walk_at "r"
  refine i_setX (.inl (s2.seq hp)) (by omega) fun a ks ha nd mem=>?_
  have s3:=s2.trans (same_upd (o:=setO w a ks) ha)
  have ea:ks.length=cnt ns:=cnt_of nd mem
  walk_at "r"
  refine i_lenS upd_same ?_
  generalize upd H2 a (setO w a ks)=H3 at s3⊢
  walk_at "r"
  refine i_setX (.inl (s3.seq hq)) (by omega) fun b js hb nd2 mem2=>?_
  have s4:=s3.trans (same_upd (o:=setO w b js) hb)
  have eb2:js.length=cnt ms:=cnt_of nd2 mem2
  walk_at "r"
  refine i_lenS upd_same ?_
  generalize upd H3 b (setO w b js)=H4 at s4⊢
  walk_at "r"
  refine⟨by show 3≤sizeLine;decide,fun t ht=>?_⟩
  have q1:=cnt_split ns ms
  have q2:=cnt_split ms ns
  rw[cntB_symm ms ns]at q2
  rw[List.length_map,eb,ea,eb2,show((cnt ns:Int) - (cntB ns ms:Int))=(cntR ns ms:Int) by omega,show((cnt ms:Int) - (cntB ns ms:Int))=(cntR ms ns:Int) by omega]
  exact k t _ (s4.trans (same_upd ht)) (s4.free ht) upd_same
noncomputable def spStagesL(K:W.Frag):Sp:=fun vs H Q _=>∃(t:Addr) (a b c:Nat) (slip:Int),vs=[.ref t,.int slip]∧SqT K H t [.int a,.int b,.int c]∧a+b≤12∧c+b≤12∧
 ∀l H' (ws:List V),Same H H'→H l=none→H' l=some (.lst ws)→Reps H' ws ((stagesOf a b c slip).map tri)→Q (.ref l) H'
abbrev sLawStages:Stmt:=top 65
theorem scLawStages:FnScope ["_law_sorts","_law_slip_here","_law_found","_law_alone","_law_both"] ["_law_sorts","_law_slip_here"] (defScope sLawStages):=⟨rfl,rfl,rfl,by decide+kernel,rfl,by decide+kernel,by decide+kernel⟩
theorem nd_245_38:(["_law_wished","_law_alone","_law_both"]:List Str).Nodup:=by decide+kernel
theorem S_245_38:CompScope ["_law_sorts","_law_slip_here","_law_found","_law_alone","_law_both"] (defScope sLawStages) ({kind:=ScopeKind.function,names:=[(Str.ofString ".0",NameKind.local),(Str.ofString "_law_wished",NameKind.local),(Str.ofString "_law_alone",NameKind.free),(Str.ofString "_law_both",NameKind.free)],isGenerator:=false,isCoroutine:=false,more:=[]:Scope}) (["_law_wished"]:List Str) ([(3,"_law_alone"),(4,"_law_both")]:List (Nat×Str)):=⟨by decide+kernel,by decide+kernel,by decide+kernel,by decide+kernel,by decide+kernel⟩
theorem nd_246_11:(["_law_stage","_law_slip_here"]:List Str).Nodup:=by decide+kernel
theorem S_246_11:CompScope ["_law_sorts","_law_slip_here","_law_found","_law_alone","_law_both"] (defScope sLawStages) ({kind:=ScopeKind.function,names:=[(Str.ofString ".0",NameKind.local),(Str.ofString "_law_stage",NameKind.local),(Str.ofString "sum",NameKind.globalImplicit),(Str.ofString "_law_slip_here",NameKind.free)],isGenerator:=false,isCoroutine:=false,more:=[]:Scope}) (["_law_stage"]:List Str) ([(1,"_law_slip_here")]:List (Nat×Str)):=⟨by decide+kernel,by decide+kernel,by decide+kernel,by decide+kernel,by decide+kernel⟩
theorem ok_stagesL{f:Addr}{fd:FuncData}(F:Fun K "_law_stages" "_law_stages" sLawStages f fd)(T:BltM mg):FnOk P w K mg base CX0 1 f fd ["_law_sorts","_law_slip_here"] (spStagesL K):=by
 refine F.ok scLawStages (fun vs H Q E h=>?_) (fun cdv A outer s H vs Q E hr h=>?_)
 ·obtain⟨t,a,b,c,slip,rfl,_⟩:=h
  rfl
 ·obtain⟨t,na,nb,nc,slip,rfl,ht,h1,h2,k⟩:=h
  refine⟨_,(pss_cons (ps_set (i:=2) scLawStages.nd rfl (Or.inl rfl) (pe_lst pa_nil))
   (pss_cons (ps_for PassesOwn.never rfl (pi_range1 (by rfl) T.z_range (pa_cons (pe_op op_add (pe_ix (ixT (K:=K) rfl) (pv 0) pe_int (fun _ _=>rfl)) pe_int) pa_nil)) (pg_name (i:=3) scLawStages.nd rfl (Or.inr rfl)) (pss_one (ps_for PassesOwn.never rfl (pi_range1 (by rfl) T.z_range (pa_cons (pe_op op_add (pe_ix (ixT (K:=K) rfl) (pv 0) pe_int (fun _ _=>rfl)) pe_int) pa_nil)) (pg_name (i:=4) scLawStages.nd rfl (Or.inr rfl)) (pss_one (ps_set (i:=2) scLawStages.nd rfl (Or.inl rfl) (pe_op op_cat (pv 2) (pe_lcomp rfl S_245_38 (pi_range1 (by rfl) T.z_range (pa_cons (pe_op op_add (pe_ix (ixT (K:=K) rfl) (pv 0) pe_int (fun _ _=>rfl)) pe_int) pa_nil)) (by intro _ _ _ _ _;exact(pg_name (i:=0) nd_245_38 rfl (Or.inl rfl))) (by intro _ _ _ _ _;exact pts_nil) (by intro _ _ _ _ _;exact(pe_tup (pa_cons (pv 1) (pa_cons (pv 2) (pa_cons (pv 0) pa_nil))))))))))))
   (pss_one (ps_ret (pe_lcomp rfl S_246_11 (piL (K:=K) rfl (pv 2)) (by intro _ _ _ _ _;exact(pg_name (i:=0) nd_246_11 rfl (Or.inl rfl))) (by intro _ _ _ _ _;exact(pts_one (pt_chain op_le op_le pe_int (pe_callB (cSum (K:=K) rfl rfl) (by rfl) T.z_sum bb_sum (pa_cons (pv 0) pa_nil)) (pv 1)))) (by intro _ _ _ _ _;exact(pv 0))))))),?_⟩
  walk_at "r"
  refine⟨Nat.zero_le _,fun e he=>?_⟩
  have s1:=same_upd (o:=.lst []) he
  have he1:upd H e (.lst []) e=some (.lst ([]:List V)):=upd_same
  generalize upd H e (.lst [])=H1 at s1 he1⊢
  walk_at "r"
  refine i_ixT (seqT_same s1 ht) (v:=.int na) rfl ?_
  walk_at "r"
  refine⟨_,rfl,by omega,by omega,?_⟩
  have t1:((na:Int)+1).toNat=na+1:=by omega
  have t2:((nb:Int)+1).toNat=nb+1:=by omega
  have t3:((nc:Int)+1).toNat=nc+1:=by omega
  rw[t1]
  have big:=few h1 h2
  refine forW (fun i σ' H'=>(∃(p:Addr) (x y:Option V) (ws:List V),σ'=[some (.ref t),some (.int slip),some (.ref p),x,y]∧H' p=some (.lst ws)∧H p=none∧Reps H' ws ((alT nb nc i).map tri)∧ws.length≤i*169)∧Same H H') (na+1) ⟨⟨e,none,none,[],rfl,he1,he,.nil,Nat.zero_le _⟩,s1⟩ ?_ ?_
  ·rintro σ' H2 ⟨⟨p,x,y,ws,rfl,hp,hn,rp,lw⟩,s2⟩
   refine⟨Nat.le_refl _,?_⟩
   walk_at "r"
   refine⟨p,rfl,⟨_,SqL.of hp⟩,?_⟩
   have lws:ws.length=(alT nb nc (na+1)).length:=by rw[rp.length,List.length_map]
   refine compW (fun i ys σ' H'=>(∃x,σ'=[x,some (.int slip)])∧Same H2 H'∧Reps H' ys ((((alT nb nc (na+1)).take i).filter (okT slip)).map tri)∧ys.length≤i) ws.length ⟨⟨none,rfl⟩,Same.refl _,.nil,Nat.zero_le _⟩ ?_ ?_
   ·rintro ys σ' H3 ⟨_,s3,rp3,_⟩
    refine⟨⟨_,SqL.of (s3 _ _ hp),Nat.le_refl _⟩,fun l hl=>?_⟩
    have s4:=same_upd (o:=.lst ys) hl
    have s24:=s2.trans (s3.trans s4)
    rw[List.take_of_length_le (by omega)]at rp3
    walk_at "r"
    exact k l _ ys s24 ((s2.trans s3).free hl) upd_same (rp3.mono s4)
   ·rintro i ys σ' H3 hi ⟨⟨x0,rfl⟩,s3,rp3,ly⟩
    obtain⟨v,hv⟩:∃v,ws[i]?=some v:=⟨_,List.getElem?_eq_getElem hi⟩
    refine⟨⟨_,v,SqL.of (s3 _ _ hp),hv⟩,Nat.lt_of_lt_of_le (show _<10000 by rw[alT_len]at lws;omega) (by decide),?_⟩
    rintro x' G ⟨rfl,hy⟩
    have ex:=hy _ (SqL.of (s3 _ _ hp))
    rw[hv]at ex
    cases ex
    obtain⟨d,hd,rd⟩:=(rp.mono s3).get hv
    rw[List.getElem?_map]at hd
    obtain⟨q,hq,rfl⟩:∃q,(alT nb nc (na+1))[i]?=some q∧tri q=d:=by
     cases hh:(alT nb nc (na+1))[i]? with
     |none=>rw[hh]at hd;cases hd
     |some q=>rw[hh]at hd;cases hd;exact⟨q,rfl,rfl⟩
    obtain⟨z,rfl,hz⟩:=rep_tri rd
    have et:(alT nb nc (na+1)).take (i+1)=(alT nb nc (na+1)).take i++[q]:=by rw[List.take_succ,hq];rfl
    walk_at "r"
    refine in_chain (x:=(triI q).sum) (hi:=slip) (fun _ q=>i_tC q) (fun _ qq=>i_cb (i_cons (i_var rfl (i_nil (i_sumT (ns:=triI q) (SqT.of hz) qq))))) (fun _ q=>i_var rfl q) ?_
    refine i_bl ?_
    have eo:inB 1 slip (triI q).sum=okT slip q:=by
     unfold okT triI
     congr 1
     simp
     omega
    rw[eo]
    cases ho:okT slip q with
    |false=>
     refine iteF ?_
     refine nxt hi ⟨⟨_,rfl⟩,s3,?_,by omega⟩
     rw[et,List.filter_append,List.filter_cons,ho]
     simpa using rp3
    |true=>
     refine iteT ?_
     walk_at "r"
     refine nxt hi ⟨⟨_,rfl⟩,s3,?_,by rw[List.length_append,List.length_singleton];omega⟩
     rw[et,List.filter_append,List.filter_cons,ho,List.map_append]
     exact Reps.snoc rp3 rd
  ·rintro i σ' H2 hi ⟨⟨p,x,y,ws,rfl,hp,hn,rp,lw⟩,s2⟩
   refine⟨hi,?_⟩
   rintro x' G ⟨rfl,rfl⟩
   rw[Int.zero_add]
   walk_at "r"
   refine i_ixT (seqT_same s2 ht) (v:=.int nb) rfl ?_
   walk_at "r"
   refine⟨_,rfl,by omega,by omega,?_⟩
   rw[t2]
   refine forW (fun j σ' H'=>(∃(p:Addr) (y:Option V) (ws:List V),σ'=[some (.ref t),some (.int slip),some (.ref p),some (.int i),y]∧H' p=some (.lst ws)∧H p=none∧Reps H' ws ((alT nb nc i++plT i nc j).map tri)∧ws.length≤i*169+j*13)∧Same H H') (nb+1) ⟨⟨p,y,ws,rfl,hp,hn,by simpa[plT]using rp,by omega⟩,s2⟩ ?_ ?_
   ·rintro σ' H3 ⟨⟨p,y,ws,rfl,hp,hn,rp,lw⟩,s3⟩
    refine⟨Nat.le_refl _,⟨p,_,_,ws,rfl,hp,hn,by rw[alT_succ];exact rp,by omega⟩,s3⟩
   ·rintro j σ' H3 hj ⟨⟨p,y,ws,rfl,hp,hn,rp,lw⟩,s3⟩
    refine⟨hj,?_⟩
    rintro x' G2 ⟨rfl,rfl⟩
    rw[Int.zero_add]
    walk_at "r"
    refine i_ixT (seqT_same s3 ht) (v:=.int nc) rfl ?_
    walk_at "r"
    refine⟨_,rfl,by omega,by omega,?_⟩
    rw[t3]
    refine compW (fun m ys σ' H'=>(∃z,σ'=[z,some (.int i),some (.int j)])∧Same G2 H'∧Reps H' ys ((rowT i j m).map tri)∧ys.length=m) (nc+1) ⟨⟨none,rfl⟩,Same.refl _,.nil,rfl⟩ ?_ ?_
    ·rintro ys σ' H4 ⟨_,s4,rp4,ly⟩
     refine⟨Nat.le_refl _,fun l hl=>?_⟩
     have s5:=same_upd (o:=.lst ys) hl
     have s35:=s4.trans s5
     have hl5:upd H4 l (.lst ys) l=some (.lst ys):=upd_same
     have rp5:=rp4.mono s5
     generalize upd H4 l (.lst ys)=H5 at s5 s35 hl5 rp5⊢
     walk_at "r"
     refine i_cat (s35 _ _ hp) hl5 (Nat.le_trans (show _≤10000 by omega) (by decide)) fun o ho=>?_
     have s6:=same_upd (o:=.lst (ws++ys)) ho
     walk_at "r"
     refine⟨⟨o,_,ws++ys,rfl,upd_same,(s3.trans s35).free ho,?_,by rw[List.length_append];omega⟩,s3.trans (s35.trans s6)⟩
     rw[plT_succ,←List.append_assoc,List.map_append]
     exact Reps.append ((rp.mono s35).mono s6) (rp5.mono s6)
    ·rintro m ys σ' H4 hm ⟨⟨z,rfl⟩,s4,rp4,ly⟩
     refine⟨hm,Nat.lt_of_lt_of_le (show _<10000 by omega) (by decide),?_⟩
     rintro x' G3 ⟨rfl,rfl⟩
     rw[Int.zero_add]
     walk_at "r"
     refine iteT ?_
     walk_at "r"
     refine⟨by show 3≤sizeLine;decide,fun o ho=>?_⟩
     have s5:=same_upd (o:=.tup [.int i,.int j,.int m]) ho
     refine nxt hm ⟨⟨_,rfl⟩,s4.trans s5,?_,by rw[List.length_append,List.length_singleton];omega⟩
     rw[rowT_succ,List.map_append]
     exact Reps.snoc (rp4.mono s5) (tri_rep (p:=(i,j,m)) upd_same)
abbrev sLawNear:Stmt:=top 66
theorem scLawNear:FnScope ["_law_one","_law_other","_law_both"] ["_law_one","_law_other"] (defScope sLawNear):=⟨rfl,rfl,rfl,by decide+kernel,rfl,by decide+kernel,by decide+kernel⟩
theorem nd_248_20:(["_law_k","_law_one","_law_other"]:List Str).Nodup:=by decide+kernel
theorem S_248_20:CompScope ["_law_one","_law_other","_law_both"] (defScope sLawNear) ({kind:=ScopeKind.function,names:=[(Str.ofString ".0",NameKind.local),(Str.ofString "_law_k",NameKind.local),(Str.ofString "min",NameKind.globalImplicit),(Str.ofString "_law_one",NameKind.free),(Str.ofString "_law_other",NameKind.free)],isGenerator:=false,isCoroutine:=false,more:=[]:Scope}) (["_law_k"]:List Str) ([(0,"_law_one"),(1,"_law_other")]:List (Nat×Str)):=⟨by decide+kernel,by decide+kernel,by decide+kernel,by decide+kernel,by decide+kernel⟩
theorem ok_nearL{f:Addr}{fd:FuncData}(F:Fun K "_law_near" "_law_near" sLawNear f fd)(T:BltM mg):FnOk P w K mg base CX0 1 f fd ["_law_one","_law_other"] (spNear K):=by
 refine F.ok scLawNear (fun vs H Q E h=>?_) (fun cdv A outer s H vs Q E hr h=>?_)
 ·obtain⟨p,q,xs,ys,rfl,_⟩:=h
  rfl
 ·obtain⟨p,q,xs,ys,rfl,hp,hq,l1,l2,k⟩:=h
  refine⟨_,(pss_cons (ps_set (i:=2) scLawNear.nd rfl (Or.inl rfl) (pe_callB (cSum (K:=K) rfl rfl) (by rfl) T.z_sum bb_sum (pa_cons (pe_lcomp rfl S_248_20 (pi_range1 (by rfl) T.z_range (pa_cons pe_int pa_nil)) (by intro _ _ _ _ _;exact(pg_name (i:=0) nd_248_20 rfl (Or.inl rfl))) (by intro _ _ _ _ _;exact pts_nil) (by intro _ _ _ _ _;exact(pe_callB (cMin2 rfl) (by rfl) T.z_min bb_min (pa_cons (pe_ix (ixT (K:=K) rfl) (pv 1) (pv 0) (fun _ _=>rfl)) (pa_cons (pe_ix (ixT (K:=K) rfl) (pv 2) (pv 0) (fun _ _=>rfl)) pa_nil))))) pa_nil)))
   (pss_one (ps_ret (pe_and (pe_cmpR op_gt (pe_op op_mul pe_int (pv 2)) (pe_callB (cSum (K:=K) rfl rfl) (by rfl) T.z_sum bb_sum (pa_cons (pv 0) pa_nil)) (nomark _)) (pe_one (pe_cmpR op_gt (pe_op op_mul pe_int (pv 2)) (pe_callB (cSum (K:=K) rfl rfl) (by rfl) T.z_sum bb_sum (pa_cons (pv 1) pa_nil)) (nomark _))))))),?_⟩
  walk_at "r"
  refine⟨_,rfl,by decide,by decide,?_⟩
  have lz:((List.zipWith minI xs ys).map V.int).length=3:=by rw[List.length_map,List.length_zipWith,l1,l2];rfl
  refine mapW (ws:=(List.zipWith minI xs ys).map V.int) (fun σ=>∃a,σ=[a,some (.ref p),some (.ref q)]) ⟨none,rfl⟩ (by omega) (fun H' s'=>by rw[lz];exact Nat.le_refl _) (fun i H' hi s'=>by rw[lz]at hi;exact hi) ?_ ?_
  ·rintro i wv x σ' H' G R R0 hw ⟨a0,rfl⟩ s' ⟨rfl,rfl⟩ hR
   rw[Int.zero_add]
   rw[List.getElem?_map,List.getElem?_zipWith]at hw
   cases ex:xs[i]? with
   |none=>rw[ex]at hw;cases hw
   |some x1=>
    cases ey:ys[i]? with
    |none=>rw[ex,ey]at hw;cases hw
    |some y1=>
     rw[ex,ey]at hw
     cases hw
     walk_at "r"
     refine iteT ?_
     walk_at "r"
     refine i_ixT (seqT_same s' hp) (v:=.int x1) (atI_nat (by rw[List.getElem?_map,ex];rfl)) ?_
     walk_at "r"
     refine i_ixT (seqT_same s' hq) (v:=.int y1) (atI_nat (by rw[List.getElem?_map,ey];rfl)) ?_
     walk_at "r"
     exact hR _ _ ⟨_,rfl⟩ s'
  ·intro H1 s1 D hD
   have s2:=s1.trans (same_upd (o:=.lst ((List.zipWith minI xs ys).map V.int)) hD)
   walk_at "r"
   refine i_sum (SqL.of upd_same) ?_
   walk_at "r"
   refine i_sumT (seqT_same s2 hp) ?_
   walk_at "r"
   have e1:(List.zipWith minI xs ys).sum=minS xs ys:=rfl
   rw[e1]
   unfold nearB at k
   cases h:decide (2*minS xs ys >xs.sum)with
   |false=>
    refine iteF ?_
    rw[h,Bool.false_and]at k
    exact k _ s2
   |true=>
    refine iteT ?_
    rw[h,Bool.true_and]at k
    walk_at "r"
    refine i_sumT (seqT_same s2 hq) ?_
    walk_at "r"
    exact k _ s2
end
section
variable{P:Program}{w:World}{K:W.Frag}{mg:Str→Option Value}{base:Heap}
noncomputable def spSlip:Sp:=fun vs H Q _=>∃(d c0:Addr),vs=[.ref d]∧DrawC H d c0∧∀(m:Int) H',1≤m→m≤12→DrawC H' d c0→But d H H'→Q (.int m) H'
abbrev sLawSlip:Stmt:=top 59
theorem scLawSlip:FnScope ["_law_draw"] ["_law_draw"] (defScope sLawSlip):=⟨rfl,rfl,rfl,by decide+kernel,rfl,by decide+kernel,by decide+kernel⟩
theorem ok_slip{f:Addr}{fd:FuncData}(F:Fun K "_law_slip" "_law_slip" sLawSlip f fd)(T:BltM mg)(c_law_take:Cal P w K mg base "_law_take" 1 ["_law_draw","_law_many"] spTakeC):FnOk P w K mg base CX0 2 f fd ["_law_draw"] spSlip:=by
 refine F.ok scLawSlip (fun vs H Q E h=>?_) (fun cdv A outer s H vs Q E hr h=>?_)
 ·obtain⟨d,c0,rfl,_⟩:=h
  rfl
 ·obtain⟨d,c0,rfl,hD,k⟩:=h
  refine⟨_,(pss_one (ps_ret (pe_ix (ixT (K:=K) rfl) (pe_tup (pa_cons (pe_op op_add pe_int (pe_callC c_law_take (hr.mono (by omega)) (by rfl) (pa_cons (pv 0) (pa_cons pe_int pa_nil)))) (pa_cons (pe_op op_add pe_int (pe_callC c_law_take (hr.mono (by omega)) (by rfl) (pa_cons (pv 0) (pa_cons pe_int pa_nil)))) (pa_cons pe_int pa_nil)))) (pe_callC c_law_take (hr.mono (by omega)) (by rfl) (pa_cons (pv 0) (pa_cons pe_int pa_nil))) (fun _ _=>rfl)))),?_⟩
  walk_at "r"
  refine⟨d,c0,12,rfl,hD,by decide,by decide,fun x H1 x0 x1 hD1 b1=>?_⟩
  walk_at "r"
  refine⟨d,c0,4,rfl,hD1,by decide,by decide,fun y H2 y0 y1 hD2 b2=>?_⟩
  walk_at "r"
  refine⟨by show 3≤sizeLine;decide,fun p hp=>?_⟩
  have s3:=same_upd (o:=.tup [V.int (1+x),V.int (3+y),V.int 12]) hp
  have hp3:upd H2 p (.tup [V.int (1+x),V.int (3+y),V.int 12]) p=some (.tup [V.int (1+x),V.int (3+y),V.int 12]):=upd_same
  generalize upd H2 p (.tup [V.int (1+x),V.int (3+y),V.int 12])=H3 at s3 hp3⊢
  have hD3:=hD2.same s3
  walk_at "r"
  refine⟨d,c0,3,rfl,hD3,by decide,by decide,fun r H4 r0 r1 hD4 b4=>?_⟩
  have hp4:=b4 _ _ (hD3.ne_tup hp3) hp3
  have b04:=(b1.trans b2).trans ((s3.but (d:=d)).trans b4)
  rcases(show r=0∨r=1∨r=2 by omega)with rfl|rfl|rfl
  ·exact i_ixT (SqT.of hp4) (v:=.int (1+x)) rfl (k _ _ (by omega) (by omega) hD4 b04)
  ·exact i_ixT (SqT.of hp4) (v:=.int (3+y)) rfl (k _ _ (by omega) (by omega) hD4 b04)
  ·exact i_ixT (SqT.of hp4) (v:=.int 12) rfl (k _ _ (by omega) (by omega) hD4 b04)
end
section
variable{P:Program}{w:World}{K:W.Frag}{mg:Str→Option Value}{base:Heap}
structure Ends2(slip:Int)(ns ms:List Int):Prop where
 nd1:ns.Nodup
 nd2:ms.Nodup
 p1:1≤ns.length
 p2:1≤ms.length
 l1:(ns.length:Int)≤slip
 l2:(ms.length:Int)≤slip
noncomputable def spEnds:Sp:=fun vs H Q _=>∃(d c0:Addr) (slip:Int),vs=[.ref d,.int slip]∧DrawC H d c0∧1≤slip∧slip≤12∧
 ∀t H' (p q:Addr) (ns ms:List Int),DrawC H' d c0→But d H H'→H t=none→H' t=some (.tup [.ref p,.ref q])→H' p=some (.lst (ns.map V.int))→H' q=some (.lst (ms.map V.int))→Ends2 slip ns ms→p≠q→p≠c0→q≠c0→Q (.ref t) H'
theorem but_free{d c0 e:Addr}{H H':Hp}(hD:DrawC H d c0)(hD':DrawC H' d c0)(b:But d H H')(he:H' e=none):H e=none:=by
 cases hh:H e with
 |none=>rfl
 |some o=>
  by_cases hed:e=d
  ·subst hed
   obtain⟨⟨o2,ho2⟩,_⟩:=hD'.is
   rw[he]at ho2
   cases ho2
  ·have:=b _ _ hed hh
   rw[he]at this
   cases this
abbrev sLawEnds:Stmt:=top 63
theorem scLawEnds:FnScope ["_law_draw","_law_slip_here","_law_start","_law_goal","_law_fresh","_law_new"] ["_law_draw","_law_slip_here"] (defScope sLawEnds):=⟨rfl,rfl,rfl,by decide+kernel,rfl,by decide+kernel,by decide+kernel⟩
theorem nd_232_17:(["_law_timber","_law_start"]:List Str).Nodup:=by decide+kernel
theorem S_232_17:CompScope ["_law_draw","_law_slip_here","_law_start","_law_goal","_law_fresh","_law_new"] (defScope sLawEnds) ({kind:=ScopeKind.function,names:=[(Str.ofString ".0",NameKind.local),(Str.ofString "_law_timber",NameKind.local),(Str.ofString "_law_start",NameKind.free)],isGenerator:=false,isCoroutine:=false,more:=[]:Scope}) (["_law_timber"]:List Str) ([(2,"_law_start")]:List (Nat×Str)):=⟨by decide+kernel,by decide+kernel,by decide+kernel,by decide+kernel,by decide+kernel⟩
theorem ok_ends{f:Addr}{fd:FuncData}(F:Fun K "_law_ends" "_law_ends" sLawEnds f fd)(T:BltM mg)(c_law_take:Cal P w K mg base "_law_take" 1 ["_law_draw","_law_many"] spTakeC)(c_law_some:Cal P w K mg base "_law_some" 2 ["_law_draw","_law_pool","_law_many"] (spSomeC K)):FnOk P w K mg base CX0 3 f fd ["_law_draw","_law_slip_here"] spEnds:=by
 refine F.ok scLawEnds (fun vs H Q E h=>?_) (fun cdv A outer s H vs Q E hr h=>?_)
 ·obtain⟨d,c0,slip,rfl,_⟩:=h
  rfl
 ·obtain⟨d,c0,slip,rfl,hD,h1,h2,k⟩:=h
  refine⟨_,(pss_cons (ps_set (i:=2) scLawEnds.nd rfl (Or.inr rfl) (pe_callC c_law_some (hr.mono (by omega)) (by rfl) (pa_cons (pv 0) (pa_cons (pe_callTy (cListRng rfl) (by rfl) T.z_list bb_list (pa_cons (pe_callTy cRng2 (by rfl) T.z_range bb_range (pa_cons pe_int (pa_cons pe_int pa_nil))) pa_nil)) (pa_cons (pe_op op_add pe_int (pe_callC c_law_take (hr.mono (by omega)) (by rfl) (pa_cons (pv 0) (pa_cons (pv 1) pa_nil)))) pa_nil)))))
   (pss_cons (ps_set (i:=3) scLawEnds.nd rfl (Or.inl rfl) (pe_callC c_law_some (hr.mono (by omega)) (by rfl) (pa_cons (pv 0) (pa_cons (pv 2) (pa_cons (pe_op op_mul (pe_callC c_law_take (hr.mono (by omega)) (by rfl) (pa_cons (pv 0) (pa_cons (pe_op op_add (pe_callB (cLen (K:=K) rfl) (by rfl) T.z_len bb_len (pa_cons (pv 2) pa_nil)) pe_int) pa_nil))) (pe_callTy cInt1 (by rfl) T.z_int bb_int (pa_cons (pe_cmpR op_gt (pe_callC c_law_take (hr.mono (by omega)) (by rfl) (pa_cons (pv 0) (pa_cons pe_int pa_nil))) pe_int (nomark _)) pa_nil))) pa_nil)))))
   (pss_cons (ps_lcomp (iy:=4) rfl scLawEnds.nd rfl rfl S_232_17 (pi_range2 (by rfl) T.z_range (pa_cons pe_int (pa_cons pe_int pa_nil))) (by intro _ _ _ _ _;exact(pg_name (i:=0) nd_232_17 rfl (Or.inl rfl))) (by intro _ _ _ _ _;exact(pts_one (pt_cmpR (oNotIn (K:=K) rfl) (pv 0) (pv 1) (by with_unfolding_all rfl)))) (by intro _ _ _ _ _;exact(pv 0)) (by rfl))
   (pss_cons (ps_set (i:=5) scLawEnds.nd rfl (Or.inl rfl) (pe_callC c_law_some (hr.mono (by omega)) (by rfl) (pa_cons (pv 0) (pa_cons (pv 4) (pa_cons (pe_callC c_law_take (hr.mono (by omega)) (by rfl) (pa_cons (pv 0) (pa_cons (pe_op op_add (pe_op op_sub (pv 1) (pe_callB (cLen (K:=K) rfl) (by rfl) T.z_len bb_len (pa_cons (pv 3) pa_nil))) pe_int) pa_nil))) pa_nil)))))
   (pss_cons (ps_set (i:=3) scLawEnds.nd rfl (Or.inl rfl) (pe_op op_cat (pv 3) (pv 5)))
   (pss_cons (ps_if (pt_cmpR (op_eqI hr.units) (pv 3) (pe_lst pa_nil) (nomark _)) (pss_one (ps_set (i:=3) scLawEnds.nd rfl (Or.inl rfl) (pe_lst (pa_cons (pe_ix (ixL (K:=K) rfl) (pv 2) pe_int (fun _ _=>rfl)) pa_nil)))) pss_nil)
   (pss_one (ps_ret (pe_tup (pa_cons (pv 2) (pa_cons (pv 3) pa_nil))))))))))),?_⟩
  walk_at "r"
  intro g hg
  walk_at "r"
  refine i_listRng upd_same (by decide) (by decide) (by decide) (by decide) (by decide) fun l hl=>?_
  have s1:=(same_upd (o:=.rng 1 61) hg).trans (same_upd (o:=.lst ((rangeI 1 (61 - 1:Int).toNat).map V.int)) hl)
  have hl1:upd (upd H g (.rng 1 61)) l (.lst ((rangeI 1 (61 - 1:Int).toNat).map V.int)) l=_:=upd_same
  generalize upd (upd H g (.rng 1 61)) l (.lst ((rangeI 1 (61 - 1:Int).toNat).map V.int))=H1 at s1 hl1⊢
  have hD1:=hD.same s1
  walk_at "r"
  refine⟨d,c0,slip,rfl,hD1,by omega,small_int (by omega) (by omega),fun r H2 r0 r1 hD2 b2=>?_⟩
  have hl2:=b2 _ _ (hD1.ne_ints hl1) hl1
  have bt2:=(s1.but (d:=d)).trans b2
  walk_at "r"
  have lr:(rangeI 1 (61 - 1:Int).toNat).length=60:=rangeI_length 1 60
  have ndr:(rangeI 1 (61 - 1:Int).toNat).Nodup:=(rangeI_rises 1 60).imp fun h z=>by omega
  generalize rangeI 1 (61 - 1:Int).toNat=all at lr ndr hl1 hl2
  refine⟨d,c0,l,all,_,rfl,hD2,SqL.of hl2,by omega,by omega,by omega,fun p H3 ns us hD3 b3 hp0 hp3 pm ln=>?_⟩
  have pc:p≠c0:=by obtain⟨_,_,ho'⟩:=hD2.is;exact(ne_of_none ho' hp0).symm
  have bt3:=bt2.trans b3
  have nd1:ns.Nodup:=(List.nodup_append.mp (pm.nodup_iff.mpr ndr)).1
  have ln1:1≤ns.length:=by omega
  have ln2:(ns.length:Int)≤slip:=by omega
  clear hl2 b3 b2 hl1 s1 bt2 pm ln
  walk_at "r"
  rw[List.length_map]
  refine⟨d,c0,_,rfl,hD3,by omega,small_int (by omega) (by omega),fun x H4 x0 x1 hD4 b4=>?_⟩
  have hp4:=b4 _ _ (hD3.ne_ints hp3) hp3
  walk_at "r"
  refine⟨d,c0,3,rfl,hD4,by decide,by decide,fun y H5 y0 y1 hD5 b5=>?_⟩
  have hp5:=b5 _ _ (hD4.ne_ints hp4) hp4
  have bt5:=bt3.trans (b4.trans b5)
  clear b4 b5 bt3 hp4 hp3
  walk_at "r"
  have hm:∃m:Int,x*(if decide (0<y)=true then 1 else 0)=m∧0≤m∧m≤ns.length:=by
   split
   ·exact⟨x,by omega,by omega,by omega⟩
   ·exact⟨0,by omega,by omega,by omega⟩
  obtain⟨m,em,m0,m1⟩:=hm
  rw[em]
  refine⟨d,c0,p,ns,m,rfl,hD5,SqL.of hp5,by omega,by omega,by omega,fun q H6 gs us2 hD6 b6 hq0 hq6 pm2 lg=>?_⟩
  have hp6:=b6 _ _ (hD5.ne_ints hp5) hp5
  have bt6:=bt5.trans b6
  have ndg:gs.Nodup:=(List.nodup_append.mp (pm2.nodup_iff.mpr nd1)).1
  have mg':∀x∈gs,x∈ns:=fun x hx=>pm2.mem_iff.mp (List.mem_append_left _ hx)
  have lg2:gs.length≤ns.length:=by omega
  clear bt5 b6 hp5 pm2 lg hq0 em
  walk_at "r"
  refine⟨1,61,rfl,by decide,?_⟩
  refine filterR (σ0:=[some (.ref p)]) (f:=fun z=>!decide (z∈ns)) (by decide) ?_ ?_
  ·intro z R hR
   walk_at "r"
   refine i_notInI (SqL.of hp6) ?_
   walk_at "r"
   exact hR
  intro e he
  have lf:((rangeI 1 (61 - 1:Int).toNat).filter fun z=>!decide (z∈ns)).length≤60:=Nat.le_trans (List.length_filter_le _ _) (by rw[rangeI_length];decide)
  have ndf:((rangeI 1 (61 - 1:Int).toNat).filter fun z=>!decide (z∈ns)).Nodup:=List.Pairwise.filter _ ((rangeI_rises 1 60).imp fun h z=>by omega)
  have mf:∀x∈(rangeI 1 (61 - 1:Int).toNat).filter fun z=>!decide (z∈ns),x∉ns:=fun x hx=>by
   have:=(List.mem_filter.mp hx).2
   simpa using this
  generalize(rangeI 1 (61 - 1:Int).toNat).filter (fun z=>!decide (z∈ns))=fr at lf ndf mf
  have s7:=same_upd (o:=.lst (fr.map V.int)) he
  have he7:upd H6 e (.lst (fr.map V.int)) e=_:=upd_same
  have hD7:=hD6.same s7
  have bt7:=bt6.trans (s7.but (d:=d))
  have hp7:=s7 _ _ hp6
  have hq7:=s7 _ _ hq6
  generalize upd H6 e (.lst (fr.map V.int))=H7 at s7 he7 hD7 bt7 hp7 hq7⊢
  clear s7 bt6 hp6 hq6 hD6
  walk_at "r"
  rw[List.length_map]
  refine⟨d,c0,_,rfl,hD7,by omega,small_int (by omega) (by omega),fun z H8 z0 z1 hD8 b8=>?_⟩
  have hp8:=b8 _ _ (hD7.ne_ints hp7) hp7
  have hq8:=b8 _ _ (hD7.ne_ints hq7) hq7
  have he8:=b8 _ _ (hD7.ne_ints he7) he7
  walk_at "r"
  refine⟨d,c0,e,fr,z,rfl,hD8,SqL.of he8,by omega,by omega,by omega,fun u H9 ws us3 hD9 b9 hu0 hu9 pm3 lw=>?_⟩
  have hp9:=b9 _ _ (hD8.ne_ints hp8) hp8
  have hq9:=b9 _ _ (hD8.ne_ints hq8) hq8
  have bt9:=bt7.trans (b8.trans b9)
  have ndw:ws.Nodup:=(List.nodup_append.mp (pm3.nodup_iff.mpr ndf)).1
  have mw:∀x∈ws,x∉ns:=fun x hx=>mf x (pm3.mem_iff.mp (List.mem_append_left _ hx))
  have lw2:(ws.length:Int)≤z:=by omega
  clear hp8 hq8 he8 bt7 b8 b9 hp7 hq7 he7 pm3 lw
  walk_at "r"
  refine i_cat hq9 hu9 (le_line (by rw[List.length_map,List.length_map];omega)) fun v hv=>?_
  have pv:p≠v:=ne_of_none hp9 hv
  have vc:v≠c0:=by obtain⟨_,_,ho'⟩:=hD9.is;exact(ne_of_none ho' hv).symm
  have s10:=same_upd (o:=.lst (gs.map V.int++ws.map V.int)) hv
  have hv10:upd H9 v (.lst (gs.map V.int++ws.map V.int)) v=some (.lst ((gs++ws).map V.int)):=by rw[upd_same,List.map_append]
  have hD10:=hD9.same s10
  have hp10:=s10 _ _ hp9
  have bt10:=bt9.trans (s10.but (d:=d))
  generalize upd H9 v (.lst (gs.map V.int++ws.map V.int))=H10 at s10 hv10 hD10 hp10 bt10⊢
  have ndm:(gs++ws).Nodup:=List.nodup_append.mpr ⟨ndg,ndw,fun x hx y hy z=>mw y hy (z▸mg' x hx)⟩
  have lm:((gs++ws).length:Int)≤slip:=by rw[List.length_append];omega
  clear s10 hp9 hq9 hu9 bt9 hD9
  generalize gs++ws=ms at hv10 ndm lm
  walk_at "r"
  refine⟨Nat.zero_le _,fun o ho=>?_⟩
  have s11:=same_upd (o:=.lst []) ho
  refine i_eqI (ms:=[]) (s11 _ _ hv10) upd_same ?_
  rw[if_neg Bool.false_ne_true]
  have hD11:=hD10.same s11
  have bt11:=bt10.trans (s11.but (d:=d))
  have hp11:=s11 _ _ hp10
  have hv11:=s11 _ _ hv10
  generalize upd H10 o (.lst [])=H11 at s11 hD11 bt11 hp11 hv11⊢
  walk_at "r"
  have last:∀(H':Hp) (q':Addr) (ms':List Int) (t:Addr),DrawC H' d c0→But d H H'→H' p=some (.lst (ns.map V.int))→H' q'=some (.lst (ms'.map V.int))→ms'.Nodup→1≤ms'.length→(ms'.length:Int)≤slip→H' t=none→p≠q'→q'≠c0→Q (.ref t) (upd H' t (.tup [.ref p,.ref q'])):=by
   intro H' q' ms' t hD' bt' hp' hq' nd' l' l'' ht pq qc
   have s':=same_upd (o:=.tup [.ref p,.ref q']) ht
   exact k t _ p q' ns ms' (hD'.same s') (bt'.trans (s'.but (d:=d))) (but_free hD hD' bt' ht) upd_same (s' _ _ hp') (s' _ _ hq') ⟨nd1,nd',ln1,l',ln2,l''⟩ pq pc qc
  cases hz:decide (ms=[])with
  |true=>
   refine iteT ?_
   walk_at "r"
   have hx0:(ns.map V.int)[0]?=some (.int (ns[0]'(by omega))):=by rw[List.getElem?_map,List.getElem?_eq_getElem (by omega)];rfl
   refine i_ixL (SqL.of hp11) (show atI (ns.map V.int) ((0:Nat):Int)=_ from atI_nat hx0) ?_
   walk_at "r"
   refine⟨by show 1≤sizeLine;decide,fun v2 hv2=>?_⟩
   have pv2:p≠v2:=ne_of_none hp11 hv2
   have v2c:v2≠c0:=by obtain⟨_,_,ho'⟩:=hD11.is;exact(ne_of_none ho' hv2).symm
   have s12:=same_upd (o:=.lst [.int (ns[0]'(by omega))]) hv2
   have hv12:upd H11 v2 (.lst [.int (ns[0]'(by omega))]) v2=some (.lst ([ns[0]'(by omega)].map V.int)):=upd_same
   have hD12:=hD11.same s12
   have bt12:=bt11.trans (s12.but (d:=d))
   have hp12:=s12 _ _ hp11
   generalize upd H11 v2 (.lst [.int (ns[0]'(by omega))])=H12 at s12 hv12 hD12 bt12 hp12⊢
   walk_at "r"
   refine⟨by show 2≤sizeLine;decide,fun t ht=>?_⟩
   exact last _ v2 _ t hD12 bt12 hp12 hv12 (List.nodup_cons.mpr ⟨by simp,List.nodup_nil⟩) (Nat.le_refl _) (by simpa using h1) ht pv2 v2c
  |false=>
   refine iteF ?_
   walk_at "r"
   refine⟨by show 2≤sizeLine;decide,fun t ht=>?_⟩
   have:ms≠[]:=of_decide_eq_false hz
   have hpos:1≤ms.length:=by
    cases ms with
    |nil=>exact absurd rfl this
    |cons _ _=>simp
   exact last _ v ms t hD11 bt11 hp11 hv11 ndm hpos lm ht pv vc
end
noncomputable def rg(S:List (List Int))(g:List Int):Nat→List (List Int)×List (List Int)
 |0=>([g],S)
 |n+1=>(((rg S g n).2.filter fun ys=>!decide (ys∈(rg S g n).1)).filter (fun ys=>(rg S g n).1.any fun zs=>nearB ys zs),(rg S g n).2.filter fun ys=>!decide (ys∈(rg S g n).1))
theorem mem_left{S:List (List Int)}{g:List Int}:∀(n:Nat) (y:List Int),y∈(rg S g n).2↔y∈S∧∀i,i<n→y∉ (rg S g i).1
 |0,y=>by
  show y∈S↔_
  exact⟨fun h=>⟨h,fun i hi=>by omega⟩,fun h=>h.1⟩
 |n+1,y=>by
  show y∈(rg S g n).2.filter _↔_
  rw[List.mem_filter,mem_left n y]
  constructor
  ·rintro⟨⟨h1,h2⟩,h3⟩
   refine⟨h1,fun i hi=>?_⟩
   rcases Nat.lt_or_ge i n with q|q
   ·exact h2 i q
   ·have:i=n:=by omega
    subst this
    simpa using h3
  ·rintro⟨h1,h2⟩
   exact⟨⟨h1,fun i hi=>h2 i (by omega)⟩,by simpa using h2 n (by omega)⟩
theorem ring_succ{S:List (List Int)}{g:List Int}{n:Nat}{y:List Int}:y∈(rg S g (n+1)).1↔y∈(rg S g (n+1)).2∧∃z∈(rg S g n).1,nearB y z=true:=by
 show y∈List.filter _ _↔_
 rw[List.mem_filter,List.any_eq_true]
 rfl
theorem ring_one{S:List (List Int)}{g:List Int}{i j:Nat}{y:List Int}(h1:y∈(rg S g i).1)(h2:y∈(rg S g j).1):i=j:=by
 have lt:∀{i j:Nat},i<j→y∈(rg S g i).1→y∈(rg S g j).1→False:=by
  intro i j hij h1 h2
  obtain⟨k,rfl⟩:∃k,j=k+1:=⟨j - 1,by omega⟩
  exact((mem_left (k+1) y).mp (ring_succ.mp h2).1).2 i hij h1
 rcases Nat.lt_trichotomy i j with q|q|q
 ·exact(lt q h1 h2).elim
 ·exact q
 ·exact(lt q h2 h1).elim
theorem ring_nil{S:List (List Int)}{g:List Int}{n:Nat}(h:(rg S g n).1=[]):∀k,(rg S g (n+k)).1=[]
 |0=>h
 |k+1=>by
  have ih:=ring_nil h k
  rw[List.eq_nil_iff_forall_not_mem]
  intro y hy
  obtain⟨_,z,hz,_⟩:=ring_succ (n:=n+k).mp hy
  rw[ih]at hz
  cases hz
open Classical in
noncomputable def hgt(S:List (List Int))(g y:List Int):Option Nat:=if h:∃i,y∈(rg S g i).1 then some h.choose else none
theorem hgt_some{S:List (List Int)}{g y:List Int}{i:Nat}(h:y∈(rg S g i).1):hgt S g y=some i:=by
 have e:∃i,y∈(rg S g i).1:=⟨i,h⟩
 unfold hgt
 rw[dif_pos e,ring_one e.choose_spec h]
theorem hgt_none{S:List (List Int)}{g y:List Int}(h:∀i,y∉ (rg S g i).1):hgt S g y=none:=by
 unfold hgt
 rw[dif_neg (fun⟨i,q⟩=>h i q)]
noncomputable def Two2(K:W.Frag)(H:Hp)(p q:Addr)(ns ms:List Int):Prop:=SqX K H p (ns.map V.int)∧SqX K H q (ms.map V.int)∧ns.length<64∧ms.length<64
theorem Two2.same{H H':Hp}{p q:Addr}{ns ms:List Int}(h:Two2 K H p q ns ms)(s:Same H H'):Two2 K H' p q ns ms:=⟨h.1.same s,h.2.1.same s,h.2.2⟩
theorem ts_of{H:Hp}:∀{ws:List V} {ps:List T3},Reps H ws (ps.map tri)→∃ts:List Addr,ws=ts.map V.ref∧TsAt H ts (ps.map triI)
 |[],[],_=>⟨[],rfl,rfl,fun i t ys e=>by simp at e⟩
 |_::_,[],h=>by cases h
 |[],_::_,h=>by cases h
 |v::ws,p::ps,h=>by
  cases h with
  |cons a r=>
   obtain⟨t,rfl,ht⟩:=rep_tri a
   obtain⟨ts,rfl,h2⟩:=ts_of r
   refine⟨t::ts,rfl,by simp[h2.1],fun i t' ys e1 e2=>?_⟩
   cases i with
   |zero=>cases e1;cases e2;exact ht
   |succ i=>exact h2.2 i t' ys (by simpa using e1) (by simpa using e2)
noncomputable def StL(H:Hp)(l:Addr)(yss:List (List Int)):Prop:=∃ts:List Addr,H l=some (.lst (ts.map V.ref))∧TsAt H ts yss
theorem StL.same{H H':Hp}{l:Addr}{yss:List (List Int)}(h:StL H l yss)(s:Same H H'):StL H' l yss:=by
 obtain⟨ts,h1,h2⟩:=h
 exact⟨ts,s _ _ h1,h2.same s⟩
noncomputable def stagesI(ns ms:List Int)(slip:Int):List (List Int):=(stagesOf (cntR ns ms) (cntB ns ms) (cntR ms ns) slip).map triI
section
variable{P:Program}{w:World}{K:W.Frag}{mg:Str→Option Value}{base:Heap}
noncomputable def restL(ns ms:List Int):List Int:=(uniq ns).filter fun x=>!decide (x∈ms)
noncomputable def bothL(ns ms:List Int):List Int:=(uniq ns).filter fun x=>decide (x∈ms)
theorem mem_rest{ns ms:List Int}{x:Int}:x∈restL ns ms↔pRest ns ms x:=by unfold restL pRest;rw[List.mem_filter,mem_uniq];simp
theorem mem_both{ns ms:List Int}{x:Int}:x∈bothL ns ms↔pBoth ns ms x:=by unfold bothL pBoth;rw[List.mem_filter,mem_uniq];simp
noncomputable def stOf(bs ns ms:List Int):List Int:=[(cntB bs (restL ns ms):Nat),(cntB bs (bothL ns ms):Nat),(cntB bs (restL ms ns):Nat)]
noncomputable def spStageOf(K:W.Frag):Sp:=fun vs H Q _=>∃(r p q:Addr) (bs ns ms:List Int),vs=[.ref r,.ref p,.ref q]∧SqX K H r (bs.map V.int)∧bs.length<64∧Two2 K H p q ns ms∧∀t H',Same H H'→H' t=some (.tup ((stOf bs ns ms).map V.int))→Q (.ref t) H'
abbrev sStageOf:Stmt:=top 18
theorem scStageOf:FnScope ["boat","start","goal","alone","both","wished"] ["boat","start","goal"] (defScope sStageOf):=⟨rfl,rfl,rfl,by decide+kernel,rfl,by decide+kernel,by decide+kernel⟩
theorem nd_36_26:(["timbers","boat"]:List Str).Nodup:=by decide+kernel
theorem S_36_26:CompScope ["boat","start","goal","alone","both","wished"] (defScope sStageOf) ({kind:=ScopeKind.function,names:=[(Str.ofString ".0",NameKind.local),(Str.ofString "timbers",NameKind.local),(Str.ofString "len",NameKind.globalImplicit),(Str.ofString "common",NameKind.globalImplicit),(Str.ofString "boat",NameKind.free)],isGenerator:=false,isCoroutine:=false,more:=[]:Scope}) (["timbers"]:List Str) ([(0,"boat")]:List (Nat×Str)):=⟨by decide+kernel,by decide+kernel,by decide+kernel,by decide+kernel,by decide+kernel⟩
theorem ok_stage_of{f:Addr}{fd:FuncData}(F:Fun K "stage_of" "stage_of" sStageOf f fd)(T:BltM mg)(c_common:Cal P w K mg base "common" 1 ["one","other"] (spTwo K pBoth))(c_timbers_by_kind:Cal P w K mg base "timbers_by_kind" 2 ["start","goal"] (spKinds K)):FnOk P w K mg base CX0 3 f fd ["boat","start","goal"] (spStageOf K):=by
 refine F.ok scStageOf (fun vs H Q E h=>?_) (fun cdv A outer s H vs Q E hr h=>?_)
 ·obtain⟨r,p,q,bs,ns,ms,rfl,_⟩:=h
  rfl
 ·obtain⟨r,p,q,bs,ns,ms,rfl,hb,lb,⟨hp,hq,l1,l2⟩,k⟩:=h
  refine⟨_,(pss_cons (ps_asg (pe_lcomp rfl S_36_26 (piL (K:=K) rfl (pe_callC c_timbers_by_kind (hr.mono (by omega)) (by rfl) (pa_cons (pv 1) (pa_cons (pv 2) pa_nil)))) (by intro _ _ _ _ _;exact(pg_name (i:=0) nd_36_26 rfl (Or.inl rfl))) (by intro _ _ _ _ _;exact pts_nil) (by intro _ _ _ _ _;exact(pe_callB (cLen (K:=K) rfl) (by rfl) T.z_len bb_len (pa_cons (pe_callC c_common (hr.mono (by omega)) (by rfl) (pa_cons (pv 1) (pa_cons (pv 0) pa_nil))) pa_nil)))) (pgLs (K:=K) (n:=3) rfl rfl (pgs_cons (pg_name (i:=3) scStageOf.nd rfl (Or.inl rfl)) (pgs_cons (pg_name (i:=4) scStageOf.nd rfl (Or.inl rfl)) (pgs_cons (pg_name (i:=5) scStageOf.nd rfl (Or.inl rfl)) pgs_nil)))))
   (pss_one (ps_ret (pe_tup (pa_cons (pv 3) (pa_cons (pv 4) (pa_cons (pv 5) pa_nil))))))),?_⟩
  walk_at "r"
  refine⟨p,q,ns,ms,rfl,hp,hq,l1,l2,fun l H2 a b c r1 r2 r3 s2 _ hl2 ha2 hb2 hc2 ris1 ris2 ris3=>?_⟩
  have lr1:r1.length<64:=Nat.lt_of_le_of_lt (ris1.le fun x h=>h.1) l1
  have lr2:r2.length<64:=Nat.lt_of_le_of_lt (ris2.le fun x h=>h.1) l1
  have lr3:r3.length<64:=Nat.lt_of_le_of_lt (ris3.le fun x h=>h.1) l2
  have c1:∀{rs:List Int},Ris rs (pBoth bs r1)→rs.length=cntB bs (restL ns ms):=fun ris=>by
   rw[cntB_of ris.nodup ris.2]
   exact cntB_congr (fun x=>Iff.rfl) (fun x=>by rw[ris1.2,mem_rest])
  have c2:∀{rs:List Int},Ris rs (pBoth bs r2)→rs.length=cntB bs (bothL ns ms):=fun ris=>by
   rw[cntB_of ris.nodup ris.2]
   exact cntB_congr (fun x=>Iff.rfl) (fun x=>by rw[ris2.2,mem_both])
  have c3:∀{rs:List Int},Ris rs (pBoth bs r3)→rs.length=cntB bs (restL ms ns):=fun ris=>by
   rw[cntB_of ris.nodup ris.2]
   exact cntB_congr (fun x=>Iff.rfl) (fun x=>by rw[ris3.2,mem_rest])
  have hb':=hb.same s2
  refine⟨l,rfl,⟨_,SqL.of hl2⟩,?_⟩
  refine mapW (ws:=(stOf bs ns ms).map V.int) (fun σ=>∃x,σ=[x,some (.ref r)]) ⟨none,rfl⟩ (show 3≤1000 by decide) (fun H' s'=>⟨_,SqL.of (s' _ _ hl2),Nat.le_refl _⟩) (fun i H' hi s'=>?_) ?_ ?_
  ·have hi':i<[V.ref a,V.ref b,V.ref c].length:=hi
   exact⟨_,_,SqL.of (s' _ _ hl2),List.getElem?_eq_getElem hi'⟩
  ·rintro i wv x σ' H' G R R0 hw ⟨x0,rfl⟩ s' ⟨rfl,hy⟩ hR
   have ex:=hy _ (SqL.of (s' _ _ hl2))
   match i,hw,ex with
   |0,hw,ex=>
    cases hw;cases ex
    walk_at "r"
    refine iteT ?_
    walk_at "r"
    refine⟨r,a,bs,r1,rfl,hb'.same s',.inl (SqL.of (s' _ _ ha2)),lb,lr1,fun e H5 rs s5 _ he ris=>?_⟩
    walk_at "r"
    rw[List.length_map,c1 ris]
    exact hR _ _ ⟨_,rfl⟩ (s'.trans s5)
   |1,hw,ex=>
    cases hw;cases ex
    walk_at "r"
    refine iteT ?_
    walk_at "r"
    refine⟨r,b,bs,r2,rfl,hb'.same s',.inl (SqL.of (s' _ _ hb2)),lb,lr2,fun e H5 rs s5 _ he ris=>?_⟩
    walk_at "r"
    rw[List.length_map,c2 ris]
    exact hR _ _ ⟨_,rfl⟩ (s'.trans s5)
   |2,hw,ex=>
    cases hw;cases ex
    walk_at "r"
    refine iteT ?_
    walk_at "r"
    refine⟨r,c,bs,r3,rfl,hb'.same s',.inl (SqL.of (s' _ _ hc2)),lb,lr3,fun e H5 rs s5 _ he ris=>?_⟩
    walk_at "r"
    rw[List.length_map,c3 ris]
    exact hR _ _ ⟨_,rfl⟩ (s'.trans s5)
   |n+3,hw,ex=>simp[stOf]at hw
  ·intro H3 s3 D hD
   have s4:=s2.trans (s3.trans (same_upd (o:=.lst ((stOf bs ns ms).map V.int)) hD))
   have hD4:upd H3 D (.lst ((stOf bs ns ms).map V.int)) D=some (.lst ((stOf bs ns ms).map V.int)):=upd_same
   generalize upd H3 D (.lst ((stOf bs ns ms).map V.int))=H4 at s4 hD4⊢
   refine i_glst (SqL.of hD4) rfl ?_
   refine i_gcons (i_name (i_gcons (i_name (i_gcons (i_name (i_gnil ?_))))))
   walk_at "r"
   exact⟨by show 3≤sizeLine;decide,fun t ht=>k t _ (s4.trans (same_upd ht)) upd_same⟩
noncomputable def spFirst:Sp:=fun vs H Q _=>∃(a l:Addr) (xs:List Int) (yss:List (List Int)),vs=[.ref a,.ref l]∧H a=some (.tup (xs.map V.int))∧xs.length=3∧StL H l yss∧(∀ys∈yss,ys.length=3)∧
 (∀t ys H',Same H H'→ys∈yss→nearB xs ys=true→H' t=some (.tup (ys.map V.int))→Q (.ref t) H')∧((∀ys∈yss,nearB xs ys=false)→∀H',Same H H'→Q .non H')
abbrev sFirstNear:Stmt:=top 21
theorem scFirstNear:FnScope ["stage","others","other"] ["stage","others"] (defScope sFirstNear):=⟨rfl,rfl,rfl,by decide+kernel,rfl,by decide+kernel,by decide+kernel⟩
theorem ok_first{f:Addr}{fd:FuncData}(F:Fun K "first_near" "first_near" sFirstNear f fd)(T:BltM mg)(c_near:Cal P w K mg base "near" 1 ["one","other"] (spNear K)):FnOk P w K mg base CX0 2 f fd ["stage","others"] spFirst:=by
 refine F.ok scFirstNear (fun vs H Q E h=>?_) (fun cdv A outer s H vs Q E hr h=>?_)
 ·obtain⟨a,l,xs,yss,rfl,_⟩:=h
  rfl
 ·obtain⟨a,l,xs,yss,rfl,ha,l3,⟨ts,hl,hts⟩,hy3,kt,kn⟩:=h
  refine⟨_,(pss_cons (ps_for PassesOwn.never rfl (piL (K:=K) rfl (pv 1)) (pg_name (i:=2) scFirstNear.nd rfl (Or.inl rfl)) (pss_one (ps_if (pt_val (pe_callC c_near (hr.mono (by omega)) (by rfl) (pa_cons (pv 0) (pa_cons (pv 2) pa_nil)))) (pss_one (ps_ret (pv 2))) pss_nil)))
   (pss_one (ps_ret pe_non))),?_⟩
  walk_at "r"
  refine⟨l,rfl,⟨_,SqL.of hl⟩,?_⟩
  refine forW (fun i σ' H'=>(∃x,σ'=[some (.ref a),some (.ref l),x])∧Same H H'∧∀j,j<i→∀ys,yss[j]?=some ys→nearB xs ys=false) yss.length ⟨⟨none,rfl⟩,Same.refl _,fun j hj=>by omega⟩ ?_ ?_
  ·rintro σ' H' ⟨⟨x,rfl⟩,s1,nn⟩
   refine⟨⟨_,SqL.of (s1 _ _ hl),by rw[List.length_map,hts.1];exact Nat.le_refl _⟩,?_⟩
   walk_at "r"
   refine kn (fun ys hys=>?_) _ s1
   obtain⟨j,hj,e⟩:=List.mem_iff_getElem.mp hys
   exact nn j hj ys (by rw[List.getElem?_eq_getElem hj,e])
  ·rintro i σ' H' hi ⟨⟨x,rfl⟩,s1,nn⟩
   have hi2:i<ts.length:=by rw[hts.1];exact hi
   have e1:ts[i]?=some ts[i]:=List.getElem?_eq_getElem hi2
   have e2:yss[i]?=some yss[i]:=List.getElem?_eq_getElem hi
   have ht:=hts.2 i _ _ e1 e2
   refine⟨⟨_,.ref ts[i],SqL.of (s1 _ _ hl),by rw[List.getElem?_map,e1];rfl⟩,?_⟩
   rintro x' G ⟨rfl,hy⟩
   have ex:=hy _ (SqL.of (s1 _ _ hl))
   rw[List.getElem?_map,e1]at ex
   cases ex
   walk_at "r"
   refine⟨a,ts[i],xs,yss[i],rfl,SqT.of (s1 _ _ ha),SqT.of (s1 _ _ ht),l3,hy3 _ (List.getElem_mem hi),fun H2 s2=>?_⟩
   have s12:=s1.trans s2
   walk_at "r"
   cases hn:nearB xs yss[i]with
   |true=>
    refine iteT ?_
    walk_at "r"
    exact kt _ _ _ s12 (List.getElem_mem hi) hn (s12 _ _ ht)
   |false=>
    refine iteF ?_
    walk_at "r"
    refine⟨⟨_,rfl⟩,s12,fun j hj ys ey=>?_⟩
    by_cases hji:j<i
    ·exact nn j hji ys ey
    ·have:j=i:=by omega
     subst this
     rw[e2]at ey
     cases ey
     exact hn
noncomputable def RsL(H:Hp)(l:Addr)(rss:List (List (List Int))):Prop:=∃rs:List Addr,H l=some (.lst (rs.map V.ref))∧rs.length=rss.length∧∀(i:Nat) r yss,rs[i]?=some r→rss[i]?=some yss→StL H r yss
noncomputable def spHeightOf:Sp:=fun vs H Q _=>∃(a l:Addr) (xs:List Int) (rss:List (List (List Int))),vs=[.ref a,.ref l]∧H a=some (.tup (xs.map V.int))∧RsL H l rss∧
 (∀(h:Nat) yss H',Same H H'→rss[h]?=some yss→xs∈yss→Q (.int h) H')∧((∀yss∈rss,xs∉yss)→∀H',Same H H'→Q .non H')
abbrev sHeightOf:Stmt:=top 23
theorem scHeightOf:FnScope ["stage","told","height","ring"] ["stage","told"] (defScope sHeightOf):=⟨rfl,rfl,rfl,by decide+kernel,rfl,by decide+kernel,by decide+kernel⟩
theorem ok_height_of{f:Addr}{fd:FuncData}(F:Fun K "height_of" "height_of" sHeightOf f fd)(T:BltM mg):FnOk P w K mg base CX0 1 f fd ["stage","told"] spHeightOf:=by
 refine F.ok scHeightOf (fun vs H Q E h=>?_) (fun cdv A outer s H vs Q E hr h=>?_)
 ·obtain⟨a,l,xs,rss,rfl,_⟩:=h
  rfl
 ·obtain⟨a,l,xs,rss,rfl,ha,⟨rs,hl,lr,hrs⟩,kh,kn⟩:=h
  refine⟨_,(pss_cons (ps_for PassesOwn.never rfl (piE (K:=K) rfl (by rfl) T.z_enumerate (pa_cons (pv 1) pa_nil)) (pgT (K:=K) (n:=2) rfl rfl (pgs_cons (pg_name (i:=2) scHeightOf.nd rfl (Or.inl rfl)) (pgs_cons (pg_name (i:=3) scHeightOf.nd rfl (Or.inl rfl)) pgs_nil))) (pss_one (ps_if (pt_cmpR (op_inT hr.units) (pv 0) (pv 3) (by with_unfolding_all rfl)) (pss_one (ps_ret (pv 2))) pss_nil)))
   (pss_one (ps_ret pe_non))),?_⟩
  walk_at "r"
  refine⟨l,rfl,⟨_,SqL.of hl⟩,?_⟩
  refine forW (fun i σ' H'=>(∃x y,σ'=[some (.ref a),some (.ref l),x,y])∧Same H H'∧∀j,j<i→∀yss,rss[j]?=some yss→xs∉yss) rss.length ⟨⟨none,none,rfl⟩,Same.refl _,fun j hj=>by omega⟩ ?_ ?_
  ·rintro σ' H' ⟨⟨x,y,rfl⟩,s1,nn⟩
   refine⟨⟨_,SqL.of (s1 _ _ hl),by rw[List.length_map];omega⟩,?_⟩
   walk_at "r"
   refine kn (fun yss hys=>?_) _ s1
   obtain⟨j,hj,e⟩:=List.mem_iff_getElem.mp hys
   exact nn j hj yss (by rw[List.getElem?_eq_getElem hj,e])
  ·rintro i σ' H' hi ⟨⟨x,y,rfl⟩,s1,nn⟩
   have hi2:i<rs.length:=by omega
   have e1:rs[i]?=some rs[i]:=List.getElem?_eq_getElem hi2
   have e2:rss[i]?=some rss[i]:=List.getElem?_eq_getElem hi
   obtain⟨ts,hr1,hts⟩:=hrs i _ _ e1 e2
   refine⟨⟨_,.ref rs[i],SqL.of (s1 _ _ hl),by rw[List.getElem?_map,e1];rfl⟩,?_⟩
   rintro x' G ⟨t',u,rfl,hn,rfl,hy⟩
   have ex:=hy _ (SqL.of (s1 _ _ hl))
   rw[List.getElem?_map,e1]at ex
   cases ex
   have s2:=s1.trans (same_upd (o:=.tup [.int i,.ref rs[i]]) hn)
   refine i_gtup (SqT.of upd_same) rfl ?_
   walk_at "r"
   refine i_inT (s2 _ _ ha) (s2 _ _ hr1) (hts.same s2) ?_
   rw[if_neg (by decide)]
   walk_at "r"
   by_cases hx:xs∈rss[i]
   ·rw[decide_eq_true hx]
    refine iteT ?_
    walk_at "r"
    exact kh i _ _ s2 e2 hx
   ·rw[decide_eq_false hx]
    refine iteF ?_
    walk_at "r"
    refine⟨⟨_,_,rfl⟩,s2,fun j hj yss ey=>?_⟩
    by_cases hji:j<i
    ·exact nn j hji yss ey
    ·have:j=i:=by omega
     subst this
     rw[e2]at ey
     cases ey
     exact hx
end
section
variable{P:Program}{w:World}{K:W.Frag}{mg:Str→Option Value}{base:Heap}
theorem filtC{H1:Hp}{l:Addr}{ts:List Addr}{yss:List (List Int)}{tt:TT}{f:List Int→Bool}{fr:St}{Fin:List V→Hp→Prop}(hl:H1 l=some (.lst (ts.map V.ref)))(hts:TsAt H1 ts yss)(le:yss.length≤1000)
  (step:∀t ys H' (R:Bool→Hp→Prop),Same H1 H'→H1 t=some (.tup (ys.map V.int))→ys∈yss→(∀H3,Same H1 H3→R (f ys) H3)→tt (some (.ref t)::fr) H' R)
  (fin:∀us H',Same H1 H'→TsAt H1 us (yss.filter f)→Fin (us.map V.ref) H'):CompT (Itl K l) (gName 0) tt (tVar 0) Fin (none::fr) H1:=by
 refine compW (fun i ys σ' H'=>(∃x,σ'=x::fr)∧Same H1 H'∧∃us:List Addr,ys=us.map V.ref∧TsAt H1 us ((yss.take i).filter f)∧us.length≤i) yss.length ⟨⟨none,rfl⟩,Same.refl _,[],rfl,⟨rfl,fun j t p e=>by simp at e⟩,Nat.le_refl _⟩ ?_ ?_
 ·rintro ys σ' H' ⟨_,s1,us,rfl,pu,_⟩
  rw[List.take_length]at pu
  exact⟨⟨_,SqL.of (s1 _ _ hl),by rw[List.length_map,hts.1];exact Nat.le_refl _⟩,fin us H' s1 pu⟩
 ·rintro i ys σ' H' hi ⟨⟨x0,rfl⟩,s1,us,rfl,pu,lu⟩
  have hi2:i<ts.length:=by rw[hts.1];exact hi
  have e1:ts[i]?=some ts[i]:=List.getElem?_eq_getElem hi2
  have e2:yss[i]?=some yss[i]:=List.getElem?_eq_getElem hi
  have ht:=hts.2 i _ _ e1 e2
  refine⟨⟨_,.ref ts[i],SqL.of (s1 _ _ hl),by rw[List.getElem?_map,e1];rfl⟩,Nat.lt_of_le_of_lt (show(us.map V.ref).length≤1000 by rw[List.length_map];omega) (by decide),?_⟩
  rintro x' G ⟨rfl,hy⟩
  have ex:=hy _ (SqL.of (s1 _ _ hl))
  rw[List.getElem?_map,e1]at ex
  cases ex
  refine i_name ?_
  have et:yss.take (i+1)=yss.take i++[yss[i]]:=by rw[List.take_succ,e2];rfl
  refine step ts[i] yss[i] _ _ s1 ht (List.getElem_mem hi) fun H3 s3=>?_
  cases hf:f yss[i]with
  |false=>
   refine iteF ?_
   refine nxt hi ⟨⟨_,rfl⟩,s3,us,rfl,?_,by omega⟩
   rw[et,List.filter_append,List.filter_cons,hf]
   simpa using pu
  |true=>
   refine iteT ?_
   refine i_var rfl ?_
   refine nxt hi ⟨⟨_,rfl⟩,s3,us++[ts[i]],by rw[List.map_append];rfl,?_,by rw[List.length_append];show _+1≤_;omega⟩
   rw[et,List.filter_append,List.filter_cons,hf]
   show TsAt H1 (us++[ts[i]]) ((yss.take i).filter f++[yss[i]])
   refine⟨by simp[pu.1],fun j t' p' f1 f2=>?_⟩
   rcases Nat.lt_or_ge j us.length with q|q
   ·rw[List.getElem?_append_left q]at f1
    rw[List.getElem?_append_left (by rw[←pu.1];exact q)]at f2
    exact pu.2 j t' p' f1 f2
   ·rw[List.getElem?_append_right q]at f1
    rw[List.getElem?_append_right (by rw[←pu.1];exact q),←pu.1]at f2
    cases hz:j - us.length with
    |zero=>
     rw[hz]at f1 f2
     cases f1;cases f2
     exact ht
    |succ m=>
     rw[hz]at f1
     simp at f1
noncomputable def StOk(ns ms:List Int)(ys:List Int):Prop:=∃x y z:Nat,ys=[(x:Int),(y:Int),(z:Int)]∧x≤cntR ns ms∧y≤cntB ns ms∧z≤cntR ms ns
theorem mem_alT{b c i:Nat}{p:T3}(h:p∈alT b c i):p.1<i∧p.2.1≤b∧p.2.2≤c:=by
 unfold alT at h
 obtain⟨x,hx,h⟩:=List.mem_flatMap.mp h
 unfold plT at h
 obtain⟨y,hy,h⟩:=List.mem_flatMap.mp h
 unfold rowT at h
 obtain⟨z,hz,rfl⟩:=List.mem_map.mp h
 rw[List.mem_range]at hx hy hz
 exact⟨hx,by show y≤b;omega,by show z≤c;omega⟩
theorem stages_ok{ns ms:List Int}{slip:Int}{ys:List Int}(h:ys∈stagesI ns ms slip):StOk ns ms ys:=by
 obtain⟨p,hp,rfl⟩:=List.mem_map.mp h
 have:=mem_alT (List.mem_filter.mp hp).1
 exact⟨p.1,p.2.1,p.2.2,rfl,by omega,by omega,by omega⟩
theorem StOk.len{ns ms ys:List Int}(h:StOk ns ms ys):ys.length=3:=by
 obtain⟨x,y,z,rfl,_⟩:=h
 rfl
structure Rgs(ns ms:List Int)(slip:Int)(rss:List (List (List Int))):Prop where
 ok:∀yss∈rss,∀ys∈yss,StOk ns ms ys
 e:∀(k:Nat),k<rss.length→rss[k]?=some (rg (stagesI ns ms slip) (stOf ms ns ms) k).1
 nil:(rg (stagesI ns ms slip) (stOf ms ns ms) rss.length).1=[]
 le:rss.length≤2000
noncomputable def Fit5(ns ms:List Int)(slip:Int):Prop:=slip≤12∧1≤cnt ns∧(cnt ns:Int)≤slip∧1≤cnt ms∧(cnt ms:Int)≤slip
noncomputable def spRings(K:W.Frag):Sp:=fun vs H Q _=>∃(p q:Addr) (ns ms:List Int) (slip:Int),vs=[.ref p,.ref q,.int slip]∧Two2 K H p q ns ms∧Fit5 ns ms slip∧
 ∀l H' rss,Same H H'→RsL H' l rss→Rgs ns ms slip rss→Q (.ref l) H'
theorem cntB_len(bs L:List Int):cntB bs L≤L.length:=nodup_le (nodup_uniq.filter _) fun x hx=>by simpa using(List.mem_filter.mp hx).2
theorem st_ok{bs ns ms:List Int}:StOk ns ms (stOf bs ns ms):=⟨cntB bs (restL ns ms),cntB bs (bothL ns ms),cntB bs (restL ms ns),rfl,cntB_len _ _,cntB_len _ _,cntB_len _ _⟩
theorem StL.put{H:Hp}{l pt:Addr}{yss:List (List Int)}{zs:List V}{o:HO}(h:StL H l yss)(n:l≠pt)(hp:H pt=some (.lst zs)):StL (upd H pt o) l yss:=by
 obtain⟨ts,h1,h2⟩:=h
 refine⟨ts,by rw[upd_ne n];exact h1,h2.1,fun i t ys e1 e2=>?_⟩
 have ht:=h2.2 i t ys e1 e2
 rw[upd_ne (fun z=>by rw[z,hp]at ht;cases ht)]
 exact ht
theorem filt_lt{α:Type}{f:α→Bool}:∀{l:List α} {x:α},x∈l→f x=false→(l.filter f).length<l.length
 |y::l,x,h,hf=>by
  rw[List.filter_cons]
  rcases List.mem_cons.mp h with rfl|h
  ·rw[hf,if_neg (by decide),List.length_cons]
   have:=List.length_filter_le f l
   omega
  ·have:=filt_lt h hf
   split
   ·rw[List.length_cons,List.length_cons];omega
   ·rw[List.length_cons];omega
structure Wlk(ns ms:List Int)(slip:Int)(H H':Hp)(pr pl pt:Addr)(R L:List (List Int))(rss:List (List (List Int)))(m:Nat):Prop where
 s:Same H H'
 ft:H pt=none
 r:StL H' pr R
 l:StL H' pl L
 t:∃rs:List Addr,H' pt=some (.lst (rs.map V.ref))∧rs.length=rss.length∧(∀x∈rs,x≠pt)∧∀(i:Nat) x yss,rs[i]?=some x→rss[i]?=some yss→StL H' x yss
 n1:pr≠pt
 n2:pl≠pt
 oR:∀ys∈R,StOk ns ms ys
 oL:∀ys∈L,StOk ns ms ys
 lL:L.length≤1000
 lR:R.length≤1000
 ok:∀yss∈rss,∀ys∈yss,StOk ns ms ys
 e:∀(k:Nat),k<rss.length→rss[k]?=some (rg (stagesI ns ms slip) (stOf ms ns ms) k).1
 e2:rg (stagesI ns ms slip) (stOf ms ns ms) rss.length=(R,L)
 le:rss.length+m≤1002
 me:(m=L.length∧∀ys∈R,ys∈L)∨m=L.length+1
abbrev sRings:Stmt:=top 22
theorem scRings:FnScope ["start","goal","slip","ring","left","told"] ["start","goal","slip"] (defScope sRings):=⟨rfl,rfl,rfl,by decide+kernel,rfl,by decide+kernel,by decide+kernel⟩
theorem nd_56_15:(["stage","ring"]:List Str).Nodup:=by decide+kernel
theorem S_56_15:CompScope ["start","goal","slip","ring","left","told"] (defScope sRings) ({kind:=ScopeKind.function,names:=[(Str.ofString ".0",NameKind.local),(Str.ofString "stage",NameKind.local),(Str.ofString "ring",NameKind.free)],isGenerator:=false,isCoroutine:=false,more:=[]:Scope}) (["stage"]:List Str) ([(3,"ring")]:List (Nat×Str)):=⟨by decide+kernel,by decide+kernel,by decide+kernel,by decide+kernel,by decide+kernel⟩
theorem nd_57_15:(["stage","ring"]:List Str).Nodup:=by decide+kernel
theorem S_57_15:CompScope ["start","goal","slip","ring","left","told"] (defScope sRings) ({kind:=ScopeKind.function,names:=[(Str.ofString ".0",NameKind.local),(Str.ofString "stage",NameKind.local),(Str.ofString "first_near",NameKind.globalImplicit),(Str.ofString "ring",NameKind.free)],isGenerator:=false,isCoroutine:=false,more:=[]:Scope}) (["stage"]:List Str) ([(3,"ring")]:List (Nat×Str)):=⟨by decide+kernel,by decide+kernel,by decide+kernel,by decide+kernel,by decide+kernel⟩
theorem ok_rings{f:Addr}{fd:FuncData}(F:Fun K "rings" "rings" sRings f fd)(T:BltM mg)(c_stages:Cal P w K mg base "stages" 4 ["start","goal","slip"] (spStages K))(c_stage_of:Cal P w K mg base "stage_of" 3 ["boat","start","goal"] (spStageOf K))(c_first_near:Cal P w K mg base "first_near" 2 ["stage","others"] spFirst):FnOk P w K mg base CX0 5 f fd ["start","goal","slip"] (spRings K):=by
 refine F.ok scRings (fun vs H Q E h=>?_) (fun cdv A outer s H vs Q E hr h=>?_)
 ·obtain⟨p,q,ns,ms,slip,rfl,_⟩:=h
  rfl
 ·obtain⟨p,q,ns,ms,slip,rfl,tw,fit,k0⟩:=h
  refine⟨_,(pss_cons (ps_set (i:=3) scRings.nd rfl (Or.inr rfl) (pe_lst (pa_cons (pe_callC c_stage_of (hr.mono (by omega)) (by rfl) (pa_cons (pv 1) (pa_cons (pv 0) (pa_cons (pv 1) pa_nil)))) pa_nil)))
   (pss_cons (ps_set (i:=4) scRings.nd rfl (Or.inl rfl) (pe_callC c_stages (hr.mono (by omega)) (by rfl) (pa_cons (pv 0) (pa_cons (pv 1) (pa_cons (pv 2) pa_nil)))))
   (pss_cons (ps_set (i:=5) scRings.nd rfl (Or.inl rfl) (pe_lst pa_nil))
   (pss_cons (ps_while PassesOwn.never (pt_cmpR ((op_neD hr.units).or (op_neLens hr.units)) (pv 3) (pe_lst pa_nil) (nomark _)) (pss_cons (ps_expr (mApp (K:=K) rfl (pv 5) (pa_cons (pv 3) pa_nil)))
   (pss_cons (ps_lcomp (iy:=4) rfl scRings.nd rfl rfl S_56_15 (piL (K:=K) rfl (pv 4)) (by intro _ _ _ _ _;exact(pg_name (i:=0) nd_56_15 rfl (Or.inl rfl))) (by intro _ _ _ _ _;exact(pts_one (pt_cmpR (op_notInT hr.units) (pv 0) (pv 1) (by with_unfolding_all rfl)))) (by intro _ _ _ _ _;exact(pv 0)) (by rfl))
   (pss_one (ps_set (i:=3) scRings.nd rfl (Or.inr rfl) (pe_lcomp rfl S_57_15 (piL (K:=K) rfl (pv 4)) (by intro _ _ _ _ _;exact(pg_name (i:=0) nd_57_15 rfl (Or.inl rfl))) (by intro _ _ _ _ _;exact(pts_one (pt_cmp (pc_notN (pe_callC c_first_near (hr.mono (by omega)) (by rfl) (pa_cons (pv 0) (pa_cons (pv 1) pa_nil))))))) (by intro _ _ _ _ _;exact(pv 0))))))))
   (pss_one (ps_ret (pv 5))))))),?_⟩
  walk_at "r"
  refine⟨q,p,q,ms,ns,ms,rfl,tw.2.1,tw.2.2.2,tw,fun t H1 s1 ht1=>?_⟩
  walk_at "r"
  refine⟨by show 1≤sizeLine;decide,fun pr hpr=>?_⟩
  have s2:=s1.trans (same_upd (o:=.lst [.ref t]) hpr)
  have r2:StL (upd H1 pr (.lst [.ref t])) pr [stOf ms ns ms]:=⟨[t],upd_same,rfl,fun i x ys e1 e2=>by
   cases i with
   |zero=>cases e1;cases e2;exact(same_upd (o:=.lst [.ref t]) hpr) _ _ ht1
   |succ i=>simp at e1⟩
  generalize upd H1 pr (.lst [.ref t])=H2 at s2 r2⊢
  walk_at "r"
  have tw2:=tw.same s2
  refine⟨p,q,ns,ms,slip,rfl,tw2.1,tw2.2.1,tw2.2.2.1,tw2.2.2.2,fit.1,fit.2.1,fit.2.2.1,fit.2.2.2.1,fit.2.2.2.2,fun pl H3 ws3 s3' _ hw3 rp3=>?_⟩
  obtain⟨ts3,rfl,hts3⟩:=ts_of rp3
  have l3:StL H3 pl (stagesI ns ms slip):=⟨ts3,hw3,by unfold stagesI;exact hts3⟩
  have s3:=s2.trans s3'
  have r3:=r2.same s3'
  obtain⟨h12,c1,c2,c3,c4⟩:=id fit
  have lS:(stagesI ns ms slip).length≤1000:=by
   unfold stagesI
   rw[List.length_map]
   have q1:=cnt_split ns ms
   have q2:=cnt_split ms ns
   rw[cntB_symm ms ns]at q2
   exact stagesOf_len (by omega) (by omega)
  walk_at "r"
  refine⟨Nat.zero_le _,fun pt hpt=>?_⟩
  have x4:=same_upd (o:=.lst []) hpt
  have ht4:upd H3 pt (.lst []) pt=some (.lst []):=upd_same
  have w0:Wlk ns ms slip H (upd H3 pt (.lst [])) pr pl pt [stOf ms ns ms] (stagesI ns ms slip) [] ((stagesI ns ms slip).length+1):=by
   obtain⟨tr,hr1,_⟩:=id r3
   obtain⟨tl,hl1,_⟩:=id l3
   exact⟨s3.trans x4,s3.free hpt,r3.same x4,l3.same x4,⟨[],ht4,rfl,fun x hx=>(by cases hx),fun i x yss e=>(by simp at e)⟩,ne_of_none hr1 hpt,ne_of_none hl1 hpt,
    fun ys hy=>(by rw[List.mem_singleton]at hy;rw[hy];exact st_ok),fun ys hy=>stages_ok hy,lS,(by show 1≤1000;decide),fun yss hy=>(by cases hy),fun k hk=>(by simp at hk),rfl,(by show 0+_≤_;omega),.inr rfl⟩
  generalize upd H3 pt (.lst [])=H4 at w0⊢
  walk_at "r"
  refine⟨fun m σ' H'=>∃(pr pl:Addr) (R L:List (List Int)) (rss:List (List (List Int))),σ'=[some (.ref p),some (.ref q),some (.int slip),some (.ref pr),some (.ref pl),some (.ref pt)]∧Wlk ns ms slip H H' pr pl pt R L rss m,⟨_,pr,pl,_,_,[],rfl,w0⟩,?_⟩
  clear w0 r3 l3 s3 s2 r2
  rintro m σ' H5 ⟨pr,pl,R,L,rss,rfl,wk⟩
  obtain⟨tr,hr5,htr⟩:=id wk.r
  walk_at "r"
  refine⟨Nat.zero_le _,fun e he=>?_⟩
  have xe:=same_upd (o:=.lst []) he
  have hre:=xe _ _ hr5
  have hee:upd H5 e (.lst []) e=some (.lst []):=upd_same
  have wk6:Wlk ns ms slip H (upd H5 e (.lst [])) pr pl pt R L rss m:=by
   obtain⟨rs,g1,g2,g3,g4⟩:=wk.t
   exact{wk with s:=wk.s.trans xe,r:=wk.r.same xe,l:=wk.l.same xe,t:=⟨rs,xe _ _ g1,g2,g3,fun i x yss e1 e2=>(g4 i x yss e1 e2).same xe⟩}
  generalize upd H5 e (.lst [])=H6 at hre hee wk6⊢
  clear wk xe hr5 he
  have lR:=htr.1
  cases R with
  |nil=>
   left
   have et:tr=[]:=List.eq_nil_of_length_eq_zero (by rw[lR];rfl)
   subst et
   refine i_alike (d:=.lst []) (.lst hre .nil) (.lst hee .nil) (by decide) ?_
   walk_at "r"
   refine iteF ?_
   walk_at "r"
   obtain⟨rs,g1,g2,g3,g4⟩:=wk6.t
   exact k0 pt H6 rss wk6.s ⟨rs,g1,g2,g4⟩ ⟨wk6.ok,wk6.e,by rw[wk6.e2],by have:=wk6.le;omega⟩
  |cons R0 R1=>
   right
   refine⟨pr,e,_,_,rfl,rfl,hre,hee,by rw[List.length_map,lR];simp,?_⟩
   walk_at "r"
   refine iteT ?_
   obtain⟨rs,g1,g2,g3,g4⟩:=wk6.t
   refine⟨fun σ' H'=>∃m',m'<m∧∃(pr pl:Addr) (R L:List (List Int)) (rss:List (List (List Int))),σ'=[some (.ref p),some (.ref q),some (.int slip),some (.ref pr),some (.ref pl),some (.ref pt)]∧Wlk ns ms slip H H' pr pl pt R L rss m',fun σ' H' h=>h,?_⟩
   walk_at "r"
   refine⟨.inl ⟨rfl,_,SqL.of g1⟩,?_⟩
   walk_at "r"
   refine i_app g1 (Nat.lt_of_le_of_lt (show(rs.map V.ref).length≤1002 by rw[List.length_map,g2];have:=wk6.le;omega) (by decide)) ?_
   have u1:upd H6 pt (.lst (rs.map V.ref++[.ref pr])) pt=some (.lst ((rs++[pr]).map V.ref)):=by rw[List.map_append];exact upd_same
   have u2:StL (upd H6 pt (.lst (rs.map V.ref++[.ref pr]))) pr (R0::R1):=wk6.r.put wk6.n1 g1
   have u3:StL (upd H6 pt (.lst (rs.map V.ref++[.ref pr]))) pl L:=wk6.l.put wk6.n2 g1
   have u4:∀(i:Nat) x yss,(rs++[pr])[i]?=some x→(rss++[R0::R1])[i]?=some yss→StL (upd H6 pt (.lst (rs.map V.ref++[.ref pr]))) x yss:=fun i x yss e1 e2=>by
    rcases Nat.lt_or_ge i rs.length with z|z
    ·rw[List.getElem?_append_left z]at e1
     rw[List.getElem?_append_left (by omega)]at e2
     exact(g4 i x yss e1 e2).put (g3 x (List.mem_of_getElem? e1)) g1
    ·rw[List.getElem?_append_right z]at e1
     rw[List.getElem?_append_right (by omega),←g2]at e2
     cases hz:i - rs.length with
     |zero=>
      rw[hz]at e1 e2
      cases e1;cases e2
      exact u2
     |succ n=>
      rw[hz]at e1
      simp at e1
   have u5:Same H (upd H6 pt (.lst (rs.map V.ref++[.ref pr]))):=fun a o ha=>by
    rw[upd_ne (ne_of_none ha wk6.ft)]
    exact wk6.s _ _ ha
   generalize upd H6 pt (.lst (rs.map V.ref++[.ref pr]))=H7 at u1 u2 u3 u4 u5⊢
   obtain⟨tl,hl7,htl⟩:=id u3
   obtain⟨tr7,hr7,htr7⟩:=id u2
   walk_at "r"
   refine⟨pl,rfl,⟨_,SqL.of hl7⟩,?_⟩
   refine filtC (f:=fun ys=>!decide (ys∈R0::R1)) hl7 htl wk6.lL (fun t ys H' R' s' ht hy hq=>?_) fun us H8 s8 hus D hD=>?_
   ·walk_at "r"
    refine i_inT (s' _ _ ht) (s' _ _ hr7) (htr7.same s') ?_
    rw[if_pos rfl]
    walk_at "r"
    exact hq _ s'
   have x9:=s8.trans (same_upd (o:=.lst (us.map V.ref)) hD)
   have l9:StL (upd H8 D (.lst (us.map V.ref))) D (L.filter fun ys=>!decide (ys∈R0::R1)):=⟨us,upd_same,hus.same x9⟩
   have nD:D≠pt:=Ne.symm (ne_of_none (s8 _ _ u1) hD)
   generalize upd H8 D (.lst (us.map V.ref))=H9 at x9 l9⊢
   obtain⟨tl9,hl9,htl9⟩:=id l9
   walk_at "r"
   refine⟨D,rfl,⟨_,SqL.of hl9⟩,?_⟩
   have lL':=List.length_filter_le (fun ys=>!decide (ys∈R0::R1)) L
   have r9:=u2.same x9
   refine filtC (f:=fun ys=>(R0::R1).any fun zs=>nearB ys zs) hl9 htl9 (by have:=wk6.lL;omega) (fun t ys H' R' s' ht hy hq=>?_) fun vs' H10 s10 hvs D2 hD2=>?_
   ·have hyo:StOk ns ms ys:=wk6.oL ys (List.mem_filter.mp hy).1
    walk_at "r"
    refine⟨t,pr,ys,R0::R1,rfl,s' _ _ ht,hyo.len,r9.same s',fun zs hz=>(wk6.oR zs hz).len,fun t' zs H3 s3 hz hn _=>?_,fun hn H3 s3=>?_⟩
    ·have e:((R0::R1).any fun zs=>nearB ys zs)=true:=List.any_eq_true.mpr ⟨zs,hz,hn⟩
     have:=hq _ (s'.trans s3)
     rw[e]at this
     walk_at "r"
     exact this
    ·have e:((R0::R1).any fun zs=>nearB ys zs)=false:=by
      rw[List.any_eq_false]
      intro zs hz
      rw[hn zs hz]
      decide
     have:=hq _ (s'.trans s3)
     rw[e]at this
     walk_at "r"
     exact this
   have x11:=x9.trans (s10.trans (same_upd (o:=.lst (vs'.map V.ref)) hD2))
   have x12:=s10.trans (same_upd (o:=.lst (vs'.map V.ref)) hD2)
   have nD2:D2≠pt:=Ne.symm (ne_of_none (s10 _ _ (x9 _ _ u1)) hD2)
   walk_at "r"
   have mem_f:∀{ys:List Int},ys∈(L.filter fun ys=>!decide (ys∈R0::R1)).filter (fun ys=>(R0::R1).any fun zs=>nearB ys zs)→ys∈(L.filter fun ys=>!decide (ys∈R0::R1)):=fun h=>(List.mem_filter.mp h).1
   refine⟨(L.filter fun ys=>!decide (ys∈R0::R1)).length,?_,D2,D,(L.filter fun ys=>!decide (ys∈R0::R1)).filter (fun ys=>(R0::R1).any fun zs=>nearB ys zs),L.filter fun ys=>!decide (ys∈R0::R1),rss++[R0::R1],rfl,?_⟩
   ·rcases wk6.me with⟨rfl,sub⟩|rfl
    ·exact filt_lt (sub R0 List.mem_cons_self) (by simp)
    ·omega
   ·have lt:(L.filter fun ys=>!decide (ys∈R0::R1)).length<m:=by
     rcases wk6.me with⟨rfl,sub⟩|rfl
     ·exact filt_lt (sub R0 List.mem_cons_self) (by simp)
     ·omega
    refine⟨u5.trans x11,wk6.ft,⟨vs',upd_same,hvs.same x12⟩,l9.same x12,⟨rs++[pr],x11 _ _ u1,by simp[g2],fun x hx=>?_,fun i x yss e1 e2=>(u4 i x yss e1 e2).same x11⟩,nD2,nD,fun ys hy=>wk6.oL ys (List.mem_filter.mp (mem_f hy)).1,fun ys hy=>wk6.oL ys (List.mem_filter.mp hy).1,by have:=wk6.lL;omega,?_,fun yss hy=>?_,fun k hk=>?_,?_,?_,.inl ⟨rfl,fun ys hy=>mem_f hy⟩⟩
    ·rcases List.mem_append.mp hx with hx|hx
     ·exact g3 x hx
     ·rw[List.mem_singleton]at hx
      rw[hx];exact wk6.n1
    ·have:=List.length_filter_le (fun ys=>(R0::R1).any fun zs=>nearB ys zs) (L.filter fun ys=>!decide (ys∈R0::R1))
     have:=wk6.lL
     omega
    ·rcases List.mem_append.mp hy with hy|hy
     ·exact wk6.ok yss hy
     ·rw[List.mem_singleton]at hy
      rw[hy];exact wk6.oR
    ·rcases Nat.lt_or_ge k rss.length with z|z
     ·rw[List.getElem?_append_left z]
      exact wk6.e k z
     ·have ek:k=rss.length:=by rw[List.length_append]at hk;simp at hk;omega
      subst ek
      rw[List.getElem?_append_right (Nat.le_refl _),Nat.sub_self,wk6.e2]
      rfl
    ·rw[show(rss++[R0::R1]).length=rss.length+1 by simp]
     show(List.filter _ _,List.filter _ _)=_
     rw[wk6.e2]
    ·have:=wk6.le
     rw[List.length_append]
     show rss.length+1+_≤_
     omega
end
end K57
namespace K57
open PySem L2
local macro_rules| `(tactic|walk_at "s")=> `(tactic|first|(with_reducible refine i_seq ?_)|(with_reducible refine i_asg ?_)|(with_reducible refine i_ret ?_)|(with_reducible refine i_if ?_)|(with_reducible refine i_next ?_)|(with_reducible refine i_drop ?_)|((with_reducible refine' i_var ?k1 ?_);(case k1=>exact rfl))|(with_reducible refine i_tC ?_)|(with_reducible refine i_op ?_)|(with_reducible refine i_un ?_)|(with_reducible refine i_rI0 ?_)|(with_reducible refine i_rU ?_)|((with_reducible refine' i_rEq ?k1 ?_);(case k1=>exact rfl))|((with_reducible refine' i_rNe ?k1 ?_);(case k1=>exact rfl))|(with_reducible refine i_test ?_)|(with_reducible refine i_tB ?_)|(with_reducible refine i_bl ?_)|(with_reducible refine i_int ?_)|(with_reducible refine i_and ?_)|(with_reducible refine i_or ?_)|(with_reducible refine i_not ?_)|(with_reducible refine i_andV ?_)|(with_reducible refine i_orV ?_)|(with_reducible refine i_notV ?_)|(with_reducible refine i_isN ?_)|(with_reducible refine i_notN ?_)|(with_reducible refine i_ifE ?_)|(with_reducible refine i_name ?_)|(with_reducible refine i_cons ?_)|(with_reducible refine i_nil ?_)|(with_reducible refine i_cb ?_)|(with_reducible refine i_call ?_)|(with_reducible refine i_tup ?_)|(with_reducible refine i_lst ?_)|(with_reducible refine i_gsub ?_)|(with_reducible refine i_gcons ?_)|(with_reducible refine i_gnil ?_)|(with_reducible refine i_yes ?_)|(with_reducible refine i_slice ?_)|(with_reducible refine i_nopart ?_)|(with_reducible refine i_part ?_)|(with_reducible refine i_abs ?_)|((with_reducible refine' i_ixL ?k1 ?k2 ?_);(case k1=>first|exact SqL.of (by assumption)|assumption|exact SqL.of upd_same);(case k2=>exact rfl))|((with_reducible refine' i_ixT ?k1 ?k2 ?_);(case k1=>first|exact SqT.of (by assumption)|assumption|exact SqT.of upd_same);(case k2=>exact rfl))|((with_reducible refine' i_setL ?k1 ?k2 ?_);(case k1=>first|assumption|exact upd_same);(case k2=>exact rfl))|((with_reducible refine' i_gtup ?k1 ?k2 ?_);(case k1=>first|exact SqT.of (by assumption)|assumption|exact SqT.of upd_same);(case k2=>exact rfl))|((with_reducible refine' i_len ?k1 ?_);(case k1=>first|exact SqL.of (by assumption)|assumption|exact SqL.of upd_same))|((with_reducible refine' i_lenT ?k1 ?_);(case k1=>first|exact SqT.of (by assumption)|assumption|exact SqT.of upd_same))|((with_reducible refine' i_list ?k1 ?_);(case k1=>first|exact SqL.of (by assumption)|assumption|exact SqL.of upd_same))|((with_reducible refine' i_slL ?k1 ?_);(case k1=>first|exact SqL.of (by assumption)|assumption|exact SqL.of upd_same))|((with_reducible refine' i_isi ?k1 ?k2 ?_);(case k1=>assumption);(case k2=>decide))|((with_reducible refine i_rI ?k1 ?_);(case k1=>first|(show(0:Int)<_;decide)|(show CPow _ _;exact⟨by decide,by decide,by decide⟩)|(show CDiv _ _;exact⟨by decide,by decide⟩)|(show CMul _ _;exact .inr ⟨by decide,by decide⟩)|(show CMul _ _;exact .inl ⟨by decide,by decide⟩)|(show(0:Int)<_;omega)|(show CDiv _ _;exact⟨by omega,by omega⟩)|(show CMul _ _;exact .inr ⟨by omega,by omega⟩)|(show CMul _ _;exact .inl ⟨by omega,by omega⟩)))|(with_reducible refine i_comp ?_)|(with_reducible refine i_zip ?_)|(with_reducible refine i_itL ?_)|(with_reducible refine i_itT ?_)|(with_reducible refine i_rng1 ?_)|(with_reducible refine i_bm ?_)|(with_reducible refine i_for ?_)|(with_reducible refine i_min2 ?_)|(with_reducible refine i_max2 ?_)|(with_reducible refine i_rng2 ?_)|(with_reducible refine i_intB ?_)|(with_reducible refine i_rev ?_)|(with_reducible refine i_rngB ?_)|(with_reducible refine i_itS ?_)|(with_reducible refine i_inStr ?_)|(with_reducible refine i_find ?_)|(with_reducible refine i_itE ?_)|(with_reducible refine i_comp3 ?_)|(with_reducible refine i_bm0 ?_)|(with_reducible refine i_par ?_)|(with_reducible refine i_two ?_)|((with_reducible refine' i_aug ?k1 ?_);(case k1=>exact rfl))|(with_reducible refine i_ip ?_)|(with_reducible refine i_min3 ?_))| `(tactic|walk_at "r")=> `(tactic|repeat walk_at "s")
section
variable{P:Program}{w:World}{K:W.Frag}{mg:Str→Option Value}{base:Heap}
noncomputable def oV:Option Int→V
 |none=>.non
 |some i=>.int i
noncomputable def hgI(S:List (List Int))(g y:List Int):Option Int:=(hgt S g y).map fun(n:Nat)=>(n:Int)
theorem stages_few{ns ms:List Int}{slip:Int}(fit:Fit5 ns ms slip):(stagesI ns ms slip).length≤1000:=by
 obtain⟨h12,c1,c2,c3,c4⟩:=fit
 unfold stagesI
 rw[List.length_map]
 have q1:=cnt_split ns ms
 have q2:=cnt_split ms ns
 rw[cntB_symm ms ns]at q2
 exact stagesOf_len (by omega) (by omega)
theorem rgs_some{ns ms:List Int}{slip:Int}{rss:List (List (List Int))}(r:Rgs ns ms slip rss){h:Nat}{yss:List (List Int)}{y:List Int}(e:rss[h]?=some yss)(m:y∈yss):hgI (stagesI ns ms slip) (stOf ms ns ms) y=some (h:Int):=by
 have hl:h<rss.length:=(List.getElem?_eq_some_iff.mp e).1
 rw[r.e h hl]at e
 cases e
 unfold hgI
 rw[hgt_some m]
 rfl
theorem rgs_none{ns ms:List Int}{slip:Int}{rss:List (List (List Int))}(r:Rgs ns ms slip rss){y:List Int}(n:∀yss∈rss,y∉yss):hgI (stagesI ns ms slip) (stOf ms ns ms) y=none:=by
 unfold hgI
 rw[hgt_none]
 ·rfl
 ·intro i
  rcases Nat.lt_or_ge i rss.length with q|q
  ·exact n _ (List.mem_of_getElem? (r.e i q))
  ·have:=ring_nil r.nil (i - rss.length)
   rw[show rss.length+(i - rss.length)=i by omega]at this
   rw[this]
   simp
noncomputable def spFewest(K:W.Frag):Sp:=fun vs H Q _=>∃(p q:Addr) (ns ms:List Int) (slip:Int),vs=[.ref p,.ref q,.int slip]∧Two2 K H p q ns ms∧Fit5 ns ms slip∧
 ∀H',Same H H'→Q (oV (hgI (stagesI ns ms slip) (stOf ms ns ms) (stOf ns ns ms))) H'
abbrev sFewest:Stmt:=top 24
theorem scFewest:FnScope ["start","goal","slip"] ["start","goal","slip"] (defScope sFewest):=⟨rfl,rfl,rfl,by decide+kernel,rfl,by decide+kernel,by decide+kernel⟩
theorem ok_fewest{f:Addr}{fd:FuncData}(F:Fun K "fewest" "fewest" sFewest f fd)(T:BltM mg)(c_rings:Cal P w K mg base "rings" 5 ["start","goal","slip"] (spRings K))(c_stage_of:Cal P w K mg base "stage_of" 3 ["boat","start","goal"] (spStageOf K))(c_height_of:Cal P w K mg base "height_of" 1 ["stage","told"] spHeightOf):FnOk P w K mg base CX0 6 f fd ["start","goal","slip"] (spFewest K):=by
 refine F.ok scFewest (fun vs H Q E h=>?_) (fun cdv A outer s H vs Q E hr h=>?_)
 ·obtain⟨p,q,ns,ms,slip,rfl,_⟩:=h
  rfl
 ·obtain⟨p,q,ns,ms,slip,rfl,tw,fit,k0⟩:=h
  refine⟨_,(pss_one (ps_ret (pe_callC c_height_of (hr.mono (by omega)) (by rfl) (pa_cons (pe_callC c_stage_of (hr.mono (by omega)) (by rfl) (pa_cons (pv 0) (pa_cons (pv 0) (pa_cons (pv 1) pa_nil)))) (pa_cons (pe_callC c_rings (hr.mono (by omega)) (by rfl) (pa_cons (pv 0) (pa_cons (pv 1) (pa_cons (pv 2) pa_nil)))) pa_nil))))),?_⟩
  walk_at "r"
  refine⟨p,p,q,ns,ns,ms,rfl,tw.1,tw.2.2.1,tw,fun t H1 s1 ht=>?_⟩
  walk_at "r"
  refine⟨p,q,ns,ms,slip,rfl,tw.same s1,fit,fun l H2 rss s2 rl rgs=>?_⟩
  walk_at "r"
  refine⟨t,l,_,rss,rfl,s2 _ _ ht,rl,fun h yss H3 s3 e m=>?_,fun n H3 s3=>?_⟩
  ·have:=k0 _ (s1.trans (s2.trans s3))
   rw[rgs_some rgs e m]at this
   exact this
  ·have:=k0 _ (s1.trans (s2.trans s3))
   rw[rgs_none rgs n]at this
   exact this
end
end K57
namespace K57
open PySem L2
local macro_rules| `(tactic|walk_at "s")=> `(tactic|first|(with_reducible refine i_seq ?_)|(with_reducible refine i_asg ?_)|(with_reducible refine i_ret ?_)|(with_reducible refine i_if ?_)|(with_reducible refine i_next ?_)|(with_reducible refine i_drop ?_)|((with_reducible refine' i_var ?k1 ?_);(case k1=>exact rfl))|(with_reducible refine i_tC ?_)|(with_reducible refine i_op ?_)|(with_reducible refine i_un ?_)|(with_reducible refine i_rI0 ?_)|(with_reducible refine i_rU ?_)|((with_reducible refine' i_rEq ?k1 ?_);(case k1=>exact rfl))|((with_reducible refine' i_rNe ?k1 ?_);(case k1=>exact rfl))|(with_reducible refine i_test ?_)|(with_reducible refine i_tB ?_)|(with_reducible refine i_bl ?_)|(with_reducible refine i_int ?_)|(with_reducible refine i_and ?_)|(with_reducible refine i_or ?_)|(with_reducible refine i_not ?_)|(with_reducible refine i_andV ?_)|(with_reducible refine i_orV ?_)|(with_reducible refine i_notV ?_)|(with_reducible refine i_isN ?_)|(with_reducible refine i_notN ?_)|(with_reducible refine i_ifE ?_)|(with_reducible refine i_name ?_)|(with_reducible refine i_cons ?_)|(with_reducible refine i_nil ?_)|(with_reducible refine i_cb ?_)|(with_reducible refine i_call ?_)|(with_reducible refine i_tup ?_)|(with_reducible refine i_lst ?_)|(with_reducible refine i_gsub ?_)|(with_reducible refine i_gcons ?_)|(with_reducible refine i_gnil ?_)|(with_reducible refine i_yes ?_)|(with_reducible refine i_slice ?_)|(with_reducible refine i_nopart ?_)|(with_reducible refine i_part ?_)|(with_reducible refine i_abs ?_)|((with_reducible refine' i_ixL ?k1 ?k2 ?_);(case k1=>first|exact SqL.of (by assumption)|assumption|exact SqL.of upd_same);(case k2=>exact rfl))|((with_reducible refine' i_ixT ?k1 ?k2 ?_);(case k1=>first|exact SqT.of (by assumption)|assumption|exact SqT.of upd_same);(case k2=>exact rfl))|((with_reducible refine' i_setL ?k1 ?k2 ?_);(case k1=>first|assumption|exact upd_same);(case k2=>exact rfl))|((with_reducible refine' i_gtup ?k1 ?k2 ?_);(case k1=>first|exact SqT.of (by assumption)|assumption|exact SqT.of upd_same);(case k2=>exact rfl))|((with_reducible refine' i_len ?k1 ?_);(case k1=>first|exact SqL.of (by assumption)|assumption|exact SqL.of upd_same))|((with_reducible refine' i_lenT ?k1 ?_);(case k1=>first|exact SqT.of (by assumption)|assumption|exact SqT.of upd_same))|((with_reducible refine' i_list ?k1 ?_);(case k1=>first|exact SqL.of (by assumption)|assumption|exact SqL.of upd_same))|((with_reducible refine' i_slL ?k1 ?_);(case k1=>first|exact SqL.of (by assumption)|assumption|exact SqL.of upd_same))|((with_reducible refine' i_isi ?k1 ?k2 ?_);(case k1=>assumption);(case k2=>decide))|((with_reducible refine i_rI ?k1 ?_);(case k1=>first|(show(0:Int)<_;decide)|(show CPow _ _;exact⟨by decide,by decide,by decide⟩)|(show CDiv _ _;exact⟨by decide,by decide⟩)|(show CMul _ _;exact .inr ⟨by decide,by decide⟩)|(show CMul _ _;exact .inl ⟨by decide,by decide⟩)|(show(0:Int)<_;omega)|(show CDiv _ _;exact⟨by omega,by omega⟩)|(show CMul _ _;exact .inr ⟨by omega,by omega⟩)|(show CMul _ _;exact .inl ⟨by omega,by omega⟩)))|(with_reducible refine i_comp ?_)|(with_reducible refine i_zip ?_)|(with_reducible refine i_itL ?_)|(with_reducible refine i_itT ?_)|(with_reducible refine i_rng1 ?_)|(with_reducible refine i_bm ?_)|(with_reducible refine i_for ?_)|(with_reducible refine i_min2 ?_)|(with_reducible refine i_max2 ?_)|(with_reducible refine i_rng2 ?_)|(with_reducible refine i_intB ?_)|(with_reducible refine i_rev ?_)|(with_reducible refine i_rngB ?_)|(with_reducible refine i_itS ?_)|(with_reducible refine i_inStr ?_)|(with_reducible refine i_find ?_)|(with_reducible refine i_itE ?_)|(with_reducible refine i_comp3 ?_)|(with_reducible refine i_bm0 ?_))| `(tactic|walk_at "r")=> `(tactic|repeat walk_at "s")
noncomputable def low(a b:Nat):Nat×Nat:=(a / Nat.gcd a b,b / Nat.gcd a b)
noncomputable def pl(x y:Nat×Nat):Nat×Nat:=low (x.1*y.2+y.1*x.2) (x.2*y.2)
noncomputable def totl(l:List (Nat×Nat)):Nat×Nat:=l.foldl pl (0,1)
theorem low_le1(a b:Nat):(low a b).1≤a:=Nat.div_le_self _ _
theorem low_le2(a b:Nat):(low a b).2≤b:=Nat.div_le_self _ _
theorem low_pos{a b:Nat}(h:0<b):0<(low a b).2:=Nat.div_pos (Nat.gcd_le_right _ h) (Nat.gcd_pos_of_pos_right _ h)
noncomputable def Cn(p:Nat×Nat):Prop:=Nat.Coprime p.1 p.2∧0<p.2
theorem low_cn{a b:Nat}(h:0<b):Cn (low a b):=⟨Nat.coprime_div_gcd_div_gcd (Nat.gcd_pos_of_pos_right _ h),low_pos h⟩
theorem pl_pos{x y:Nat×Nat}(h1:0<x.2)(h2:0<y.2):0<(pl x y).2:=low_pos (Nat.mul_pos h1 h2)
theorem totl_snoc(l:List (Nat×Nat))(x:Nat×Nat):totl (l++[x])=pl (totl l) x:=by
 unfold totl
 rw[List.foldl_append]
 rfl
section
variable{P:Program}{w:World}{K:W.Frag}{mg:Str→Option Value}{base:Heap}
noncomputable def inL(lo hi x:Int):Bool:=decide (lo≤x) && decide (x<hi)
theorem in_chainL{σ:St}{H:Hp}{Q:VK}{ta tb tc:TE}{lo hi x:Int}(h1:∀Q',Q' (.int lo) H→ta σ H Q')(h2:∀Q',Q' (.int x) H→tb σ H Q')(h3:∀Q',Q' (.int hi) H→tc σ H Q')(q:Q (.bl (inL lo hi x)) H):
  tChain (rI0 fun i j=>.bl (decide (i≤j))) (rI0 fun i j=>.bl (decide (i<j))) ta tb tc σ H Q:=by
 refine i_chain (h1 _ (h2 _ (i_rI0 (i_bl ?_))))
 unfold inL at q
 cases h:decide (lo≤x)with
 |true=>
  rw[h,Bool.true_and]at q
  exact iteT (h3 _ (i_rI0 q))
 |false=>
  rw[h,Bool.false_and]at q
  exact iteF q
theorem inB_iff{lo hi x:Int}:inB lo hi x=true↔lo≤x∧x≤hi:=by unfold inB;rw[Bool.and_eq_true,decide_eq_true_iff,decide_eq_true_iff]
theorem inL_iff{lo hi x:Int}:inL lo hi x=true↔lo≤x∧x<hi:=by unfold inL;rw[Bool.and_eq_true,decide_eq_true_iff,decide_eq_true_iff]
noncomputable def wys(m t:Int):Nat:=if 0≤t then bin m.toNat t.toNat else 0
theorem wys_nat(n k:Nat):wys (n:Int) (k:Int)=bin n k:=by unfold wys;rw[if_pos (by omega),Int.toNat_natCast,Int.toNat_natCast]
noncomputable def spWays:Sp:=fun vs H Q _=>∃(m t:Int),vs=[.int m,.int t]∧0≤m∧m≤108∧(0≤t→t≤2 ^ 60)∧Q (.int (wys m t:Nat)) H
abbrev sWays:Stmt:=top 26
theorem scWays:FnScope ["many","taken","told","at"] ["many","taken"] (defScope sWays):=⟨rfl,rfl,rfl,by decide+kernel,rfl,by decide+kernel,by decide+kernel⟩
theorem ok_ways{f:Addr}{fd:FuncData}(F:Fun K "ways" "ways" sWays f fd)(T:BltM mg):FnOk P w K mg base CX0 1 f fd ["many","taken"] spWays:=by
 refine F.ok scWays (fun vs H Q E h=>?_) (fun cdv A outer s H vs Q E hr h=>?_)
 ·obtain⟨m,t,rfl,_⟩:=h
  rfl
 ·obtain⟨m,t,rfl,m0,m1,t1,k⟩:=h
  refine⟨_,(pss_cons (ps_if (pt_not (pt_chain op_le op_le pe_int (pv 1) (pv 0))) (pss_one (ps_ret pe_int)) pss_nil)
   (pss_cons (ps_set (i:=2) scWays.nd rfl (Or.inl rfl) pe_int)
   (pss_cons (ps_for PassesOwn.never rfl (pi_range1 (by rfl) T.z_range (pa_cons (pv 1) pa_nil)) (pg_name (i:=3) scWays.nd rfl (Or.inl rfl)) (pss_one (ps_set (i:=2) scWays.nd rfl (Or.inl rfl) (pe_op op_fdiv (pe_op op_mul (pv 2) (pe_op op_sub (pv 0) (pv 3))) (pe_op op_add (pv 3) pe_int)))))
   (pss_one (ps_ret (pv 2)))))),?_⟩
  walk_at "r"
  refine in_chain (lo:=0) (x:=t) (hi:=m) (fun _ q=>i_tC q) (fun _ q=>i_var rfl q) (fun _ q=>i_var rfl q) ?_
  walk_at "r"
  cases hb:inB 0 m t with
  |false=>
   refine iteT ?_
   walk_at "r"
   have e:wys m t=0:=by
    unfold wys
    by_cases h1:0≤t
    ·rw[if_pos h1]
     refine bin_none _ _ ?_
     have h2:¬t≤m:=fun h2=>by rw[inB_iff.mpr ⟨h1,h2⟩]at hb;cases hb
     omega
    ·exact if_neg h1
   rw[e]at k
   exact k
  |true=>
   obtain⟨h1,h2⟩:=inB_iff.mp hb
   refine iteF ?_
   walk_at "r"
   refine⟨t,rfl,by omega,by omega,?_⟩
   refine forW (fun i σ' H'=>(∃x,σ'=[some (.int m),some (.int t),some (.int (bin m.toNat i:Nat)),x])∧H'=H) t.toNat ⟨⟨none,by rw[bin_zero];rfl⟩,rfl⟩ ?_ ?_
   ·rintro σ' H' ⟨⟨x,rfl⟩,rfl⟩
    refine⟨Nat.le_refl _,?_⟩
    walk_at "r"
    unfold wys at k
    rw[if_pos h1]at k
    exact k
   ·rintro i σ' H' hi ⟨⟨x,rfl⟩,rfl⟩
    refine⟨hi,?_⟩
    rintro x' G ⟨rfl,rfl⟩
    rw[Int.zero_add]
    walk_at "r"
    refine⟨⟨some (.int i),?_⟩,rfl⟩
    have e:((bin m.toNat i:Nat):Int)*(m - i) / ((i:Int)+1)=((bin m.toNat (i+1):Nat):Int):=by
     have q:=bin_step m.toNat i
     have q':((bin m.toNat i:Nat):Int)*(m - i)=((bin m.toNat (i+1):Nat):Int)*((i:Int)+1):=by
      have z:((m.toNat - i:Nat):Int)=m - i:=by omega
      rw[←z]
      have:=congrArg (fun n:Nat=>(n:Int)) q
      simp only[Int.natCast_mul,Int.natCast_add,Int.natCast_one]at this
      exact this.symm
     rw[q']
     exact Int.mul_ediv_cancel _ (by omega)
    rw[←e]
    rfl
theorem gcd_step(m n:Nat):Nat.gcd n (m % n)=Nat.gcd m n:=by
 rw[Nat.gcd_comm m n,Nat.gcd_rec n m,Nat.gcd_comm]
theorem absN(t:Nat):(if(t:Int)<0 then -(t:Int)else(t:Int))=(t:Int):=by split<;>omega
noncomputable def spDiv:Sp:=fun vs H Q _=>∃(a b:Nat),vs=[.int a,.int b]∧Q (.int (Nat.gcd a b:Nat)) H
abbrev sDivisor:Stmt:=top 36
theorem scDivisor:FnScope ["one","other"] ["one","other"] (defScope sDivisor):=⟨rfl,rfl,rfl,by decide+kernel,rfl,by decide+kernel,by decide+kernel⟩
theorem ok_divisor{f:Addr}{fd:FuncData}(F:Fun K "divisor" "divisor" sDivisor f fd):FnOk P w K mg base CX0 1 f fd ["one","other"] spDiv:=by
 refine F.ok scDivisor (fun vs H Q E h=>?_) (fun cdv A outer s H vs Q E hr h=>?_)
 ·obtain⟨a,b,rfl,_⟩:=h
  rfl
 ·obtain⟨a,b,rfl,k⟩:=h
  refine⟨_,(pss_cons (ps_while PassesOwn.never (pt_cmpR op_gt (pv 1) pe_int (nomark _)) (pss_one (ps_par (i:=0) (j:=1) rfl scDivisor.nd rfl rfl (by decide) rfl rfl (pa_cons (pv 1) (pa_cons (pe_op op_mod (pv 0) (pv 1)) pa_nil)) (by rfl))))
   (pss_one (ps_ret (pv 0)))),?_⟩
  refine while_by (fun σ H'=>∃m n:Nat,σ=[some (.int m),some (.int n)]∧H'=H∧Nat.gcd m n=Nat.gcd a b)
   (fun σ _=>match σ with|[_,some (.int y)]=>y.toNat|_=>0) ⟨a,b,rfl,rfl,rfl⟩ ?_ ?_
  ·rintro σ H' ⟨m,n,rfl,rfl,e⟩
   refine⟨_,rfl,_,_,rfl,rfl,_,rfl,?_⟩
   refine ite2 (fun h=>?_) (fun h=>?_)
   ·have hn:0<n:=by
     have:=of_decide_eq_true h
     omega
    refine⟨_,rfl,_,rfl,_,rfl,_,_,rfl,rfl,(by show(0:Int)<n;omega),_,_,rfl,⟨n,m % n,rfl,rfl,by rw[gcd_step];exact e⟩,?_⟩
    show((m:Int) % (n:Int)).toNat<(n:Int).toNat
    have h1:(m:Int) % (n:Int)<n:=Int.emod_lt_of_pos _ (by omega)
    omega
   ·have hn:n=0:=by
     have:¬((0:Int)<n):=fun z=>h (decide_eq_true z)
     omega
    subst hn
    refine⟨_,rfl,?_⟩
    rw[Nat.gcd_zero_right]at e
    rw[e]
    exact k
  ·rintro σ H' Q1 Q2 hq ⟨v,e,i,j,e1,e2,c,e3,q⟩
   exact⟨v,e,i,j,e1,e2,c,e3,hq _ _ q⟩
theorem cdivN{i:Int}{n:Nat}(h:0<n)(h2:n<2 ^ 8000):CDivB i (n:Int):=⟨by omega,Nat.lt_trans (log2_lt_of (k:=8000) h2 (by decide)) (by decide)⟩
theorem cmulN{i j:Nat}(h:i<2 ^ 90000)(h2:j<2 ^ 90000):CMulB (i:Int) (j:Int):=⟨Nat.lt_trans (log2_lt_of (k:=90000) h (by decide)) (by decide),Nat.lt_trans (log2_lt_of (k:=90000) h2 (by decide)) (by decide)⟩
noncomputable def RX(H:Hp)(Q:VK)(v:Nat×Nat):Prop:=∀p H',Same H H'→H' p=some (.tup [.int v.1,.int v.2])→Q (.ref p) H'
theorem RX.from{H H':Hp}{Q:VK}{v:Nat×Nat}(h:RX H Q v)(s:Same H H'):RX H' Q v:=fun p H2 s2 e=>h p H2 (s.trans s2) e
noncomputable def spLow:Sp:=fun vs H Q _=>∃(t b:Nat),vs=[.int t,.int b]∧0<b∧b<2 ^ 8000∧RX H Q (low t b)
abbrev sLowest:Stmt:=top 37
theorem scLowest:FnScope ["top","bottom","shared"] ["top","bottom"] (defScope sLowest):=⟨rfl,rfl,rfl,by decide+kernel,rfl,by decide+kernel,by decide+kernel⟩
theorem ok_lowest{f:Addr}{fd:FuncData}(F:Fun K "lowest" "lowest" sLowest f fd)(T:BltM mg)(c_divisor:Cal P w K mg base "divisor" 1 ["one","other"] spDiv):FnOk P w K mg base CX0 2 f fd ["top","bottom"] spLow:=by
 refine F.ok scLowest (fun vs H Q E h=>?_) (fun cdv A outer s H vs Q E hr h=>?_)
 ·obtain⟨a,b,rfl,_⟩:=h
  rfl
 ·obtain⟨t,b,rfl,hb,hb2,k⟩:=h
  refine⟨_,(pss_cons (ps_set (i:=2) scLowest.nd rfl (Or.inl rfl) (pe_callC c_divisor (hr.mono (by omega)) (by rfl) (pa_cons (pe_callB call_absR (by rfl) T.z_abs bb_abs (pa_cons (pv 0) pa_nil)) (pa_cons (pv 1) pa_nil))))
   (pss_one (ps_ret (pe_tup (pa_cons (pe_op op_fdivB (pv 0) (pv 2)) (pa_cons (pe_op op_fdivB (pv 1) (pv 2)) pa_nil)))))),?_⟩
  have g1:0<Nat.gcd t b:=Nat.gcd_pos_of_pos_right _ hb
  have g2:Nat.gcd t b≤b:=Nat.gcd_le_right _ hb
  walk_at "r"
  refine⟨t,b,(by rw[absN];rfl),?_⟩
  walk_at "r"
  refine i_rI (cdivN g1 (Nat.lt_of_le_of_lt g2 hb2)) ?_
  walk_at "r"
  refine i_rI (cdivN g1 (Nat.lt_of_le_of_lt g2 hb2)) ?_
  walk_at "r"
  refine⟨by show 2≤sizeLine;decide,fun p hp=>k p _ (same_upd hp) upd_same⟩
noncomputable def spPlus:Sp:=fun vs H Q _=>∃(p q:Addr) (a b c d:Nat),vs=[.ref p,.ref q]∧H p=some (.tup [.int a,.int b])∧H q=some (.tup [.int c,.int d])∧0<b∧0<d∧a<2 ^ 90000∧b<2 ^ 90000∧c<2 ^ 90000∧d<2 ^ 90000∧b*d<2 ^ 8000∧RX H Q (pl (a,b) (c,d))
abbrev sPlus:Stmt:=top 38
theorem scPlus:FnScope ["one","other","top","bottom","other_top","other_bottom"] ["one","other"] (defScope sPlus):=⟨rfl,rfl,rfl,by decide+kernel,rfl,by decide+kernel,by decide+kernel⟩
theorem ok_plus{f:Addr}{fd:FuncData}(F:Fun K "plus" "plus" sPlus f fd)(T:BltM mg)(c_lowest:Cal P w K mg base "lowest" 2 ["top","bottom"] spLow):FnOk P w K mg base CX0 3 f fd ["one","other"] spPlus:=by
 refine F.ok scPlus (fun vs H Q E h=>?_) (fun cdv A outer s H vs Q E hr h=>?_)
 ·obtain⟨p,q,a,b,c,d,rfl,_⟩:=h
  rfl
 ·obtain⟨p,q,a,b,c,d,rfl,hp,hq,b0,d0,a1,b1,c1,d1,bd,k⟩:=h
  refine⟨_,(pss_cons (ps_asg (pv 0) (pgT (K:=K) (n:=2) rfl rfl (pgs_cons (pg_name (i:=2) scPlus.nd rfl (Or.inl rfl)) (pgs_cons (pg_name (i:=3) scPlus.nd rfl (Or.inl rfl)) pgs_nil))))
   (pss_cons (ps_asg (pv 1) (pgT (K:=K) (n:=2) rfl rfl (pgs_cons (pg_name (i:=4) scPlus.nd rfl (Or.inl rfl)) (pgs_cons (pg_name (i:=5) scPlus.nd rfl (Or.inl rfl)) pgs_nil))))
   (pss_one (ps_ret (pe_callC c_lowest (hr.mono (by omega)) (by rfl) (pa_cons (pe_op op_add (pe_op op_mulB (pv 2) (pv 5)) (pe_op op_mulB (pv 4) (pv 3))) (pa_cons (pe_op op_mulB (pv 3) (pv 5)) pa_nil))))))),?_⟩
  walk_at "r"
  refine i_rI (cmulN a1 d1) ?_
  walk_at "r"
  refine i_rI (cmulN c1 b1) ?_
  walk_at "r"
  refine i_rI (cmulN b1 d1) ?_
  walk_at "r"
  exact⟨a*d+c*b,b*d,rfl,Nat.mul_pos b0 d0,bd,k⟩
end
section
variable{P:Program}{w:World}{K:W.Frag}{mg:Str→Option Value}{base:Heap}
theorem mapL{H1:Hp}{l:Addr}{ns:List Int}{te:TE}{g:Int→V}{fr:St}{Fin:List V→Hp→Prop}(hl:H1 l=some (.lst (ns.map V.int)))(le:ns.length≤100)
  (step:∀(x:Int) (H':Hp) (R:VK),Same H1 H'→(∀H3,Same H1 H3→R (g x) H3)→te (some (.int x)::fr) H' R) (fin:∀H',Same H1 H'→Fin (ns.map g) H'):CompT (Itl K l) (gName 0) tYes te Fin (none::fr) H1:=by
 refine compW (fun i ys σ' H'=>(∃x,σ'=x::fr)∧Same H1 H'∧ys=(ns.take i).map g) ns.length ⟨⟨none,rfl⟩,Same.refl _,rfl⟩ ?_ ?_
 ·rintro ys σ' H' ⟨_,s1,rfl⟩
  rw[List.take_length]
  exact⟨⟨_,SqL.of (s1 _ _ hl),by rw[List.length_map];omega⟩,fin H' s1⟩
 ·rintro i ys σ' H' hi ⟨⟨x0,rfl⟩,s1,rfl⟩
  have e2:ns[i]?=some ns[i]:=List.getElem?_eq_getElem hi
  refine⟨⟨_,.int ns[i],SqL.of (s1 _ _ hl),by rw[List.getElem?_map,e2];rfl⟩,lt_line (by rw[List.length_map,List.length_take];omega),?_⟩
  rintro x' G ⟨rfl,hy⟩
  have ex:=hy _ (SqL.of (s1 _ _ hl))
  rw[List.getElem?_map,e2]at ex
  cases ex
  refine i_name ?_
  refine i_yes ?_
  refine iteT ?_
  refine step _ _ _ s1 fun H3 s3=>nxt hi ⟨⟨_,rfl⟩,s3,?_⟩
  rw[List.take_succ,e2,List.map_append]
  rfl
theorem coll{J:It}{te:TE}{fr:St}{H1:Hp}{Fin:List V→Hp→Prop}(Rl:Hp→Prop)(Pv:V→Hp→Prop)(n:Nat)(le:n≤100)(r0:Rl H1)(stop:∀H',Rl H'→J.stop n H')(go:∀i H',i<n→Rl H'→J.go i H')
  (step:∀i x H' H2 (R:VK),i<n→Rl H'→J.yld i H' x H2→(∀v H3,Rl H3→(∀y,Pv y H'→Pv y H3)→Pv v H3→R v H3)→te (some x::fr) H2 R)
  (fin:∀ys H',Rl H'→ys.length=n→(∀y∈ys,Pv y H')→Fin ys H'):CompT J (gName 0) tYes te Fin (none::fr) H1:=by
 refine compW (fun i ys σ' H'=>(∃x,σ'=x::fr)∧Rl H'∧ys.length=i∧∀y∈ys,Pv y H') n ⟨⟨none,rfl⟩,r0,rfl,fun y h=>by cases h⟩ ?_ ?_
 ·rintro ys σ' H' ⟨_,s1,l1,p1⟩
  exact⟨stop H' s1,fin ys H' s1 l1 p1⟩
 ·rintro i ys σ' H' hi ⟨⟨x0,rfl⟩,s1,l1,p1⟩
  refine⟨go i H' hi s1,lt_line (by omega),?_⟩
  rintro x' G hy
  refine i_name ?_
  refine i_yes ?_
  refine iteT ?_
  refine step i _ H' G _ hi s1 hy fun v H3 s3 up pv=>nxt hi ⟨⟨_,rfl⟩,s3,by rw[List.length_append,l1];rfl,fun y hy=>?_⟩
  rcases List.mem_append.mp hy with h|h
  ·exact up y (p1 y h)
  ·rw[List.mem_singleton]at h
   rw[h];exact pv
noncomputable def flB(ns:List Int):Bool:=inB 1 8 ns.length && (ns.map (inB 1 12)).all id
abbrev sIsSize:Stmt:=top 40
theorem scIsSize:FnScope ["number"] ["number"] (defScope sIsSize):=⟨rfl,rfl,rfl,by decide+kernel,rfl,by decide+kernel,by decide+kernel⟩
theorem ok_is_size{f:Addr}{fd:FuncData}(F:Fun K "is_size" "is_size" sIsSize f fd)(T:BltM mg){tk:Tok}(hMost:mg "MOST_SLIP"=some (.int 12 tk)):FnOk P w K mg base CX0 1 f fd ["number"] (spIn 1 12):=by
 refine F.ok scIsSize (fun vs H Q E h=>?_) (fun cdv A outer s H vs Q E hr h=>?_)
 ·obtain⟨x,rfl,_⟩:=h
  rfl
 ·obtain⟨x,rfl,k⟩:=h
  refine⟨_,(pss_one (ps_ret (pe_chain op_le op_le pe_int (pv 0) (pe_glob (v:=.int 12) (by rfl) hMost ⟨_,rfl⟩)))),?_⟩
  refine i_ret ?_
  exact in_chain (fun _ q=>i_tC q) (fun _ q=>i_var rfl q) (fun _ q=>i_tC q) k
noncomputable def spNeedSizes:Sp:=fun vs H Q _=>∃(p:Addr) (ns:List Int),vs=[.ref p]∧H p=some (.lst (ns.map V.int))∧ns.length≤100∧flB ns=true∧∀H',Same H H'→Q .non H'
abbrev sNeedSizes:Stmt:=top 41
theorem scNeedSizes:FnScope ["sizes"] ["sizes"] (defScope sNeedSizes):=⟨rfl,rfl,rfl,by decide+kernel,rfl,by decide+kernel,by decide+kernel⟩
theorem nd_120_52:(["size"]:List Str).Nodup:=by decide+kernel
theorem S_120_52:CompScope ["sizes"] (defScope sNeedSizes) ({kind:=ScopeKind.function,names:=[(Str.ofString ".0",NameKind.local),(Str.ofString "size",NameKind.local),(Str.ofString "is_size",NameKind.globalImplicit)],isGenerator:=false,isCoroutine:=false,more:=[]:Scope}) (["size"]:List Str) ([]:List (Nat×Str)):=⟨by decide+kernel,by decide+kernel,by decide+kernel,by decide+kernel,by decide+kernel⟩
theorem ok_need_sizes{f:Addr}{fd:FuncData}(F:Fun K "need_sizes" "need_sizes" sNeedSizes f fd)(T:BltM mg){tk:Tok}(hBoats:mg "MOST_BOATS"=some (.int 8 tk))(c_is_size:Cal P w K mg base "is_size" 1 ["number"] (spIn 1 12)):FnOk P w K mg base CX0 2 f fd ["sizes"] spNeedSizes:=by
 refine F.ok scNeedSizes (fun vs H Q E h=>?_) (fun cdv A outer s H vs Q E hr h=>?_)
 ·obtain⟨p,ns,rfl,_⟩:=h
  rfl
 ·obtain⟨p,ns,rfl,hp,hl,hf,k0⟩:=h
  refine⟨_,(pss_one (ps_if ((pw_or (pt_not (pt_chain op_le op_le pe_int (pe_callB (cLen (K:=K) rfl) (by rfl) T.z_len bb_len (pa_cons (pv 0) pa_nil)) (pe_glob (v:=.int 8) (by rfl) hBoats ⟨_,rfl⟩))) (pw_or1 (pt_not (pt_val (pe_callB (cAll (K:=K) rfl rfl) (by rfl) T.z_all bb_all (pa_cons (pe_lcomp rfl S_120_52 (piL (K:=K) rfl (pv 0)) (by intro _ _ _ _ _;exact(pg_name (i:=0) nd_120_52 rfl (Or.inl rfl))) (by intro _ _ _ _ _;exact pts_nil) (by intro _ _ _ _ _;exact(pe_callC c_is_size (hr.mono (by omega)) (by rfl) (pa_cons (pv 0) pa_nil)))) pa_nil))))))).pt (pss_one ps_dead) pss_nil)),?_⟩
  unfold flB at hf
  rw[Bool.and_eq_true]at hf
  walk_at "r"
  refine in_chain (lo:=1) (x:=ns.length) (hi:=8) (fun _ q=>i_tC q) (fun _ q=>i_cb (i_cons (i_var rfl (i_nil (i_len (SqL.of hp) (by rw[List.length_map];exact q)))))) (fun _ q=>i_tC q) ?_
  rw[hf.1]
  walk_at "r"
  refine iteF ?_
  walk_at "r"
  refine⟨p,rfl,⟨_,SqL.of hp⟩,?_⟩
  refine mapL (g:=fun x=>.bl (inB 1 12 x)) hp hl (fun x H' R s1 q=>?_) fun H1 s1 D hD=>?_
  ·walk_at "r"
   exact⟨x,rfl,q _ s1⟩
  ·have s2:=s1.trans (same_upd (o:=.lst (ns.map fun x=>.bl (inB 1 12 x))) hD)
   walk_at "r"
   refine⟨D,ns.map (inB 1 12),rfl,SqL.of (by rw[List.map_map];exact upd_same),?_⟩
   rw[hf.2]
   walk_at "r"
   refine iteF ?_
   walk_at "r"
   exact k0 _ s2
noncomputable def feB(as bs:List Int):Bool:=flB as && (flB bs && !decide (bs.sum >as.sum))
noncomputable def spNeedFleets:Sp:=fun vs H Q _=>∃(p q:Addr) (as bs:List Int),vs=[.ref p,.ref q]∧H p=some (.lst (as.map V.int))∧H q=some (.lst (bs.map V.int))∧as.length≤100∧bs.length≤100∧feB as bs=true∧∀H',Same H H'→Q .non H'
abbrev sNeedFleets:Stmt:=top 42
theorem scNeedFleets:FnScope ["ahead","behind"] ["ahead","behind"] (defScope sNeedFleets):=⟨rfl,rfl,rfl,by decide+kernel,rfl,by decide+kernel,by decide+kernel⟩
theorem ok_need_fleets{f:Addr}{fd:FuncData}(F:Fun K "need_fleets" "need_fleets" sNeedFleets f fd)(T:BltM mg)(c_need_sizes:Cal P w K mg base "need_sizes" 2 ["sizes"] spNeedSizes):FnOk P w K mg base CX0 3 f fd ["ahead","behind"] spNeedFleets:=by
 refine F.ok scNeedFleets (fun vs H Q E h=>?_) (fun cdv A outer s H vs Q E hr h=>?_)
 ·obtain⟨p,q,as,bs,rfl,_⟩:=h
  rfl
 ·obtain⟨p,q,as,bs,rfl,hp,hq,l1,l2,hf,k⟩:=h
  refine⟨_,(pss_cons (ps_expr (pe_callC c_need_sizes (hr.mono (by omega)) (by rfl) (pa_cons (pv 0) pa_nil)))
   (pss_cons (ps_expr (pe_callC c_need_sizes (hr.mono (by omega)) (by rfl) (pa_cons (pv 1) pa_nil)))
   (pss_one (ps_if (pt_cmpR op_gt (pe_callB (cSum (K:=K) rfl rfl) (by rfl) T.z_sum bb_sum (pa_cons (pv 1) pa_nil)) (pe_callB (cSum (K:=K) rfl rfl) (by rfl) T.z_sum bb_sum (pa_cons (pv 0) pa_nil)) (nomark _)) (pss_one ps_dead) pss_nil)))),?_⟩
  unfold feB at hf
  rw[Bool.and_eq_true,Bool.and_eq_true]at hf
  obtain⟨h1,h2,h3⟩:=hf
  walk_at "r"
  refine⟨p,as,rfl,hp,l1,h1,fun H1 s1=>?_⟩
  walk_at "r"
  refine⟨q,bs,rfl,s1 _ _ hq,l2,h2,fun H2 s2'=>?_⟩
  have s2:=s1.trans s2'
  walk_at "r"
  refine i_sum (SqL.of (s2 _ _ hq)) ?_
  walk_at "r"
  refine i_sum (SqL.of (s2 _ _ hp)) ?_
  walk_at "r"
  rw[Bool.not_eq_true']at h3
  rw[h3]
  refine iteF ?_
  walk_at "r"
  exact k _ s2
noncomputable def spNeedPlace:Sp:=fun vs H Q _=>∃(p:Addr) (ns:List Int) (x:Int),vs=[.ref p,.int x]∧H p=some (.lst (ns.map V.int))∧inL 0 ns.length x=true∧Q .non H
abbrev sNeedPlace:Stmt:=top 43
theorem scNeedPlace:FnScope ["sizes","place"] ["sizes","place"] (defScope sNeedPlace):=⟨rfl,rfl,rfl,by decide+kernel,rfl,by decide+kernel,by decide+kernel⟩
theorem ok_need_place{f:Addr}{fd:FuncData}(F:Fun K "need_place" "need_place" sNeedPlace f fd)(T:BltM mg):FnOk P w K mg base CX0 1 f fd ["sizes","place"] spNeedPlace:=by
 refine F.ok scNeedPlace (fun vs H Q E h=>?_) (fun cdv A outer s H vs Q E hr h=>?_)
 ·obtain⟨p,ns,x,rfl,_⟩:=h
  rfl
 ·obtain⟨p,ns,x,rfl,hp,hi,k⟩:=h
  refine⟨_,(pss_one (ps_if (pt_not (pt_chain op_le op_lt pe_int (pv 1) (pe_callB (cLen (K:=K) rfl) (by rfl) T.z_len bb_len (pa_cons (pv 0) pa_nil)))) (pss_one ps_dead) pss_nil)),?_⟩
  walk_at "r"
  refine in_chainL (lo:=0) (x:=x) (hi:=ns.length) (fun _ q=>i_tC q) (fun _ q=>i_var rfl q) (fun _ q=>i_cb (i_cons (i_var rfl (i_nil (i_len (SqL.of hp) (by rw[List.length_map];exact q)))))) ?_
  rw[hi]
  walk_at "r"
  refine iteF ?_
  walk_at "r"
  exact k
theorem ix_of{ns:List Int}{i:Nat}{x:Int}(h:ns[i]?=some x):atI (ns.map V.int) (i:Int)=some (.int x):=atI_nat (by rw[List.getElem?_map,h];rfl)
end
theorem pow2_le{a b:Nat}(h:a≤b):2 ^ a≤2 ^ b:=Nat.pow_le_pow_right (by decide) h
theorem pow2_lt{a b:Nat}(h:a<b):2 ^ a<2 ^ b:=Nat.pow_lt_pow_right (by decide) h
theorem sum12:∀{ns:List Int},(∀v∈ns,1≤v∧v≤12)→0≤ns.sum∧ns.sum≤12*ns.length∧∀v∈ns,v≤ns.sum
 |[],_=>⟨Int.le_refl _,Int.le_refl _,fun v h=>by cases h⟩
 |x::ns,h=>by
  have h1:=h x List.mem_cons_self
  obtain⟨a,b,c⟩:=sum12 (ns:=ns) fun z hz=>h z (List.mem_cons_of_mem _ hz)
  rw[List.sum_cons]
  refine⟨by omega,by rw[List.length_cons];omega,fun v hv=>?_⟩
  rcases List.mem_cons.mp hv with rfl|hv
  ·omega
  ·have:=c v hv;omega
theorem flB_of{ns:List Int}(h:flB ns=true):1≤ns.length∧ns.length≤8∧∀v∈ns,1≤v∧v≤12:=by
 unfold flB at h
 rw[Bool.and_eq_true,inB_iff,List.all_eq_true]at h
 refine⟨by omega,by omega,fun v hv=>inB_iff.mp (h.2 _ (List.mem_map.mpr ⟨v,hv,rfl⟩))⟩
theorem wys_lt{m t:Int}(h:m≤108):wys m t<2 ^ 90000:=by
 unfold wys
 split
 ·exact Nat.lt_of_le_of_lt (bin_le _ _) (pow2_lt (by omega))
 ·exact Nat.pow_pos (by decide)
noncomputable def ch(S x size drawn mine:Int):Nat×Nat:=low (cb (x - mine).toNat (S - x - (drawn - mine)).toNat (size - drawn).toNat ((if size >x then size else x) / 2+1 - mine)) (bin (S - drawn).toNat (size - drawn).toNat)
noncomputable def fct(s r m x:Nat):Nat:=bin s x*bin r (m - x)
theorem sum_snoc(f:Nat→Nat)(k:Nat):((List.range (k+1)).map f).sum=((List.range k).map f).sum+f k:=by
 rw[List.range_succ,List.map_append,List.sum_append]
 simp
theorem smd_from(s r m t:Nat):∀k,smd s r m (t:Int) (t+k)=((List.range k).map fun j=>fct s r m (t+j)).sum
 |0=>smd_zero s r m _ t fun x hx=>by omega
 |k+1=>by
  show smd s r m (t:Int) (t+k)+(if(t:Int)≤((t+k:Nat):Int)then bin s (t+k)*bin r (m - (t+k))else 0)=_
  rw[smd_from s r m t k,if_pos (by omega),sum_snoc]
  rfl
theorem smd_neg(s r m:Nat){t:Int}(h:t≤0):∀k,smd s r m t k=smd s r m 0 k
 |0=>rfl
 |k+1=>by
  show smd s r m t k+(if t≤(k:Int)then _ else 0)=smd s r m 0 k+(if(0:Int)≤(k:Int)then _ else 0)
  rw[smd_neg s r m h k,if_pos (by omega),if_pos (by omega)]
theorem good_sum{own str left:Nat}{t L:Int}(hL:L=if(0:Int) >t then 0 else t){n:Nat}(hn:n=((left:Int)+1 - L).toNat):
  ((List.range n).map fun(j:Nat)=>wys own (L+(j:Int))*wys str ((left:Int) - (L+(j:Int)))).sum=cb own str left t:=by
 have L0:0≤L:=by rw[hL];split<;>omega
 obtain⟨l,rfl⟩:∃l:Nat,L=l:=⟨L.toNat,by omega⟩
 have e1:cb own str left t=smd own str left (l:Int) (left+1):=by
  rw[cb_smd]
  rcases Int.lt_or_le t 0 with q|q
  ·rw[if_pos q]at hL
   rw[smd_neg own str left (by omega),hL]
  ·rw[if_neg (by omega)]at hL
   rw[hL]
 rw[e1]
 have cg:∀j:Nat,j<n→wys own ((l:Int)+(j:Int))*wys str ((left:Int) - ((l:Int)+(j:Int)))=fct own str left (l+j):=by
  intro j hj
  unfold wys fct
  rw[if_pos (by omega),if_pos (by omega)]
  rw[show((own:Int)).toNat=own by omega,show((str:Int)).toNat=str by omega,show((l:Int)+(j:Int)).toNat=l+j by omega,show((left:Int) - ((l:Int)+(j:Int))).toNat=left - (l+j) by omega]
 rw[List.map_congr_left fun j hj=>cg j (List.mem_range.mp hj)]
 rcases Nat.lt_or_ge (left+1) l with q|q
 ·have:n=0:=by omega
  rw[this,smd_zero own str left _ (left+1) fun x hx=>by omega]
  rfl
 ·rw[←smd_from own str left l n,show l+n=left+1 by omega]
theorem ch_le{S x size drawn mine:Int}(h1:0≤mine)(h2:mine≤x)(h3:0≤drawn - mine)(h4:drawn - mine≤S - x)(h5:S≤96):(ch S x size drawn mine).1≤2 ^ 96∧(ch S x size drawn mine).2≤2 ^ 96:=by
 constructor
 ·refine Nat.le_trans (low_le1 _ _) (Nat.le_trans (cb_le _ _ _ _) (Nat.le_trans (bin_le _ _) (pow2_le ?_)))
  omega
 ·refine Nat.le_trans (low_le2 _ _) (Nat.le_trans (bin_le _ _) (pow2_le ?_))
  omega
theorem ch_pos{S x size drawn mine:Int}(h1:size≤S)(h2:drawn≤size):0<(ch S x size drawn mine).2:=low_pos (bin_pos _ _ (by omega))
theorem totl_le{T B:Nat}:∀(n:Nat) (l:List (Nat×Nat)),l.length=n→(∀v∈l,v.1≤2 ^ T∧v.2≤2 ^ B∧0<v.2)→(totl l).1≤2 ^ ((T+B+1)*n)∧(totl l).2≤2 ^ (B*n)∧0<(totl l).2
 |0,l,h,_=>by
  cases l with
  |nil=>exact⟨Nat.zero_le _,by rw[Nat.mul_zero];exact Nat.le_refl _,by decide⟩
  |cons a b=>cases h
 |i+1,l,h,hv=>by
  obtain⟨l',x,rfl⟩:∃l' x,l=l'++[x]:=⟨l.dropLast,l.getLast (by intro z;rw[z]at h;cases h),(List.dropLast_concat_getLast _).symm⟩
  have hl:l'.length=i:=by rw[List.length_append]at h;simpa using h
  obtain⟨a1,b1,b0⟩:=totl_le i l' hl fun v hv'=>hv v (List.mem_append_left _ hv')
  obtain⟨c1,d1,d0⟩:=hv x (List.mem_append_right _ List.mem_cons_self)
  rw[totl_snoc]
  refine⟨Nat.le_trans (low_le1 _ _) ?_,Nat.le_trans (low_le2 _ _) ?_,pl_pos b0 d0⟩
  ·have x1:(totl l').1*x.2≤2 ^ ((T+B+1)*i+(T+B)):=by
    refine Nat.le_trans (Nat.mul_le_mul a1 d1) ?_
    rw[←Nat.pow_add]
    exact pow2_le (by omega)
   have x2:x.1*(totl l').2≤2 ^ ((T+B+1)*i+(T+B)):=by
    refine Nat.le_trans (Nat.mul_le_mul c1 b1) ?_
    rw[←Nat.pow_add]
    refine pow2_le ?_
    have:B*i≤(T+B+1)*i:=Nat.mul_le_mul_right _ (by omega)
    omega
   have x3:(T+B+1)*(i+1)=(T+B+1)*i+(T+B)+1:=by rw[Nat.mul_succ];omega
   rw[x3,Nat.pow_succ]
   omega
  ·refine Nat.le_trans (Nat.mul_le_mul b1 d1) ?_
   rw[←Nat.pow_add,Nat.mul_succ]
   exact Nat.le_refl _
noncomputable def PtAt(H:Hp):List Addr→List (Nat×Nat)→Prop
 |[],[]=>True
 |t::ts,v::vs=>H t=some (.tup [.int v.1,.int v.2])∧PtAt H ts vs
 |_,_=>False
theorem PtAt.mono{H H':Hp}(s:Same H H'):∀{ts:List Addr} {vs:List (Nat×Nat)},PtAt H ts vs→PtAt H' ts vs
 |[],[],_=>trivial
 |t::ts,v::vs,h=>⟨s _ _ h.1,PtAt.mono s h.2⟩
 |[],_::_,h=>h.elim
 |_::_,[],h=>h.elim
theorem PtAt.len{H:Hp}:∀{ts:List Addr} {vs:List (Nat×Nat)},PtAt H ts vs→ts.length=vs.length
 |[],[],_=>rfl
 |t::ts,v::vs,h=>by rw[List.length_cons,List.length_cons,PtAt.len h.2]
 |[],_::_,h=>h.elim
 |_::_,[],h=>h.elim
theorem PtAt.get{H:Hp}:∀{ts:List Addr} {vs:List (Nat×Nat)} {i:Nat} {t:Addr},PtAt H ts vs→ts[i]?=some t→∃v,vs[i]?=some v∧H t=some (.tup [.int v.1,.int v.2])
 |t::ts,v::vs,0,t',h,e=>by
  have:t=t':=Option.some.inj e
  subst this
  exact⟨v,rfl,h.1⟩
 |t::ts,v::vs,i+1,t',h,e=>PtAt.get (ts:=ts) (vs:=vs) (i:=i) h.2 e
 |[],_,_,_,_,e=>by cases e
 |_::_,[],_,_,h,_=>h.elim
theorem PtAt.snoc{H:Hp}{t:Addr}{v:Nat×Nat}(h1:H t=some (.tup [.int v.1,.int v.2])):∀{ts:List Addr} {vs:List (Nat×Nat)},PtAt H ts vs→PtAt H (ts++[t]) (vs++[v])
 |[],[],_=>⟨h1,trivial⟩
 |_::ts,_::vs,h=>⟨h.1,PtAt.snoc h1 h.2⟩
 |[],_::_,h=>h.elim
 |_::_,[],h=>h.elim
section
variable{P:Program}{w:World}{K:W.Frag}{mg:Str→Option Value}{base:Heap}
theorem collP{J:It}{te:TE}{fr:St}{H1:Hp}{Fin:List V→Hp→Prop}(Rl:Hp→Prop)(g:Nat→Nat×Nat)(n:Nat)(le:n≤100)(r0:Rl H1)(stop:∀H',Rl H'→J.stop n H')(go:∀i H',i<n→Rl H'→J.go i H')
  (step:∀i x H' H2 (R:VK),i<n→Rl H'→J.yld i H' x H2→(∀t H3,Rl H3→Same H' H3→H3 t=some (.tup [.int (g i).1,.int (g i).2])→R (.ref t) H3)→te (some x::fr) H2 R)
  (fin:∀ts H',Rl H'→PtAt H' ts ((List.range n).map g)→Fin (ts.map V.ref) H'):CompT J (gName 0) tYes te Fin (none::fr) H1:=by
 refine compW (fun i ys σ' H'=>(∃x,σ'=x::fr)∧Rl H'∧∃ts:List Addr,ys=ts.map V.ref∧PtAt H' ts ((List.range i).map g)) n ⟨⟨none,rfl⟩,r0,[],rfl,trivial⟩ ?_ ?_
 ·rintro ys σ' H' ⟨_,s1,ts,rfl,p1⟩
  exact⟨stop H' s1,fin ts H' s1 p1⟩
 ·rintro i ys σ' H' hi ⟨⟨x0,rfl⟩,s1,ts,rfl,p1⟩
  have l1:ts.length=i:=by rw[p1.len,List.length_map,List.length_range]
  refine⟨go i H' hi s1,lt_line (by rw[List.length_map];omega),?_⟩
  rintro x' G hy
  refine i_name ?_
  refine i_yes ?_
  refine iteT ?_
  refine step i _ H' G _ hi s1 hy fun t H3 s3 up pv=>nxt hi ⟨⟨_,rfl⟩,s3,ts++[t],by rw[List.map_append];rfl,?_⟩
  rw[List.range_succ,List.map_append]
  exact PtAt.snoc pv (p1.mono up)
theorem collN{J:It}{te:TE}{fr:St}{H1:Hp}{Fin:List V→Hp→Prop}(Rl:Hp→Prop)(g:Nat→Int)(n:Nat)(le:n≤100)(r0:Rl H1)(stop:∀H',Rl H'→J.stop n H')(go:∀i H',i<n→Rl H'→J.go i H')
  (step:∀i x H' H2 (R:VK),i<n→Rl H'→J.yld i H' x H2→(∀H3,Rl H3→R (.int (g i)) H3)→te (some x::fr) H2 R)
  (fin:∀H',Rl H'→Fin (((List.range n).map g).map V.int) H'):CompT J (gName 0) tYes te Fin (none::fr) H1:=by
 refine compW (fun i ys σ' H'=>(∃x,σ'=x::fr)∧Rl H'∧ys=((List.range i).map g).map V.int) n ⟨⟨none,rfl⟩,r0,rfl⟩ ?_ ?_
 ·rintro ys σ' H' ⟨_,s1,rfl⟩
  exact⟨stop H' s1,fin H' s1⟩
 ·rintro i ys σ' H' hi ⟨⟨x0,rfl⟩,s1,rfl⟩
  refine⟨go i H' hi s1,lt_line (by rw[List.length_map,List.length_map,List.length_range];omega),?_⟩
  rintro x' G hy
  refine i_name ?_
  refine i_yes ?_
  refine iteT ?_
  refine step i _ H' G _ hi s1 hy fun H3 s3=>nxt hi ⟨⟨_,rfl⟩,s3,?_⟩
  rw[List.range_succ,List.map_append,List.map_append]
  rfl
theorem sum_cast(f:Nat→Nat)(l:List Nat):(l.map fun j=>((f j:Nat):Int)).sum=((l.map f).sum:Nat):=by
 induction l with
 |nil=>rfl
 |cons a r ih=>rw[List.map_cons,List.sum_cons,List.map_cons,List.sum_cons,ih];omega
noncomputable def spReck:Sp:=fun vs H Q _=>∃(p:Addr) (ns:List Int) (i:Nat) (x size drawn mine:Int),vs=[.ref p,.int i,.int size,.int drawn,.int mine]∧H p=some (.lst (ns.map V.int))∧ns[i]?=some x∧x≤12∧ns.sum≤96∧1≤size∧size≤12∧size≤ns.sum∧0≤drawn∧drawn≤size∧0≤mine∧mine≤x∧0≤drawn - mine∧drawn - mine≤ns.sum - x∧RX H Q (ch ns.sum x size drawn mine)
abbrev sReckoned:Stmt:=top 44
theorem scReckoned:FnScope ["ahead","at","size","drawn","mine","own","strange","left","missing","good"] ["ahead","at","size","drawn","mine"] (defScope sReckoned):=⟨rfl,rfl,rfl,by decide+kernel,rfl,by decide+kernel,by decide+kernel⟩
theorem nd_135_15:(["more","own","strange","left"]:List Str).Nodup:=by decide+kernel
theorem S_135_15:CompScope ["ahead","at","size","drawn","mine","own","strange","left","missing","good"] (defScope sReckoned) ({kind:=ScopeKind.function,names:=[(Str.ofString ".0",NameKind.local),(Str.ofString "more",NameKind.local),(Str.ofString "ways",NameKind.globalImplicit),(Str.ofString "left",NameKind.free),(Str.ofString "own",NameKind.free),(Str.ofString "strange",NameKind.free)],isGenerator:=false,isCoroutine:=false,more:=[]:Scope}) (["more"]:List Str) ([(5,"own"),(6,"strange"),(7,"left")]:List (Nat×Str)):=⟨by decide+kernel,by decide+kernel,by decide+kernel,by decide+kernel,by decide+kernel⟩
theorem ok_reckoned{f:Addr}{fd:FuncData}(F:Fun K "reckoned" "reckoned" sReckoned f fd)(T:BltM mg)(c_ways:Cal P w K mg base "ways" 1 ["many","taken"] spWays)(c_lowest:Cal P w K mg base "lowest" 2 ["top","bottom"] spLow):FnOk P w K mg base CX0 3 f fd ["ahead","at","size","drawn","mine"] spReck:=by
 refine F.ok scReckoned (fun vs H Q E h=>?_) (fun cdv A outer s H vs Q E hr h=>?_)
 ·obtain⟨p,ns,i,x,size,drawn,mine,rfl,_⟩:=h
  rfl
 ·obtain⟨p,ns,i,x,size,drawn,mine,rfl,hp,hx,x12,su,z1,z2,z3,d1,d2,m1,m2,e1,e2,k⟩:=h
  refine⟨_,(pss_cons (ps_set (i:=5) scReckoned.nd rfl (Or.inr rfl) (pe_op op_sub (pe_ix (ixL (K:=K) rfl) (pv 0) (pv 1) (fun _ _=>rfl)) (pv 4)))
   (pss_cons (ps_set (i:=6) scReckoned.nd rfl (Or.inr rfl) (pe_op op_sub (pe_op op_sub (pe_callB (cSum (K:=K) rfl rfl) (by rfl) T.z_sum bb_sum (pa_cons (pv 0) pa_nil)) (pe_ix (ixL (K:=K) rfl) (pv 0) (pv 1) (fun _ _=>rfl))) (pe_op op_sub (pv 3) (pv 4))))
   (pss_cons (ps_set (i:=7) scReckoned.nd rfl (Or.inr rfl) (pe_op op_sub (pv 2) (pv 3)))
   (pss_cons (ps_set (i:=8) scReckoned.nd rfl (Or.inl rfl) (pe_op op_sub (pe_op op_add (pe_op op_fdiv (pe_callB (cMax2 rfl) (by rfl) T.z_max bb_max (pa_cons (pe_ix (ixL (K:=K) rfl) (pv 0) (pv 1) (fun _ _=>rfl)) (pa_cons (pv 2) pa_nil))) pe_int) pe_int) (pv 4)))
   (pss_cons (ps_set (i:=9) scReckoned.nd rfl (Or.inl rfl) (pe_callB (cSum (K:=K) rfl rfl) (by rfl) T.z_sum bb_sum (pa_cons (pe_lcomp rfl S_135_15 (pi_range2 (by rfl) T.z_range (pa_cons (pe_callB (cMax2 rfl) (by rfl) T.z_max bb_max (pa_cons (pv 8) (pa_cons pe_int pa_nil))) (pa_cons (pe_op op_add (pv 7) pe_int) pa_nil))) (by intro _ _ _ _ _;exact(pg_name (i:=0) nd_135_15 rfl (Or.inl rfl))) (by intro _ _ _ _ _;exact pts_nil) (by intro _ _ _ _ _;exact(pe_op op_mulB (pe_callC c_ways (hr.mono (by omega)) (by rfl) (pa_cons (pv 1) (pa_cons (pv 0) pa_nil))) (pe_callC c_ways (hr.mono (by omega)) (by rfl) (pa_cons (pv 2) (pa_cons (pe_op op_sub (pv 3) (pv 0)) pa_nil)))))) pa_nil)))
   (pss_one (ps_ret (pe_callC c_lowest (hr.mono (by omega)) (by rfl) (pa_cons (pv 9) (pa_cons (pe_callC c_ways (hr.mono (by omega)) (by rfl) (pa_cons (pe_op op_add (pv 5) (pv 6)) (pa_cons (pv 7) pa_nil))) pa_nil)))))))))),?_⟩
  generalize hsu:ns.sum=S at*
  walk_at "r"
  refine i_ixL (SqL.of hp) (ix_of hx) ?_
  walk_at "r"
  refine i_sum (SqL.of hp) ?_
  rw[hsu]
  walk_at "r"
  refine i_ixL (SqL.of hp) (ix_of hx) ?_
  walk_at "r"
  refine i_ixL (SqL.of hp) (ix_of hx) ?_
  walk_at "r"
  generalize hM:(if size >x then size else x) / 2+1 - mine=M
  have hM1: -20≤M∧M≤20:=by
   rw[←hM]
   split<;>omega
  generalize hL:(if(0:Int) >M then 0 else M)=L
  have hL1:0≤L∧L≤20:=by
   rw[←hL]
   split<;>omega
  refine⟨L,size - drawn+1,rfl,⟨by omega,by omega,by omega,by omega⟩,?_⟩
  generalize hn:(size - drawn+1 - L).toNat=n
  have hn1:n≤13∧∀j:Nat,j<n→L+(j:Int)≤size - drawn:=by
   refine⟨by omega,fun j hj=>by omega⟩
  refine collN (Rl:=fun H'=>H'=H) (g:=fun j=>((wys (x - mine) (L+(j:Int))*wys (S - x - (drawn - mine)) (size - drawn - (L+(j:Int))):Nat):Int)) n (by omega) rfl (fun H' _=>Nat.le_refl _) (fun j H' hj _=>hj) ?_ ?_
  ·rintro j x' H' G R hj rfl ⟨rfl,rfl⟩ q
   have hj1:=hn1.2 j hj
   walk_at "r"
   refine⟨x - mine,L+j,rfl,by omega,by omega,fun _=>by omega,?_⟩
   walk_at "r"
   refine⟨S - x - (drawn - mine),size - drawn - (L+j),rfl,by omega,by omega,fun _=>by omega,?_⟩
   refine i_rI (cmulN (wys_lt (by omega)) (wys_lt (by omega))) ?_
   exact q _ rfl
  ·rintro H' rfl D hD
   have s1:=same_upd (o:=.lst (((List.range n).map fun(j:Nat)=>((wys (x - mine) (L+(j:Int))*wys (S - x - (drawn - mine)) (size - drawn - (L+(j:Int))):Nat):Int)).map V.int)) hD
   walk_at "r"
   refine i_sum (SqL.of upd_same) ?_
   rw[sum_cast (fun j=>wys (x - mine) (L+(j:Int))*wys (S - x - (drawn - mine)) (size - drawn - (L+(j:Int))))]
   generalize upd H' D _=H1 at s1⊢
   have eS:((List.range n).map fun(j:Nat)=>wys (x - mine) (L+(j:Int))*wys (S - x - (drawn - mine)) (size - drawn - (L+(j:Int)))).sum=cb (x - mine).toNat (S - x - (drawn - mine)).toNat (size - drawn).toNat M:=by
    have:=good_sum (own:=(x - mine).toNat) (str:=(S - x - (drawn - mine)).toNat) (left:=(size - drawn).toNat) (t:=M) (L:=L) hL.symm (n:=n) (by rw[←hn];congr 1;omega)
    rw[show(((x - mine).toNat:Nat):Int)=x - mine by omega,show(((S - x - (drawn - mine)).toNat:Nat):Int)=S - x - (drawn - mine) by omega,show(((size - drawn).toNat:Nat):Int)=size - drawn by omega]at this
    exact this
   rw[eS]
   walk_at "r"
   refine⟨x - mine+(S - x - (drawn - mine)),size - drawn,rfl,by omega,by omega,fun _=>by omega,?_⟩
   have eb:wys (x - mine+(S - x - (drawn - mine))) (size - drawn)=bin (S - drawn).toNat (size - drawn).toNat:=by
    unfold wys
    rw[if_pos (by omega),show x - mine+(S - x - (drawn - mine))=S - drawn by omega]
   rw[eb]
   walk_at "r"
   refine⟨_,_,rfl,bin_pos _ _ (by omega),Nat.lt_of_le_of_lt (bin_le _ _) (pow2_lt (by omega)),?_⟩
   rw[←hM]
   exact k.from s1
noncomputable def spTotal:Sp:=fun vs H Q _=>∃(p:Addr) (ts:List Addr) (ps:List (Nat×Nat)) (T B:Nat),vs=[.ref p]∧H p=some (.lst (ts.map V.ref))∧ts.length≤8∧T≤3000∧B≤900∧PtAt H ts ps∧(∀v∈ps,v.1≤2 ^ T∧v.2≤2 ^ B∧0<v.2)∧RX H Q (totl ps)
theorem take_step{ps:List (Nat×Nat)}{i:Nat}{v:Nat×Nat}(e:ps[i]?=some v):totl (ps.take (i+1))=pl (totl (ps.take i)) v:=by
 rw[List.take_succ,e]
 exact totl_snoc _ _
abbrev sTotal:Stmt:=top 45
theorem scTotal:FnScope ["parts","told","part"] ["parts"] (defScope sTotal):=⟨rfl,rfl,rfl,by decide+kernel,rfl,by decide+kernel,by decide+kernel⟩
theorem ok_total{f:Addr}{fd:FuncData}(F:Fun K "total" "total" sTotal f fd)(T0:BltM mg)(c_plus:Cal P w K mg base "plus" 3 ["one","other"] spPlus):FnOk P w K mg base CX0 4 f fd ["parts"] spTotal:=by
 refine F.ok scTotal (fun vs H Q E h=>?_) (fun cdv A outer s H vs Q E hr h=>?_)
 ·obtain⟨p,ts,ps,T,B,rfl,_⟩:=h
  rfl
 ·obtain⟨p,ts,ps,T,B,rfl,hp,l8,hT,hB,hts,hbd,k⟩:=h
  refine⟨_,(pss_cons (ps_set (i:=1) scTotal.nd rfl (Or.inl rfl) (pe_tup (pa_cons pe_int (pa_cons pe_int pa_nil))))
   (pss_cons (ps_for PassesOwn.never rfl (piL (K:=K) rfl (pv 0)) (pg_name (i:=2) scTotal.nd rfl (Or.inl rfl)) (pss_one (ps_set (i:=1) scTotal.nd rfl (Or.inl rfl) (pe_callC c_plus (hr.mono (by omega)) (by rfl) (pa_cons (pv 1) (pa_cons (pv 2) pa_nil))))))
   (pss_one (ps_ret (pv 1))))),?_⟩
  walk_at "r"
  refine⟨by show 2≤sizeLine;decide,fun q hq=>?_⟩
  have s0:=same_upd (o:=.tup [.int 0,.int 1]) hq
  have hq0:upd H q (.tup [.int 0,.int 1]) q=some (.tup [.int 0,.int 1]):=upd_same
  generalize upd H q (.tup [.int 0,.int 1])=H0 at s0 hq0⊢
  walk_at "r"
  refine⟨p,rfl,⟨_,SqL.of (s0 _ _ hp)⟩,?_⟩
  refine forW (fun i σ' H'=>(∃(r:Addr) (x:Option V),σ'=[some (.ref p),some (.ref r),x]∧H' r=some (.tup [.int (totl (ps.take i)).1,.int (totl (ps.take i)).2]))∧Same H H') ts.length ⟨⟨q,none,rfl,hq0⟩,s0⟩ ?_ ?_
  ·rintro σ' H' ⟨⟨r,x,rfl,hr'⟩,s1⟩
   refine⟨⟨_,SqL.of (s1 _ _ hp),by rw[List.length_map];exact Nat.le_refl _⟩,?_⟩
   walk_at "r"
   rw[hts.len,List.take_length]at hr'
   exact k r H' s1 hr'
  ·rintro i σ' H' hi ⟨⟨r,x,rfl,hr'⟩,s1⟩
   have e1:ts[i]?=some ts[i]:=List.getElem?_eq_getElem hi
   refine⟨⟨_,.ref ts[i],SqL.of (s1 _ _ hp),by rw[List.getElem?_map,e1];rfl⟩,?_⟩
   rintro x' G ⟨rfl,hy⟩
   have ex:=hy _ (SqL.of (s1 _ _ hp))
   rw[List.getElem?_map,e1]at ex
   cases ex
   obtain⟨v,ev,ht⟩:=hts.get e1
   obtain⟨c1,d1,d0⟩:=hbd v (List.mem_of_getElem? ev)
   have hti:=s1 _ _ ht
   have i8:i<8:=by omega
   obtain⟨a1,b1,b0⟩:=totl_le (T:=T) (B:=B) i (ps.take i) (by rw[List.length_take,←hts.len];omega) fun v hv=>hbd v (List.mem_of_mem_take hv)
   have big:(T+B+1)*i≤3901*8:=Nat.mul_le_mul (by omega) (by omega)
   have big2:B*i≤900*7:=Nat.mul_le_mul hB (by omega)
   walk_at "r"
   refine⟨r,ts[i],_,_,v.1,v.2,rfl,hr',hti,b0,d0,Nat.lt_of_le_of_lt a1 (pow2_lt (by omega)),Nat.lt_of_le_of_lt b1 (pow2_lt (by omega)),Nat.lt_of_le_of_lt c1 (pow2_lt (by omega)),Nat.lt_of_le_of_lt d1 (pow2_lt (by omega)),?_,fun r' H2 s2 hr2=>?_⟩
   ·refine Nat.lt_of_le_of_lt (Nat.mul_le_mul b1 d1) ?_
    rw[←Nat.pow_add]
    exact pow2_lt (by omega)
   ·walk_at "r"
    refine⟨⟨r',_,rfl,?_⟩,s1.trans s2⟩
    rw[take_step ev]
    exact hr2
end
noncomputable def gA(as bs:List Int)(i j:Nat):Nat×Nat:=ch as.sum (as.getD i 0) (bs.getD j 0) 0 0
noncomputable def gO(as bs:List Int)(i:Nat):Nat×Nat:=totl ((List.range bs.length).map (gA as bs i))
noncomputable def gM(as bs:List Int):Nat×Nat:=totl ((List.range as.length).map (gO as bs))
theorem feB_of{as bs:List Int}(h:feB as bs=true):flB as=true∧flB bs=true∧bs.sum≤as.sum:=by
 unfold feB at h
 rw[Bool.and_eq_true,Bool.and_eq_true]at h
 refine⟨h.1,h.2.1,?_⟩
 have:=h.2.2
 simp at this
 exact this
theorem fl_at{ns:List Int}{i:Nat}(h:flB ns=true)(hi:i<ns.length):ns[i]?=some (ns.getD i 0)∧1≤ns.getD i 0∧ns.getD i 0≤12∧ns.getD i 0≤ns.sum∧ns.sum≤96:=by
 obtain⟨a1,a2,a3⟩:=flB_of h
 obtain⟨sa0,sa1,sa2⟩:=sum12 a3
 have e:ns.getD i 0=ns[i]:=by simp[List.getD,List.getElem?_eq_getElem hi]
 have m:=List.getElem_mem hi
 have v:=a3 _ m
 have v2:=sa2 _ m
 rw[e]
 exact⟨List.getElem?_eq_getElem hi,v.1,v.2,v2,by omega⟩
theorem gA_le{as bs:List Int}(h:feB as bs=true){i j:Nat}(hi:i<as.length)(hj:j<bs.length):(gA as bs i j).1≤2 ^ 96∧(gA as bs i j).2≤2 ^ 96∧0<(gA as bs i j).2:=by
 obtain⟨fa,fb,hs⟩:=feB_of h
 obtain⟨_,a1,a2,a3,a4⟩:=fl_at fa hi
 obtain⟨_,b1,b2,b3,b4⟩:=fl_at fb hj
 obtain⟨c1,c2⟩:=ch_le (S:=as.sum) (x:=as.getD i 0) (size:=bs.getD j 0) (drawn:=0) (mine:=0) (by omega) (by omega) (by omega) (by omega) a4
 exact⟨c1,c2,ch_pos (by omega) (by omega)⟩
theorem gO_le{as bs:List Int}(h:feB as bs=true){i:Nat}(hi:i<as.length):(gO as bs i).1≤2 ^ 1544∧(gO as bs i).2≤2 ^ 768∧0<(gO as bs i).2:=by
 obtain⟨fa,fb,hs⟩:=feB_of h
 obtain⟨b1,b2,b3⟩:=flB_of fb
 obtain⟨t1,t2,t3⟩:=totl_le (T:=96) (B:=96) bs.length ((List.range bs.length).map (gA as bs i)) (by rw[List.length_map,List.length_range]) fun v hv=>by
  obtain⟨j,hj,rfl⟩:=List.mem_map.mp hv
  exact gA_le h hi (List.mem_range.mp hj)
 exact⟨Nat.le_trans t1 (pow2_le (by omega)),Nat.le_trans t2 (pow2_le (by omega)),t3⟩
section
variable{P:Program}{w:World}{K:W.Frag}{mg:Str→Option Value}{base:Heap}
theorem in_nat{i n:Nat}(h:i<n):inL 0 n i=true:=inL_iff.mpr ⟨by omega,by omega⟩
noncomputable def spGoesAs:Sp:=fun vs H Q _=>∃(p q:Addr) (as bs:List Int) (i j:Nat),vs=[.ref p,.int i,.ref q,.int j]∧H p=some (.lst (as.map V.int))∧H q=some (.lst (bs.map V.int))∧feB as bs=true∧i<as.length∧j<bs.length∧RX H Q (gA as bs i j)
abbrev sGoesAs:Stmt:=top 46
theorem scGoesAs:FnScope ["ahead","at","behind","to"] ["ahead","at","behind","to"] (defScope sGoesAs):=⟨rfl,rfl,rfl,by decide+kernel,rfl,by decide+kernel,by decide+kernel⟩
theorem ok_goes_as{f:Addr}{fd:FuncData}(F:Fun K "goes_as" "goes_as" sGoesAs f fd)(T:BltM mg)(c_need_fleets:Cal P w K mg base "need_fleets" 3 ["ahead","behind"] spNeedFleets)(c_need_place:Cal P w K mg base "need_place" 1 ["sizes","place"] spNeedPlace)(c_reckoned:Cal P w K mg base "reckoned" 3 ["ahead","at","size","drawn","mine"] spReck):FnOk P w K mg base CX0 4 f fd ["ahead","at","behind","to"] spGoesAs:=by
 refine F.ok scGoesAs (fun vs H Q E h=>?_) (fun cdv A outer s H vs Q E hr h=>?_)
 ·obtain⟨p,q,as,bs,i,j,rfl,_⟩:=h
  rfl
 ·obtain⟨p,q,as,bs,i,j,rfl,hp,hq,h1,hi,hj,k⟩:=h
  refine⟨_,(pss_cons (ps_expr (pe_callC c_need_fleets (hr.mono (by omega)) (by rfl) (pa_cons (pv 0) (pa_cons (pv 2) pa_nil))))
   (pss_cons (ps_expr (pe_callC c_need_place (hr.mono (by omega)) (by rfl) (pa_cons (pv 0) (pa_cons (pv 1) pa_nil))))
   (pss_cons (ps_expr (pe_callC c_need_place (hr.mono (by omega)) (by rfl) (pa_cons (pv 2) (pa_cons (pv 3) pa_nil))))
   (pss_one (ps_ret (pe_callC c_reckoned (hr.mono (by omega)) (by rfl) (pa_cons (pv 0) (pa_cons (pv 1) (pa_cons (pe_ix (ixL (K:=K) rfl) (pv 2) (pv 3) (fun _ _=>rfl)) (pa_cons pe_int (pa_cons pe_int pa_nil))))))))))),?_⟩
  obtain⟨fa,fb,hs⟩:=feB_of h1
  obtain⟨a1,a2,_⟩:=flB_of fa
  obtain⟨b1,b2,_⟩:=flB_of fb
  walk_at "r"
  refine⟨p,q,as,bs,rfl,hp,hq,by omega,by omega,h1,fun H1 s1=>?_⟩
  walk_at "r"
  refine⟨p,as,i,rfl,s1 _ _ hp,in_nat hi,?_⟩
  walk_at "r"
  refine⟨q,bs,j,rfl,s1 _ _ hq,in_nat hj,?_⟩
  have s3:=s1
  obtain⟨e1,v1,v2,v3,v4⟩:=fl_at fa hi
  obtain⟨e2,u1,u2,u3,u4⟩:=fl_at fb hj
  walk_at "r"
  refine i_ixL (SqL.of (s3 _ _ hq)) (ix_of e2) ?_
  walk_at "r"
  exact⟨p,as,i,_,_,0,0,rfl,s3 _ _ hp,e1,by omega,by omega,by omega,by omega,by omega,by omega,by omega,by omega,by omega,by omega,by omega,k.from s3⟩
noncomputable def spGoesOn:Sp:=fun vs H Q _=>∃(p q:Addr) (as bs:List Int) (i:Nat),vs=[.ref p,.int i,.ref q]∧H p=some (.lst (as.map V.int))∧H q=some (.lst (bs.map V.int))∧feB as bs=true∧i<as.length∧RX H Q (gO as bs i)
abbrev sGoesOn:Stmt:=top 47
theorem scGoesOn:FnScope ["ahead","at","behind"] ["ahead","at","behind"] (defScope sGoesOn):=⟨rfl,rfl,rfl,by decide+kernel,rfl,by decide+kernel,by decide+kernel⟩
theorem nd_150_17:(["to","ahead","at","behind"]:List Str).Nodup:=by decide+kernel
theorem S_150_17:CompScope ["ahead","at","behind"] (defScope sGoesOn) ({kind:=ScopeKind.function,names:=[(Str.ofString ".0",NameKind.local),(Str.ofString "to",NameKind.local),(Str.ofString "goes_as",NameKind.globalImplicit),(Str.ofString "ahead",NameKind.free),(Str.ofString "at",NameKind.free),(Str.ofString "behind",NameKind.free)],isGenerator:=false,isCoroutine:=false,more:=[]:Scope}) (["to"]:List Str) ([(0,"ahead"),(1,"at"),(2,"behind")]:List (Nat×Str)):=⟨by decide+kernel,by decide+kernel,by decide+kernel,by decide+kernel,by decide+kernel⟩
theorem ok_goes_on{f:Addr}{fd:FuncData}(F:Fun K "goes_on" "goes_on" sGoesOn f fd)(T:BltM mg)(c_need_fleets:Cal P w K mg base "need_fleets" 3 ["ahead","behind"] spNeedFleets)(c_need_place:Cal P w K mg base "need_place" 1 ["sizes","place"] spNeedPlace)(c_goes_as:Cal P w K mg base "goes_as" 4 ["ahead","at","behind","to"] spGoesAs)(c_total:Cal P w K mg base "total" 4 ["parts"] spTotal):FnOk P w K mg base CX0 6 f fd ["ahead","at","behind"] spGoesOn:=by
 refine F.ok scGoesOn (fun vs H Q E h=>?_) (fun cdv A outer s H vs Q E hr h=>?_)
 ·obtain⟨p,q,as,bs,i,rfl,_⟩:=h
  rfl
 ·obtain⟨p,q,as,bs,i,rfl,hp,hq,h1,hi,k⟩:=h
  refine⟨_,(pss_cons (ps_expr (pe_callC c_need_fleets (hr.mono (by omega)) (by rfl) (pa_cons (pv 0) (pa_cons (pv 2) pa_nil))))
   (pss_cons (ps_expr (pe_callC c_need_place (hr.mono (by omega)) (by rfl) (pa_cons (pv 0) (pa_cons (pv 1) pa_nil))))
   (pss_one (ps_ret (pe_callC c_total (hr.mono (by omega)) (by rfl) (pa_cons (pe_lcomp rfl S_150_17 (pi_range1 (by rfl) T.z_range (pa_cons (pe_callB (cLen (K:=K) rfl) (by rfl) T.z_len bb_len (pa_cons (pv 2) pa_nil)) pa_nil)) (by intro _ _ _ _ _;exact(pg_name (i:=0) nd_150_17 rfl (Or.inl rfl))) (by intro _ _ _ _ _;exact pts_nil) (by intro _ _ _ _ _;exact(pe_callC c_goes_as (hr.mono (by omega)) (by rfl) (pa_cons (pv 1) (pa_cons (pv 2) (pa_cons (pv 3) (pa_cons (pv 0) pa_nil))))))) pa_nil)))))),?_⟩
  obtain⟨fa,fb,hs⟩:=feB_of h1
  obtain⟨a1,a2,_⟩:=flB_of fa
  obtain⟨b1,b2,_⟩:=flB_of fb
  walk_at "r"
  refine⟨p,q,as,bs,rfl,hp,hq,by omega,by omega,h1,fun H1 s1=>?_⟩
  walk_at "r"
  refine⟨p,as,i,rfl,s1 _ _ hp,in_nat hi,?_⟩
  have s2:=s1
  have hq2:=s2 _ _ hq
  walk_at "r"
  rw[List.length_map]
  refine⟨_,rfl,by omega,by omega,?_⟩
  rw[show((bs.length:Int)).toNat=bs.length by omega]
  refine collP (Rl:=fun H'=>Same H1 H') (g:=gA as bs i) bs.length (by omega) (Same.refl _) (fun H' _=>Nat.le_refl _) (fun j H' hj _=>hj) ?_ ?_
  ·rintro j x' H' G R hj sj ⟨rfl,rfl⟩ q'
   have sj2:=s2.trans sj
   walk_at "r"
   rw[Int.zero_add]
   exact⟨p,q,as,bs,i,j,rfl,sj2 _ _ hp,sj2 _ _ hq,h1,hi,hj,fun t H3 s3 ht=>q' _ _ (sj.trans s3) s3 ht⟩
  ·rintro ts H3 s3 hts D hD
   have s4:=same_upd (o:=.lst (ts.map V.ref)) hD
   have lt:=hts.len
   rw[List.length_map,List.length_range]at lt
   walk_at "r"
   refine⟨D,ts,_,96,96,rfl,upd_same,by omega,by decide,by decide,hts.mono s4,fun v hv=>?_,k.from (s2.trans (s3.trans s4))⟩
   obtain⟨j,hj,rfl⟩:=List.mem_map.mp hv
   exact gA_le h1 hi (List.mem_range.mp hj)
noncomputable def spMean:Sp:=fun vs H Q _=>∃(p q:Addr) (as bs:List Int),vs=[.ref p,.ref q]∧H p=some (.lst (as.map V.int))∧H q=some (.lst (bs.map V.int))∧feB as bs=true∧RX H Q (gM as bs)
abbrev sMeanGoing:Stmt:=top 48
theorem scMeanGoing:FnScope ["ahead","behind"] ["ahead","behind"] (defScope sMeanGoing):=⟨rfl,rfl,rfl,by decide+kernel,rfl,by decide+kernel,by decide+kernel⟩
theorem nd_153_17:(["at","ahead","behind"]:List Str).Nodup:=by decide+kernel
theorem S_153_17:CompScope ["ahead","behind"] (defScope sMeanGoing) ({kind:=ScopeKind.function,names:=[(Str.ofString ".0",NameKind.local),(Str.ofString "at",NameKind.local),(Str.ofString "goes_on",NameKind.globalImplicit),(Str.ofString "ahead",NameKind.free),(Str.ofString "behind",NameKind.free)],isGenerator:=false,isCoroutine:=false,more:=[]:Scope}) (["at"]:List Str) ([(0,"ahead"),(1,"behind")]:List (Nat×Str)):=⟨by decide+kernel,by decide+kernel,by decide+kernel,by decide+kernel,by decide+kernel⟩
theorem ok_mean_going{f:Addr}{fd:FuncData}(F:Fun K "mean_going" "mean_going" sMeanGoing f fd)(T:BltM mg)(c_need_fleets:Cal P w K mg base "need_fleets" 3 ["ahead","behind"] spNeedFleets)(c_goes_on:Cal P w K mg base "goes_on" 6 ["ahead","at","behind"] spGoesOn)(c_total:Cal P w K mg base "total" 4 ["parts"] spTotal):FnOk P w K mg base CX0 8 f fd ["ahead","behind"] spMean:=by
 refine F.ok scMeanGoing (fun vs H Q E h=>?_) (fun cdv A outer s H vs Q E hr h=>?_)
 ·obtain⟨p,q,as,bs,rfl,_⟩:=h
  rfl
 ·obtain⟨p,q,as,bs,rfl,hp,hq,h1,k⟩:=h
  refine⟨_,(pss_cons (ps_expr (pe_callC c_need_fleets (hr.mono (by omega)) (by rfl) (pa_cons (pv 0) (pa_cons (pv 1) pa_nil))))
   (pss_one (ps_ret (pe_callC c_total (hr.mono (by omega)) (by rfl) (pa_cons (pe_lcomp rfl S_153_17 (pi_range1 (by rfl) T.z_range (pa_cons (pe_callB (cLen (K:=K) rfl) (by rfl) T.z_len bb_len (pa_cons (pv 0) pa_nil)) pa_nil)) (by intro _ _ _ _ _;exact(pg_name (i:=0) nd_153_17 rfl (Or.inl rfl))) (by intro _ _ _ _ _;exact pts_nil) (by intro _ _ _ _ _;exact(pe_callC c_goes_on (hr.mono (by omega)) (by rfl) (pa_cons (pv 1) (pa_cons (pv 0) (pa_cons (pv 2) pa_nil)))))) pa_nil))))),?_⟩
  obtain⟨fa,fb,hs⟩:=feB_of h1
  obtain⟨a1,a2,_⟩:=flB_of fa
  obtain⟨b1,b2,_⟩:=flB_of fb
  walk_at "r"
  refine⟨p,q,as,bs,rfl,hp,hq,by omega,by omega,h1,fun H2 s2=>?_⟩
  have hp2:=s2 _ _ hp
  walk_at "r"
  rw[List.length_map]
  refine⟨_,rfl,by omega,by omega,?_⟩
  rw[show((as.length:Int)).toNat=as.length by omega]
  refine collP (Rl:=fun H'=>Same H2 H') (g:=gO as bs) as.length (by omega) (Same.refl _) (fun H' _=>Nat.le_refl _) (fun j H' hj _=>hj) ?_ ?_
  ·rintro j x' H' G R hj sj ⟨rfl,rfl⟩ q'
   have sj2:=s2.trans sj
   walk_at "r"
   rw[Int.zero_add]
   exact⟨p,q,as,bs,j,rfl,sj2 _ _ hp,sj2 _ _ hq,h1,hj,fun t H3 s3 ht=>q' _ _ (sj.trans s3) s3 ht⟩
  ·rintro ts H3 s3 hts D hD
   have s4:=same_upd (o:=.lst (ts.map V.ref)) hD
   have lt:=hts.len
   rw[List.length_map,List.length_range]at lt
   walk_at "r"
   refine⟨D,ts,_,1544,768,rfl,upd_same,by omega,by decide,by decide,hts.mono s4,fun v hv=>?_,k.from (s2.trans (s3.trans s4))⟩
   obtain⟨j,hj,rfl⟩:=List.mem_map.mp hv
   exact gO_le h1 (List.mem_range.mp hj)
end
noncomputable def fac:Nat→Nat
 |0=>1
 |k+1=>fac k*(k+1)
theorem fac_pos:∀k,0<fac k
 |0=>by decide
 |k+1=>Nat.mul_pos (fac_pos k) (by omega)
theorem fac_le:∀k,k≤12→fac k≤2 ^ 30:=by decide
theorem fall_step(n i:Nat):bin n i*fac i*(n - i)=bin n (i+1)*fac (i+1):=by
 show bin n i*fac i*(n - i)=bin n (i+1)*(fac i*(i+1))
 calc bin n i*fac i*(n - i)=bin n i*(n - i)*fac i:=Nat.mul_right_comm _ _ _
  _=bin n (i+1)*(i+1)*fac i:=by rw[bin_step]
  _=bin n (i+1)*(fac i*(i+1)):=by rw[Nat.mul_assoc,Nat.mul_comm (i+1)]
section
variable{P:Program}{w:World}{K:W.Frag}{mg:Str→Option Value}{base:Heap}
abbrev sLawLow:Stmt:=top 56
theorem scLawLow:FnScope ["_law_top","_law_bottom","_law_one","_law_other"] ["_law_top","_law_bottom"] (defScope sLawLow):=⟨rfl,rfl,rfl,by decide+kernel,rfl,by decide+kernel,by decide+kernel⟩
theorem ok_law_low{f:Addr}{fd:FuncData}(F:Fun K "_law_low" "_law_low" sLawLow f fd)(T:BltM mg):FnOk P w K mg base CX0 2 f fd ["_law_top","_law_bottom"] spLow:=by
 refine F.ok scLawLow (fun vs H Q E h=>?_) (fun cdv A outer s H vs Q E hr h=>?_)
 ·obtain⟨a,b,rfl,_⟩:=h
  rfl
 ·obtain⟨t,b,rfl,hb,hb2,k⟩:=h
  refine⟨_,(pss_cons (ps_set (i:=2) scLawLow.nd rfl (Or.inl rfl) (pe_callB call_absR (by rfl) T.z_abs bb_abs (pa_cons (pv 0) pa_nil)))
   (pss_cons (ps_set (i:=3) scLawLow.nd rfl (Or.inl rfl) (pv 1))
   (pss_cons (ps_while PassesOwn.never (pt_cmpR op_gt (pv 3) pe_int (nomark _)) (pss_one (ps_par (i:=2) (j:=3) rfl scLawLow.nd rfl rfl (by decide) rfl rfl (pa_cons (pv 3) (pa_cons (pe_op op_mod (pv 2) (pv 3)) pa_nil)) (by rfl))))
   (pss_one (ps_ret (pe_tup (pa_cons (pe_op op_fdivB (pv 0) (pv 2)) (pa_cons (pe_op op_fdivB (pv 1) (pv 2)) pa_nil)))))))),?_⟩
  have g1:0<Nat.gcd t b:=Nat.gcd_pos_of_pos_right _ hb
  have g2:Nat.gcd t b≤b:=Nat.gcd_le_right _ hb
  walk_at "r"
  rw[absN]
  refine while_by (fun σ H'=>∃m n:Nat,σ=[some (.int t),some (.int b),some (.int m),some (.int n)]∧H'=H∧Nat.gcd m n=Nat.gcd t b)
   (fun σ _=>match σ with|[_,_,_,some (.int y)]=>y.toNat|_=>0) ⟨t,b,rfl,rfl,rfl⟩ ?_ ?_
  ·rintro σ H' ⟨m,n,rfl,rfl,e⟩
   walk_at "r"
   refine ite2 (fun h=>?_) (fun h=>?_)
   ·have hn:0<n:=by
     have:=of_decide_eq_true h
     omega
    walk_at "r"
    refine i_par ?_
    walk_at "r"
    refine⟨_,_,rfl,⟨n,m % n,rfl,rfl,by rw[gcd_step];exact e⟩,?_⟩
    show((m:Int) % (n:Int)).toNat<(n:Int).toNat
    have h1:(m:Int) % (n:Int)<n:=Int.emod_lt_of_pos _ (by omega)
    omega
   ·have hn:n=0:=by
     have:¬((0:Int)<n):=fun z=>h (decide_eq_true z)
     omega
    subst hn
    rw[Nat.gcd_zero_right]at e
    subst e
    walk_at "r"
    refine i_rI (cdivN g1 (Nat.lt_of_le_of_lt g2 hb2)) ?_
    walk_at "r"
    refine i_rI (cdivN g1 (Nat.lt_of_le_of_lt g2 hb2)) ?_
    walk_at "r"
    refine⟨by show 2≤sizeLine;decide,fun p hp=>k p _ (same_upd hp) upd_same⟩
  ·rintro σ H' Q1 Q2 hq ⟨v,e,i,j,e1,e2,c,e3,q⟩
   exact⟨v,e,i,j,e1,e2,c,e3,hq _ _ q⟩
abbrev sLawSum:Stmt:=top 57
theorem scLawSum:FnScope ["_law_one","_law_other"] ["_law_one","_law_other"] (defScope sLawSum):=⟨rfl,rfl,rfl,by decide+kernel,rfl,by decide+kernel,by decide+kernel⟩
theorem ok_law_sum{f:Addr}{fd:FuncData}(F:Fun K "_law_sum" "_law_sum" sLawSum f fd)(T:BltM mg)(c_law_low:Cal P w K mg base "_law_low" 2 ["_law_top","_law_bottom"] spLow):FnOk P w K mg base CX0 3 f fd ["_law_one","_law_other"] spPlus:=by
 refine F.ok scLawSum (fun vs H Q E h=>?_) (fun cdv A outer s H vs Q E hr h=>?_)
 ·obtain⟨p,q,a,b,c,d,rfl,_⟩:=h
  rfl
 ·obtain⟨p,q,a,b,c,d,rfl,hp,hq,b0,d0,a1,b1,c1,d1,bd,k⟩:=h
  refine⟨_,(pss_one (ps_ret (pe_callC c_law_low (hr.mono (by omega)) (by rfl) (pa_cons (pe_op op_add (pe_op op_mulB (pe_ix (ixT (K:=K) rfl) (pv 0) pe_int (fun _ _=>rfl)) (pe_ix (ixT (K:=K) rfl) (pv 1) pe_int (fun _ _=>rfl))) (pe_op op_mulB (pe_ix (ixT (K:=K) rfl) (pv 1) pe_int (fun _ _=>rfl)) (pe_ix (ixT (K:=K) rfl) (pv 0) pe_int (fun _ _=>rfl)))) (pa_cons (pe_op op_mulB (pe_ix (ixT (K:=K) rfl) (pv 0) pe_int (fun _ _=>rfl)) (pe_ix (ixT (K:=K) rfl) (pv 1) pe_int (fun _ _=>rfl))) pa_nil))))),?_⟩
  walk_at "r"
  refine i_rI (cmulN a1 d1) ?_
  walk_at "r"
  refine i_rI (cmulN c1 b1) ?_
  walk_at "r"
  refine i_rI (cmulN b1 d1) ?_
  walk_at "r"
  exact⟨a*d+c*b,b*d,rfl,Nat.mul_pos b0 d0,bd,k⟩
abbrev sLawAll:Stmt:=top 58
theorem scLawAll:FnScope ["_law_parts","_law_found","_law_one"] ["_law_parts"] (defScope sLawAll):=⟨rfl,rfl,rfl,by decide+kernel,rfl,by decide+kernel,by decide+kernel⟩
theorem ok_law_all{f:Addr}{fd:FuncData}(F:Fun K "_law_all" "_law_all" sLawAll f fd)(T0:BltM mg)(c_law_sum:Cal P w K mg base "_law_sum" 3 ["_law_one","_law_other"] spPlus):FnOk P w K mg base CX0 4 f fd ["_law_parts"] spTotal:=by
 refine F.ok scLawAll (fun vs H Q E h=>?_) (fun cdv A outer s H vs Q E hr h=>?_)
 ·obtain⟨p,ts,ps,T,B,rfl,_⟩:=h
  rfl
 ·obtain⟨p,ts,ps,T,B,rfl,hp,l8,hT,hB,hts,hbd,k⟩:=h
  refine⟨_,(pss_cons (ps_set (i:=1) scLawAll.nd rfl (Or.inl rfl) (pe_tup (pa_cons pe_int (pa_cons pe_int pa_nil))))
   (pss_cons (ps_for PassesOwn.never rfl (piL (K:=K) rfl (pv 0)) (pg_name (i:=2) scLawAll.nd rfl (Or.inl rfl)) (pss_one (ps_set (i:=1) scLawAll.nd rfl (Or.inl rfl) (pe_callC c_law_sum (hr.mono (by omega)) (by rfl) (pa_cons (pv 1) (pa_cons (pv 2) pa_nil))))))
   (pss_one (ps_ret (pv 1))))),?_⟩
  walk_at "r"
  refine⟨by show 2≤sizeLine;decide,fun q hq=>?_⟩
  have s0:=same_upd (o:=.tup [.int 0,.int 1]) hq
  have hq0:upd H q (.tup [.int 0,.int 1]) q=some (.tup [.int 0,.int 1]):=upd_same
  generalize upd H q (.tup [.int 0,.int 1])=H0 at s0 hq0⊢
  walk_at "r"
  refine⟨p,rfl,⟨_,SqL.of (s0 _ _ hp)⟩,?_⟩
  refine forW (fun i σ' H'=>(∃(r:Addr) (x:Option V),σ'=[some (.ref p),some (.ref r),x]∧H' r=some (.tup [.int (totl (ps.take i)).1,.int (totl (ps.take i)).2]))∧Same H H') ts.length ⟨⟨q,none,rfl,hq0⟩,s0⟩ ?_ ?_
  ·rintro σ' H' ⟨⟨r,x,rfl,hr'⟩,s1⟩
   refine⟨⟨_,SqL.of (s1 _ _ hp),by rw[List.length_map];exact Nat.le_refl _⟩,?_⟩
   walk_at "r"
   rw[hts.len,List.take_length]at hr'
   exact k r H' s1 hr'
  ·rintro i σ' H' hi ⟨⟨r,x,rfl,hr'⟩,s1⟩
   have e1:ts[i]?=some ts[i]:=List.getElem?_eq_getElem hi
   refine⟨⟨_,.ref ts[i],SqL.of (s1 _ _ hp),by rw[List.getElem?_map,e1];rfl⟩,?_⟩
   rintro x' G ⟨rfl,hy⟩
   have ex:=hy _ (SqL.of (s1 _ _ hp))
   rw[List.getElem?_map,e1]at ex
   cases ex
   obtain⟨v,ev,ht⟩:=hts.get e1
   obtain⟨c1,d1,d0⟩:=hbd v (List.mem_of_getElem? ev)
   have hti:=s1 _ _ ht
   have i8:i<8:=by omega
   obtain⟨a1,b1,b0⟩:=totl_le (T:=T) (B:=B) i (ps.take i) (by rw[List.length_take,←hts.len];omega) fun v hv=>hbd v (List.mem_of_mem_take hv)
   have big:(T+B+1)*i≤3901*8:=Nat.mul_le_mul (by omega) (by omega)
   have big2:B*i≤900*7:=Nat.mul_le_mul hB (by omega)
   walk_at "r"
   refine⟨r,ts[i],_,_,v.1,v.2,rfl,hr',hti,b0,d0,Nat.lt_of_le_of_lt a1 (pow2_lt (by omega)),Nat.lt_of_le_of_lt b1 (pow2_lt (by omega)),Nat.lt_of_le_of_lt c1 (pow2_lt (by omega)),Nat.lt_of_le_of_lt d1 (pow2_lt (by omega)),?_,fun r' H2 s2 hr2=>?_⟩
   ·refine Nat.lt_of_le_of_lt (Nat.mul_le_mul b1 d1) ?_
    rw[←Nat.pow_add]
    exact pow2_lt (by omega)
   ·walk_at "r"
    refine⟨⟨r',_,rfl,?_⟩,s1.trans s2⟩
    rw[take_step ev]
    exact hr2
noncomputable def spWaysL:Sp:=fun vs H Q _=>∃(m t:Int),vs=[.int m,.int t]∧0≤m∧m≤108∧t≤12∧Q (.int (wys m t:Nat)) H
abbrev sLawWays:Stmt:=top 61
theorem scLawWays:FnScope ["_law_many","_law_few","_law_top","_law_bottom","_law_k"] ["_law_many","_law_few"] (defScope sLawWays):=⟨rfl,rfl,rfl,by decide+kernel,rfl,by decide+kernel,by decide+kernel⟩
theorem ok_law_ways{f:Addr}{fd:FuncData}(F:Fun K "_law_ways" "_law_ways" sLawWays f fd)(T:BltM mg):FnOk P w K mg base CX0 1 f fd ["_law_many","_law_few"] spWaysL:=by
 refine F.ok scLawWays (fun vs H Q E h=>?_) (fun cdv A outer s H vs Q E hr h=>?_)
 ·obtain⟨m,t,rfl,_⟩:=h
  rfl
 ·obtain⟨m,t,rfl,m0,m1,t1,k⟩:=h
  refine⟨_,(pss_cons (ps_if ((pw_or (pt_cmpR op_lt (pv 1) pe_int (nomark _)) (pw_or1 (pt_cmpR op_gt (pv 1) (pv 0) (nomark _))))).pt (pss_one (ps_ret pe_int)) pss_nil)
   (pss_cons (ps_set (i:=2) scLawWays.nd rfl (Or.inl rfl) pe_int)
   (pss_cons (ps_set (i:=3) scLawWays.nd rfl (Or.inl rfl) pe_int)
   (pss_cons (ps_for PassesOwn.never rfl (pi_range1 (by rfl) T.z_range (pa_cons (pv 1) pa_nil)) (pg_name (i:=4) scLawWays.nd rfl (Or.inl rfl)) (pss_cons (ps_set (i:=2) scLawWays.nd rfl (Or.inl rfl) (pe_op op_mulB (pv 2) (pe_op op_sub (pv 0) (pv 4))))
   (pss_one (ps_set (i:=3) scLawWays.nd rfl (Or.inl rfl) (pe_op op_mulB (pv 3) (pe_op op_add (pv 4) pe_int))))))
   (pss_one (ps_ret (pe_op op_fdivB (pv 2) (pv 3)))))))),?_⟩
  walk_at "r"
  refine ite2 (fun h0=>?_) (fun h0=>?_)
  ·have ht:t<0:=of_decide_eq_true h0
   refine iteT ?_
   walk_at "r"
   unfold wys at k
   rw[if_neg (by omega)]at k
   exact k
  ·have ht:0≤t:=by
    have:¬t<0:=fun z=>h0 (decide_eq_true z)
    omega
   unfold wys at k
   rw[if_pos ht]at k
   walk_at "r"
   refine ite2 (fun h1=>?_) (fun h1=>?_)
   ·have hm:t >m:=of_decide_eq_true h1
    walk_at "r"
    rw[bin_none _ _ (by omega)]at k
    exact k
   ·have hm:t≤m:=by
     have:¬t >m:=fun z=>h1 (decide_eq_true z)
     omega
    walk_at "r"
    refine⟨t,rfl,by omega,by omega,?_⟩
    have lt1:∀i,bin m.toNat i*fac i<2 ^ 90000∨12<i:=by
     intro i
     rcases Nat.lt_or_ge 12 i with q|q
     ·exact .inr q
     ·refine .inl (Nat.lt_of_le_of_lt (Nat.mul_le_mul (bin_le _ _) (fac_le i q)) ?_)
      rw[←Nat.pow_add]
      exact pow2_lt (by omega)
    have lt2:∀i,i≤12→fac i<2 ^ 8000:=fun i q=>Nat.lt_of_le_of_lt (fac_le i q) (pow2_lt (by decide))
    refine forW (fun i σ' H'=>(∃x,σ'=[some (.int m),some (.int t),some (.int (bin m.toNat i*fac i:Nat)),some (.int (fac i:Nat)),x])∧H'=H) t.toNat ⟨⟨none,by rw[bin_zero];rfl⟩,rfl⟩ ?_ ?_
    ·rintro σ' H' ⟨⟨x,rfl⟩,rfl⟩
     refine⟨Nat.le_refl _,?_⟩
     walk_at "r"
     refine i_rI (cdivN (fac_pos _) (lt2 _ (by omega))) ?_
     have e:((bin m.toNat t.toNat*fac t.toNat:Nat):Int) / ((fac t.toNat:Nat):Int)=((bin m.toNat t.toNat:Nat):Int):=by
      rw[←Int.natCast_ediv,Nat.mul_div_cancel _ (fac_pos _)]
     rw[e]
     exact k
    ·rintro i σ' H' hi ⟨⟨x,rfl⟩,rfl⟩
     refine⟨hi,?_⟩
     rintro x' G ⟨rfl,rfl⟩
     rw[Int.zero_add]
     walk_at "r"
     have hmi:((m.toNat - i:Nat):Int)=m - i:=by omega
     rw[←hmi]
     refine i_rI (cmulN ((lt1 i).resolve_right (by omega)) (Nat.lt_of_le_of_lt (show m.toNat - i≤2 ^ 8 by omega) (pow2_lt (by decide)))) ?_
     walk_at "r"
     have hi1:((i+1:Nat):Int)=(i:Int)+1:=by omega
     rw[←hi1]
     refine i_rI (cmulN (Nat.lt_trans (lt2 i (by omega)) (pow2_lt (by decide))) (Nat.lt_of_le_of_lt (show i+1≤2 ^ 8 by omega) (pow2_lt (by decide)))) ?_
     walk_at "r"
     refine⟨⟨some (.int i),?_⟩,rfl⟩
     rw[←fall_step]
     rfl
noncomputable def spShare:Sp:=fun vs H Q _=>∃(S x size drawn mine:Int),vs=[.int S,.int x,.int size,.int drawn,.int mine]∧x≤12∧S≤96∧1≤size∧size≤12∧size≤S∧0≤drawn∧drawn≤size∧0≤mine∧mine≤x∧0≤drawn - mine∧drawn - mine≤S - x∧RX H Q (ch S x size drawn mine)
abbrev sLawShare:Stmt:=top 69
theorem scLawShare:FnScope ["_law_many","_law_mine","_law_size","_law_drawn","_law_had","_law_good","_law_more"] ["_law_many","_law_mine","_law_size","_law_drawn","_law_had"] (defScope sLawShare):=⟨rfl,rfl,rfl,by decide+kernel,rfl,by decide+kernel,by decide+kernel⟩
theorem ok_law_share{f:Addr}{fd:FuncData}(F:Fun K "_law_share" "_law_share" sLawShare f fd)(T:BltM mg)(c_law_low:Cal P w K mg base "_law_low" 2 ["_law_top","_law_bottom"] spLow)(c_law_ways:Cal P w K mg base "_law_ways" 1 ["_law_many","_law_few"] spWaysL):FnOk P w K mg base CX0 3 f fd ["_law_many","_law_mine","_law_size","_law_drawn","_law_had"] spShare:=by
 refine F.ok scLawShare (fun vs H Q E h=>?_) (fun cdv A outer s H vs Q E hr h=>?_)
 ·obtain⟨S,x,size,drawn,mine,rfl,_⟩:=h
  rfl
 ·obtain⟨S,x,size,drawn,mine,rfl,x12,su,z1,z2,z3,d1,d2,m1,m2,e1,e2,k⟩:=h
  refine⟨_,(pss_cons (ps_set (i:=5) scLawShare.nd rfl (Or.inl rfl) pe_int)
   (pss_cons (ps_for PassesOwn.never rfl (pi_range1 (by rfl) T.z_range (pa_cons (pe_op op_add (pe_op op_sub (pv 2) (pv 3)) pe_int) pa_nil)) (pg_name (i:=6) scLawShare.nd rfl (Or.inl rfl)) (pss_one (ps_if ((pw_and (pt_cmpR op_gt (pe_op op_mul pe_int (pe_op op_add (pv 4) (pv 6))) (pv 1) (nomark _)) (pw_and1 (pt_cmpR op_gt (pe_op op_mul pe_int (pe_op op_add (pv 4) (pv 6))) (pv 2) (nomark _))))).pt (pss_one (ps_set (i:=5) scLawShare.nd rfl (Or.inl rfl) (pe_op op_add (pv 5) (pe_op op_mulB (pe_callC c_law_ways (hr.mono (by omega)) (by rfl) (pa_cons (pe_op op_sub (pv 1) (pv 4)) (pa_cons (pv 6) pa_nil))) (pe_callC c_law_ways (hr.mono (by omega)) (by rfl) (pa_cons (pe_op op_add (pe_op op_sub (pe_op op_sub (pv 0) (pv 3)) (pv 1)) (pv 4)) (pa_cons (pe_op op_sub (pe_op op_sub (pv 2) (pv 3)) (pv 6)) pa_nil))))))) pss_nil)))
   (pss_one (ps_ret (pe_callC c_law_low (hr.mono (by omega)) (by rfl) (pa_cons (pv 5) (pa_cons (pe_callC c_law_ways (hr.mono (by omega)) (by rfl) (pa_cons (pe_op op_sub (pv 0) (pv 3)) (pa_cons (pe_op op_sub (pv 2) (pv 3)) pa_nil))) pa_nil))))))),?_⟩
  unfold ch at k
  generalize ht:(if size >x then size else x) / 2+1 - mine=t at k
  have ht2:∀y:Int,t≤y↔2*(mine+y) >x∧2*(mine+y) >size:=by
   intro y
   rw[←ht]
   split<;>omega
  walk_at "r"
  refine⟨_,rfl,by omega,by omega,?_⟩
  refine forW (fun i σ' H'=>(∃y,σ'=[some (.int S),some (.int x),some (.int size),some (.int drawn),some (.int mine),some (.int (smd (x - mine).toNat (S - x - (drawn - mine)).toNat (size - drawn).toNat t i:Nat)),y])∧H'=H) (size - drawn+1).toNat ⟨⟨none,rfl⟩,rfl⟩ ?_ ?_
  ·rintro σ' H' ⟨⟨y,rfl⟩,rfl⟩
   refine⟨Nat.le_refl _,?_⟩
   walk_at "r"
   refine⟨S - drawn,size - drawn,rfl,by omega,by omega,by omega,?_⟩
   have eb:wys (S - drawn) (size - drawn)=bin (S - drawn).toNat (size - drawn).toNat:=by
    unfold wys
    rw[if_pos (by omega)]
   rw[eb,show(size - drawn+1).toNat=(size - drawn).toNat+1 by omega,←cb_smd]
   walk_at "r"
   exact⟨_,_,rfl,bin_pos _ _ (by omega),Nat.lt_of_le_of_lt (bin_le _ _) (pow2_lt (by omega)),k⟩
  ·rintro i σ' H' hi ⟨⟨y,rfl⟩,rfl⟩
   refine⟨hi,?_⟩
   rintro x' G ⟨rfl,rfl⟩
   rw[Int.zero_add]
   have ht3:=ht2 i
   have fin:∀v:Nat,(v=if t≤(i:Int)then bin (x - mine).toNat i*bin (S - x - (drawn - mine)).toNat ((size - drawn).toNat - i)else 0)→((∃y,[some (V.int S),some (.int x),some (.int size),some (.int drawn),some (.int mine),some (.int ((smd (x - mine).toNat (S - x - (drawn - mine)).toNat (size - drawn).toNat t i+v:Nat):Int)),some (.int i)]=[some (.int S),some (.int x),some (.int size),some (.int drawn),some (.int mine),some (.int (smd (x - mine).toNat (S - x - (drawn - mine)).toNat (size - drawn).toNat t (i+1):Nat)),y])∧G=G):=by
    rintro v rfl
    exact⟨⟨_,rfl⟩,rfl⟩
   walk_at "r"
   refine ite2 (fun h0=>?_) (fun h0=>?_)
   ·have q1:2*(mine+(i:Int)) >x:=of_decide_eq_true h0
    walk_at "r"
    refine ite2 (fun h1=>?_) (fun h1=>?_)
    ·have q2:2*(mine+(i:Int)) >size:=of_decide_eq_true h1
     walk_at "r"
     refine⟨x - mine,i,rfl,by omega,by omega,by omega,?_⟩
     walk_at "r"
     refine⟨S - drawn - x+mine,size - drawn - i,rfl,by omega,by omega,by omega,?_⟩
     refine i_rI (cmulN (wys_lt (by omega)) (wys_lt (by omega))) ?_
     walk_at "r"
     refine fin (wys (x - mine) i*wys (S - drawn - x+mine) (size - drawn - i)) ?_
     rw[if_pos (ht3.mpr ⟨q1,q2⟩)]
     unfold wys
     rw[if_pos (by omega),if_pos (by omega),show((i:Int)).toNat=i by omega,show(S - drawn - x+mine).toNat=(S - x - (drawn - mine)).toNat by omega,show(size - drawn - (i:Int)).toNat=(size - drawn).toNat - i by omega]
    ·have q2:¬2*(mine+(i:Int)) >size:=fun z=>h1 (decide_eq_true z)
     walk_at "r"
     exact fin 0 (by rw[if_neg fun z=>q2 (ht3.mp z).2])
   ·have q1:¬2*(mine+(i:Int)) >x:=fun z=>h0 (decide_eq_true z)
    refine iteF ?_
    walk_at "r"
    exact fin 0 (by rw[if_neg fun z=>q1 (ht3.mp z).1])
end
section
variable{P:Program}{w:World}{K:W.Frag}{mg:Str→Option Value}{base:Heap}
theorem but_free2{d c0 e:Addr}{H H':Hp}(hD':DrawC H' d c0)(b:But d H H')(he:H' e=none):H e=none:=by
 cases hh:H e with
 |none=>rfl
 |some o=>
  by_cases z:e=d
  ·subst z
   obtain⟨⟨o',ho'⟩,_⟩:=hD'.is
   rw[he]at ho'
   cases ho'
  ·have:=b _ _ z hh
   rw[he]at this
   cases this
theorem ints_of{M:Int}:∀{ys:List V},(∀y∈ys,∃r:Int,y=.int r∧1≤r∧r≤M)→∃rs:List Int,ys=rs.map V.int∧rs.length=ys.length∧∀r∈rs,1≤r∧r≤M
 |[],_=>⟨[],rfl,rfl,fun r h=>by cases h⟩
 |y::ys,h=>by
  obtain⟨r,e,hr⟩:=h y List.mem_cons_self
  obtain⟨rs,e2,l,hm⟩:=ints_of (ys:=ys) fun z hz=>h z (List.mem_cons_of_mem _ hz)
  refine⟨r::rs,by rw[e,e2];rfl,by simp[l],fun z hz=>?_⟩
  rcases List.mem_cons.mp hz with rfl|hz
  ·exact hr
  ·exact hm z hz
noncomputable def spSizes:Sp:=fun vs H Q _=>∃(d c0:Addr) (most big:Int),vs=[.ref d,.int most,.int big]∧DrawC H d c0∧1≤most∧most≤20∧1≤big∧big≤100∧
 ∀l H' (ns:List Int),DrawC H' d c0→But d H H'→H l=none→H' l=some (.lst (ns.map V.int))→1≤ns.length→(ns.length:Int)≤most→(∀v∈ns,1≤v∧v≤big)→Q (.ref l) H'
abbrev sLawSizes:Stmt:=top 68
theorem scLawSizes:FnScope ["_law_draw","_law_most","_law_big"] ["_law_draw","_law_most","_law_big"] (defScope sLawSizes):=⟨rfl,rfl,rfl,by decide+kernel,rfl,by decide+kernel,by decide+kernel⟩
theorem nd_266_11:(["_law_k","_law_draw","_law_big"]:List Str).Nodup:=by decide+kernel
theorem S_266_11:CompScope ["_law_draw","_law_most","_law_big"] (defScope sLawSizes) ({kind:=ScopeKind.function,names:=[(Str.ofString ".0",NameKind.local),(Str.ofString "_law_k",NameKind.local),(Str.ofString "_law_take",NameKind.globalImplicit),(Str.ofString "_law_big",NameKind.free),(Str.ofString "_law_draw",NameKind.free)],isGenerator:=false,isCoroutine:=false,more:=[]:Scope}) (["_law_k"]:List Str) ([(0,"_law_draw"),(2,"_law_big")]:List (Nat×Str)):=⟨by decide+kernel,by decide+kernel,by decide+kernel,by decide+kernel,by decide+kernel⟩
theorem ok_sizes{f:Addr}{fd:FuncData}(F:Fun K "_law_sizes" "_law_sizes" sLawSizes f fd)(T:BltM mg)(c_law_take:Cal P w K mg base "_law_take" 1 ["_law_draw","_law_many"] spTakeC):FnOk P w K mg base CX0 2 f fd ["_law_draw","_law_most","_law_big"] spSizes:=by
 refine F.ok scLawSizes (fun vs H Q E h=>?_) (fun cdv A outer s H vs Q E hr h=>?_)
 ·obtain⟨d,c0,most,big,rfl,_⟩:=h
  rfl
 ·obtain⟨d,c0,most,big,rfl,hD,m1,m2,b1,b2,k⟩:=h
  refine⟨_,(pss_one (ps_ret (pe_lcomp rfl S_266_11 (pi_range1 (by rfl) T.z_range (pa_cons (pe_op op_add pe_int (pe_callC c_law_take (hr.mono (by omega)) (by rfl) (pa_cons (pv 0) (pa_cons (pv 1) pa_nil)))) pa_nil)) (by intro _ _ _ _ _;exact(pg_name (i:=0) nd_266_11 rfl (Or.inl rfl))) (by intro _ _ _ _ _;exact pts_nil) (by intro _ _ _ _ _;exact(pe_op op_add pe_int (pe_callC c_law_take (hr.mono (by omega)) (by rfl) (pa_cons (pv 1) (pa_cons (pv 2) pa_nil)))))))),?_⟩
  walk_at "r"
  refine⟨d,c0,most,rfl,hD,by omega,small_int (by omega) (by omega),fun n H1 n0 n1 hD1 but1=>?_⟩
  walk_at "r"
  refine⟨_,rfl,by omega,by omega,?_⟩
  refine coll (Rl:=fun H'=>DrawC H' d c0∧But d H H') (Pv:=fun v _=>∃r:Int,v=.int r∧1≤r∧r≤big) (1+n).toNat (by omega) ⟨hD1,but1⟩ (fun H' _=>Nat.le_refl _) (fun j H' hj _=>hj) ?_ ?_
  ·rintro j x' H' G R hj ⟨hDj,bj⟩ ⟨rfl,rfl⟩ q'
   walk_at "r"
   refine⟨d,c0,big,rfl,hDj,by omega,small_int (by omega) (by omega),fun r H3 r0 r1 hD3 b3=>?_⟩
   walk_at "r"
   exact q' _ _ ⟨hD3,bj.trans b3⟩ (fun y h=>h) ⟨_,rfl,by omega,by omega⟩
  ·rintro ys H3 ⟨hD3,b3⟩ ly pv D hD'
   obtain⟨rs,rfl,lr,hrs⟩:=ints_of pv
   have s4:=same_upd (o:=.lst (rs.map V.int)) hD'
   exact k D _ rs (hD3.same s4) (b3.trans (s4.but (d:=d))) (but_free2 hD3 b3 hD') upd_same (by omega) (by omega) hrs
end
section
variable{P:Program}{w:World}{K:W.Frag}{mg:Str→Option Value}{base:Heap}
noncomputable def spLike(K:W.Frag):Sp:=fun vs H Q _=>∃(p q:Addr) (ns ms:List Int),vs=[.ref p,.ref q]∧SqX K H p (ns.map V.int)∧SqX K H q (ms.map V.int)∧ns.length<64∧ms.length<64∧∀H',Same H H'→Q (.bl (likeB ns ms)) H'
abbrev sLawLike:Stmt:=top 54
theorem scLawLike:FnScope ["_law_one","_law_other","_law_both"] ["_law_one","_law_other"] (defScope sLawLike):=⟨rfl,rfl,rfl,by decide+kernel,rfl,by decide+kernel,by decide+kernel⟩
theorem nd_185_20:(["_law_timber","_law_other"]:List Str).Nodup:=by decide+kernel
theorem S_185_20:CompScope ["_law_one","_law_other","_law_both"] (defScope sLawLike) ({kind:=ScopeKind.function,names:=[(Str.ofString ".0",NameKind.local),(Str.ofString "_law_timber",NameKind.local),(Str.ofString "_law_other",NameKind.free)],isGenerator:=false,isCoroutine:=false,more:=[]:Scope}) (["_law_timber"]:List Str) ([(1,"_law_other")]:List (Nat×Str)):=⟨by decide+kernel,by decide+kernel,by decide+kernel,by decide+kernel,by decide+kernel⟩
theorem ok_like{f:Addr}{fd:FuncData}(F:Fun K "_law_like" "_law_like" sLawLike f fd)(T:BltM mg)(c_law_set:Cal P w K mg base "_law_set" 1 ["_law_timbers"] (spRis K)):FnOk P w K mg base CX0 2 f fd ["_law_one","_law_other"] (spLike K):=by
 refine F.ok scLawLike (fun vs H Q E h=>?_) (fun cdv A outer s H vs Q E hr h=>?_)
 ·obtain⟨p,q,ns,ms,rfl,_⟩:=h
  rfl
 ·obtain⟨p,q,ns,ms,rfl,hS,hT,hl,hm,k⟩:=h
  refine⟨_,(pss_cons (ps_set (i:=2) scLawLike.nd rfl (Or.inl rfl) (pe_callB (cLen (K:=K) rfl) (by rfl) T.z_len bb_len (pa_cons (pe_lcomp rfl S_185_20 (piL (K:=K) rfl (pe_callC c_law_set (hr.mono (by omega)) (by rfl) (pa_cons (pv 0) pa_nil))) (by intro _ _ _ _ _;exact(pg_name (i:=0) nd_185_20 rfl (Or.inl rfl))) (by intro _ _ _ _ _;exact(pts_one (pt_cmpR (oIn (K:=K) rfl) (pv 0) (pv 1) (by with_unfolding_all rfl)))) (by intro _ _ _ _ _;exact(pv 0))) pa_nil)))
   (pss_one (ps_ret (pe_and (pe_cmpR op_gt (pe_op op_mul pe_int (pv 2)) (pe_callB (cLenS (w:=w) rfl) (by rfl) T.z_len bb_len (pa_cons (pe_callTy (cSetX (K:=K) (w:=w) rfl rfl rfl) (by rfl) T.z_set bb_set (pa_cons (pv 0) pa_nil)) pa_nil)) (nomark _)) (pe_one (pe_cmpR op_gt (pe_op op_mul pe_int (pv 2)) (pe_callB (cLenS (w:=w) rfl) (by rfl) T.z_len bb_len (pa_cons (pe_callTy (cSetX (K:=K) (w:=w) rfl rfl rfl) (by rfl) T.z_set bb_set (pa_cons (pv 1) pa_nil)) pa_nil)) (nomark _))))))),?_⟩
  walk_at "r"
  refine⟨p,ns,rfl,hS,hl,fun l H1 rs s1 _ hl1 ris=>?_⟩
  refine⟨l,rfl,⟨_,SqL.of hl1⟩,?_⟩
  have hT1:=hT.same s1
  have lr:rs.length≤ns.length:=ris.le fun x h=>h
  refine filterL (σ0:=[some (.ref q)]) (f:=fun z=>decide (z∈ms)) (by omega) (SqL.of hl1) ?_ ?_
  ·intro z R hR
   walk_at "r"
   refine i_inX hT1 ?_
   walk_at "r"
   exact hR
  intro e he
  have s2:=same_upd (o:=.lst ((rs.filter fun z=>decide (z∈ms)).map V.int)) he
  have ec:(rs.filter fun z=>decide (z∈ms)).length=cntB ns ms:=cntB_of (ris.nodup.filter _) fun x=>by rw[List.mem_filter,ris.2 x,decide_eq_true_iff]
  have hS2:=hS.same (s1.trans s2)
  have hT2:=hT.same (s1.trans s2)
  walk_at "r"
  rw[List.length_map,ec]
  walk_at "r"
  have b1:=cntB_le ns ms
  have b2:=cnt_le ns
  refine i_setX hS2 (by omega) fun a ks ha nd mem=>?_
  have s3:=same_upd (o:=setO w a ks) ha
  walk_at "r"
  refine i_lenS upd_same ?_
  rw[cnt_of nd mem]
  walk_at "r"
  have ee:likeB ns ms=(decide ((cnt ns:Int)<2*(cntB ns ms:Int)) && decide ((cnt ms:Int)<2*(cntB ns ms:Int))):=by
   unfold likeB
   congr 1
   ·exact decide_eq_decide.mpr (by omega)
   ·exact decide_eq_decide.mpr (by omega)
  refine ite2 (fun c1=>?_) (fun c1=>?_)
  ·walk_at "r"
   refine i_setX (hT2.same s3) (by omega) fun b js hb nd2 mem2=>?_
   have s4:=same_upd (o:=setO w b js) hb
   walk_at "r"
   refine i_lenS upd_same ?_
   rw[cnt_of nd2 mem2]
   walk_at "r"
   have q:=k _ ((s1.trans s2).trans (s3.trans s4))
   rw[ee,c1,Bool.true_and]at q
   exact q
  ·have q:=k _ ((s1.trans s2).trans s3)
   rw[ee,Bool.eq_false_iff.mpr c1,Bool.false_and]at q
   exact q
end
section
variable{P:Program}{w:World}{K:W.Frag}{mg:Str→Option Value}{base:Heap}
noncomputable def spMany(K:W.Frag):Sp:=fun vs H Q _=>∃(p q:Addr) (ns ms:List Int),vs=[.ref p,.ref q]∧SqX K H p (ns.map V.int)∧SqX K H q (ms.map V.int)∧ns.length<64∧ms.length<64∧∀H',Same H H'→Q (.int (cntB ns ms:Nat)) H'
abbrev sManyCommon:Stmt:=top 8
theorem scManyCommon:FnScope ["one","other"] ["one","other"] (defScope sManyCommon):=⟨rfl,rfl,rfl,by decide+kernel,rfl,by decide+kernel,by decide+kernel⟩
theorem ok_many{f:Addr}{fd:FuncData}(F:Fun K "many_common" "many_common" sManyCommon f fd)(T:BltM mg):FnOk P w K mg base CX0 1 f fd ["one","other"] (spMany K):=by
 refine F.ok scManyCommon (fun vs H Q E h=>?_) (fun cdv A outer s H vs Q E hr h=>?_)
 ·obtain⟨p,q,ns,ms,rfl,_⟩:=h
  rfl
 ·obtain⟨p,q,ns,ms,rfl,hS,hT,hl,hm,k⟩:=h
  refine⟨_,(pss_one (ps_ret (pe_callB (cLenS (w:=w) rfl) (by rfl) T.z_len bb_len (pa_cons (pe_op (oAndS (w:=w) rfl) (pe_callTy (cSetX (K:=K) (w:=w) rfl rfl rfl) (by rfl) T.z_set bb_set (pa_cons (pv 0) pa_nil)) (pe_callTy (cSetX (K:=K) (w:=w) rfl rfl rfl) (by rfl) T.z_set bb_set (pa_cons (pv 1) pa_nil))) pa_nil)))),?_⟩
  walk_at "r"
  refine i_setX hS (by omega) fun a ks ha nd mem=>?_
  have s1:=same_upd (o:=setO w a ks) ha
  walk_at "r"
  refine i_setX (hT.same s1) (by omega) fun b js hb nd2 mem2=>?_
  have s2:=same_upd (o:=setO w b js) hb
  have hab:a≠b:=ne_of_none upd_same hb
  refine i_andS (s2 _ _ upd_same) upd_same hab fun c kr hc nd3 mem3=>?_
  have s3:=same_upd (o:=setO w c kr) hc
  walk_at "r"
  refine i_lenS upd_same ?_
  rw[cntB_of (ns:=ns) (ms:=ms) nd3 fun x=>by rw[mem3 x,mem x,mem2 x]]
  exact k _ ((s1.trans s2).trans s3)
abbrev sSame:Stmt:=top 32
theorem scSame:FnScope ["one","other","shared"] ["one","other"] (defScope sSame):=⟨rfl,rfl,rfl,by decide+kernel,rfl,by decide+kernel,by decide+kernel⟩
theorem ok_sameP{f:Addr}{fd:FuncData}(F:Fun K "same" "same" sSame f fd)(T:BltM mg)(c_many_common:Cal P w K mg base "many_common" 1 ["one","other"] (spMany K))(c_rising:Cal P w K mg base "rising" 1 ["timbers"] (spRis K)):FnOk P w K mg base CX0 2 f fd ["one","other"] (spLike K):=by
 refine F.ok scSame (fun vs H Q E h=>?_) (fun cdv A outer s H vs Q E hr h=>?_)
 ·obtain⟨p,q,ns,ms,rfl,_⟩:=h
  rfl
 ·obtain⟨p,q,ns,ms,rfl,hS,hT,hl,hm,k⟩:=h
  refine⟨_,(pss_cons (ps_set (i:=2) scSame.nd rfl (Or.inl rfl) (pe_callC c_many_common (hr.mono (by omega)) (by rfl) (pa_cons (pv 0) (pa_cons (pv 1) pa_nil))))
   (pss_one (ps_ret (pe_and (pe_cmpR op_gt (pe_op op_mul pe_int (pv 2)) (pe_callB (cLen (K:=K) rfl) (by rfl) T.z_len bb_len (pa_cons (pe_callC c_rising (hr.mono (by omega)) (by rfl) (pa_cons (pv 0) pa_nil)) pa_nil)) (nomark _)) (pe_one (pe_cmpR op_gt (pe_op op_mul pe_int (pv 2)) (pe_callB (cLen (K:=K) rfl) (by rfl) T.z_len bb_len (pa_cons (pe_callC c_rising (hr.mono (by omega)) (by rfl) (pa_cons (pv 1) pa_nil)) pa_nil)) (nomark _))))))),?_⟩
  walk_at "r"
  refine⟨p,q,ns,ms,rfl,hS,hT,hl,hm,fun H1 s1=>?_⟩
  have b1:=cntB_le ns ms
  have b2:=cnt_le ns
  walk_at "r"
  refine⟨p,ns,rfl,hS.same s1,hl,fun l H2 rs s2 _ hl2 ris=>?_⟩
  have e1:rs.length=cnt ns:=cnt_of ris.nodup ris.2
  walk_at "r"
  rw[List.length_map,e1]
  walk_at "r"
  have ee:likeB ns ms=(decide ((cnt ns:Int)<2*(cntB ns ms:Int)) && decide ((cnt ms:Int)<2*(cntB ns ms:Int))):=by
   unfold likeB
   congr 1
   ·exact decide_eq_decide.mpr (by omega)
   ·exact decide_eq_decide.mpr (by omega)
  refine ite2 (fun c1=>?_) (fun c1=>?_)
  ·walk_at "r"
   refine⟨q,ms,rfl,hT.same (s1.trans s2),hm,fun l' H3 rs' s3 _ hl3 ris'=>?_⟩
   have e2:rs'.length=cnt ms:=cnt_of ris'.nodup ris'.2
   walk_at "r"
   rw[List.length_map,e2]
   have q:=k _ ((s1.trans s2).trans s3)
   rw[ee,c1,Bool.true_and]at q
   exact q
  ·have q:=k _ (s1.trans s2)
   rw[ee,Bool.eq_false_iff.mpr c1,Bool.false_and]at q
   exact q
end
noncomputable def FlAt(H:Hp)(c:Addr)(fl:List (List Int)):Prop:=∃ts:List Addr,H c=some (.lst (ts.map V.ref))∧ts.length=fl.length∧∀(i:Nat) t ns,ts[i]?=some t→fl[i]?=some ns→H t=some (.lst (ns.map V.int))
theorem FlAt.same{H H':Hp}{c:Addr}{fl:List (List Int)}(s:Same H H')(h:FlAt H c fl):FlAt H' c fl:=by
 obtain⟨ts,h1,h2,h3⟩:=h
 exact⟨ts,s _ _ h1,h2,fun i t ns e1 e2=>s _ _ (h3 i t ns e1 e2)⟩
noncomputable def fleetB(fl:List (List Int)):Bool:=fl.all (fun ns=>!decide (ns=[])) && decide (cnt fl.flatten=(fl.map cnt).sum)
theorem at_of{α:Type}{xs:List α}{n i:Nat}(h:xs.length=n)(hi:i<n):∃x,xs[i]?=some x:=⟨xs[i]'(by omega),List.getElem?_eq_getElem (by omega)⟩
theorem sum_le(fl:List (List Int)):(fl.map cnt).sum≤(fl.map List.length).sum:=by
 induction fl with
 |nil=>exact Nat.le_refl _
 |cons ns r ih=>
  rw[List.map_cons,List.map_cons,List.sum_cons,List.sum_cons]
  have:=cnt_le ns
  omega
theorem take_le(fl:List (List Int))(i:Nat):((fl.take i).map List.length).sum≤(fl.map List.length).sum:=by
 induction fl generalizing i with
 |nil=>simp
 |cons ns r ih=>
  cases i with
  |zero=>simp
  |succ i=>
   rw[List.take_succ_cons,List.map_cons,List.map_cons,List.sum_cons,List.sum_cons]
   have:=ih i
   omega
theorem mem_le{fl:List (List Int)}{ns:List Int}(h:ns∈fl):ns.length≤(fl.map List.length).sum:=by
 induction fl with
 |nil=>cases h
 |cons m r ih=>
  rw[List.map_cons,List.sum_cons]
  rcases List.mem_cons.mp h with rfl|h
  ·omega
  ·have:=ih h
   omega
section
variable{P:Program}{w:World}{K:W.Frag}{mg:Str→Option Value}{base:Heap}
noncomputable def spFleet:Sp:=fun vs H Q _=>∃(c:Addr) (fl:List (List Int)),vs=[.ref c]∧FlAt H c fl∧(fl.map List.length).sum<64∧∀H',Same H H'→Q (.bl (fleetB fl)) H'
abbrev sIsFleet:Stmt:=top 33
theorem scIsFleet:FnScope ["boats","timbers","boat"] ["boats"] (defScope sIsFleet):=⟨rfl,rfl,rfl,by decide+kernel,rfl,by decide+kernel,by decide+kernel⟩
theorem ok_fleet{f:Addr}{fd:FuncData}(F:Fun K "is_fleet" "is_fleet" sIsFleet f fd)(T:BltM mg)(c_rising:Cal P w K mg base "rising" 1 ["timbers"] (spRis K)):FnOk P w K mg base CX0 2 f fd ["boats"] spFleet:=by
 refine F.ok scIsFleet (fun vs H Q E h=>?_) (fun cdv A outer s H vs Q E hr h=>?_)
 ·obtain⟨c,fl,rfl,_⟩:=h
  rfl
 ·obtain⟨c,fl,rfl,⟨ts,hc,lt,hrow⟩,hsum,k⟩:=h
  unfold fleetB at k
  refine⟨_,(pss_cons (ps_set (i:=1) scIsFleet.nd rfl (Or.inl rfl) (pe_lst pa_nil))
   (pss_cons (ps_for PassesOwn.never rfl (piL (K:=K) rfl (pv 0)) (pg_name (i:=2) scIsFleet.nd rfl (Or.inl rfl)) (pss_cons (ps_if (pt_cmpR op_eq (pe_callB (cLen (K:=K) rfl) (by rfl) T.z_len bb_len (pa_cons (pv 2) pa_nil)) pe_int (nomark _)) (pss_one (ps_ret pe_bl)) pss_nil)
   (pss_one (ps_expr (mExt (K:=K) rfl (pv 1) (pa_cons (pe_callC c_rising (hr.mono (by omega)) (by rfl) (pa_cons (pv 2) pa_nil)) pa_nil))))))
   (pss_one (ps_ret (pe_cmpR op_eq (pe_callB (cLen (K:=K) rfl) (by rfl) T.z_len bb_len (pa_cons (pe_callC c_rising (hr.mono (by omega)) (by rfl) (pa_cons (pv 1) pa_nil)) pa_nil)) (pe_callB (cLen (K:=K) rfl) (by rfl) T.z_len bb_len (pa_cons (pv 1) pa_nil)) (nomark _)))))),?_⟩
  walk_at "r"
  refine⟨Nat.zero_le _,fun e he=>?_⟩
  have s1:=same_upd (o:=.lst []) he
  have he1:upd H e (.lst []) e=some (.lst ([]:List V)):=upd_same
  generalize upd H e (.lst [])=H1 at s1 he1⊢
  walk_at "r"
  refine⟨c,rfl,⟨_,SqL.of (s1 _ _ hc)⟩,?_⟩
  refine forW (fun i σ' H'=>(∃x,σ'=[some (.ref c),some (.ref e),x])∧Same H H'∧((fl.take i).all fun ns=>!decide (ns=[]))=true∧∃ks:List Int,H' e=some (.lst (ks.map V.int))∧ks.length=((fl.take i).map cnt).sum∧∀x,x∈ks↔x∈(fl.take i).flatten) fl.length
   ⟨⟨none,rfl⟩,s1,rfl,[],he1,rfl,fun x=>by simp⟩ ?_ ?_
  ·rintro σ' H2 ⟨⟨x,rfl⟩,s2,hall,ks,he2,lk,mk⟩
   refine⟨⟨_,SqL.of (s2 _ _ hc),by rw[List.length_map];omega⟩,?_⟩
   rw[List.take_of_length_le (Nat.le_refl _)]at hall lk mk
   have lks:ks.length<64:=by have:=sum_le fl;omega
   walk_at "r"
   refine⟨e,ks,rfl,.inl (SqL.of he2),lks,fun l H3 rs s3 _ hl3 ris=>?_⟩
   have he3:=s3 _ _ he2
   have er:rs.length=cnt fl.flatten:=by rw[cnt_of ris.nodup ris.2,cnt_congr mk]
   walk_at "r"
   rw[List.length_map,List.length_map,er,lk]
   rw[hall,Bool.true_and]at k
   have ed:decide (V.int ((cnt fl.flatten:Nat):Int)=V.int (((fl.map cnt).sum:Nat):Int))=decide (cnt fl.flatten=(fl.map cnt).sum):=by
    apply decide_eq_decide.mpr
    constructor
    ·intro h
     injection h with h
     omega
    ·intro h;rw[h]
   rw[ed]
   exact k _ (s2.trans s3)
  ·rintro i σ' H2 hi ⟨⟨x,rfl⟩,s2,hall,ks,he2,lk,mk⟩
   obtain⟨t,e1⟩:=at_of lt hi
   obtain⟨ns,e2⟩:=at_of (xs:=fl) rfl hi
   have ht:=s2 _ _ (hrow i t ns e1 e2)
   refine⟨⟨_,.ref t,SqL.of (s2 _ _ hc),by rw[List.getElem?_map,e1];rfl⟩,?_⟩
   rintro x' G ⟨rfl,hy⟩
   have ex:=hy _ (SqL.of (s2 _ _ hc))
   rw[List.getElem?_map,e1]at ex
   cases ex
   have et:fl.take (i+1)=fl.take i++[ns]:=by rw[List.take_succ,e2];rfl
   have lns:=mem_le (List.mem_of_getElem? e2)
   walk_at "r"
   rw[List.length_map]
   have e0:decide (V.int (ns.length:Int)=V.int 0)=decide (ns=[]):=by
    apply decide_eq_decide.mpr
    constructor
    ·intro h
     injection h with h
     exact List.length_eq_zero_iff.mp (by omega)
    ·rintro rfl;rfl
   rw[e0]
   cases h0:decide (ns=[])with
   |true=>
    refine iteT ?_
    walk_at "r"
    have hf:(fl.all fun ns=>!decide (ns=[]))=false:=by
     rw[Bool.eq_false_iff]
     intro z
     have:=List.all_eq_true.mp z ns (List.mem_of_getElem? e2)
     rw[h0]at this
     cases this
    rw[hf,Bool.false_and]at k
    exact k _ s2
   |false=>
    refine iteF ?_
    walk_at "r"
    refine⟨.inl ⟨rfl,_,SqL.of he2⟩,?_⟩
    walk_at "r"
    refine⟨t,ns,rfl,.inl (SqL.of ht),by omega,fun l H3 rs s3 _ hl3 ris=>?_⟩
    walk_at "r"
    have er:rs.length=cnt ns:=cnt_of ris.nodup ris.2
    have hk:ks.length≤64:=by
     have:=sum_le (fl.take i)
     have:=take_le fl i
     omega
    have hr:=cnt_le ns
    refine i_ext (s3 _ _ he2) hl3 (le_line (by rw[List.length_map,List.length_map];omega)) ?_
    walk_at "r"
    refine⟨⟨_,rfl⟩,fun b o q=>by rw[upd_ne (ne_of_none q he)];exact s3 _ _ (s2 _ _ q),?_,ks++rs,by rw[upd_same,List.map_append],?_,fun z=>?_⟩
    ·rw[et,List.all_append,hall]
     show(true && ((!decide (ns=[])) && true))=true
     rw[h0]
     rfl
    ·rw[et,List.length_append,lk,er,List.map_append,List.sum_append]
     simp
    ·rw[et,List.flatten_append,List.mem_append,List.mem_append,mk z,ris.2 z]
     simp
end
noncomputable def rowJ(a b:List (List Int))(i j:Nat):List (Nat×Nat):=((List.range j).filter fun k=>likeB (a.getD i []) (b.getD k [])).map fun k=>(i,k)
noncomputable def rowsI(a b:List (List Int))(i:Nat):List (Nat×Nat):=(List.range i).flatMap fun r=>rowJ a b r b.length
noncomputable def pairsOf(a b:List (List Int)):List (Nat×Nat):=rowsI a b a.length
theorem rowJ_succ(a b:List (List Int))(i j:Nat):rowJ a b i (j+1)=rowJ a b i j++(if likeB (a.getD i []) (b.getD j [])=true then[(i,j)]else[]):=by
 unfold rowJ
 rw[List.range_succ,List.filter_append,List.map_append]
 congr 1
 rw[List.filter_cons]
 split<;>rfl
theorem rowsI_succ(a b:List (List Int))(i:Nat):rowsI a b (i+1)=rowsI a b i++rowJ a b i b.length:=by
 unfold rowsI
 rw[List.range_succ,List.flatMap_append]
 simp
noncomputable def PrAt(H:Hp)(ts:List Addr)(ps:List (Nat×Nat)):Prop:=ts.length=ps.length∧∀(i:Nat) t p,ts[i]?=some t→ps[i]?=some p→H t=some (.tup [.int p.1,.int p.2])
theorem PrAt.same{H H':Hp}{ts:List Addr}{ps:List (Nat×Nat)}(s:Same H H')(h:PrAt H ts ps):PrAt H' ts ps:=⟨h.1,fun i t p e1 e2=>s _ _ (h.2 i t p e1 e2)⟩
theorem PrAt.snoc{H:Hp}{ts:List Addr}{ps:List (Nat×Nat)}{t:Addr}{p:Nat×Nat}(h:PrAt H ts ps)(ht:H t=some (.tup [.int p.1,.int p.2])):PrAt H (ts++[t]) (ps++[p]):=by
 refine⟨by simp[h.1],fun i t' p' e1 e2=>?_⟩
 rcases Nat.lt_or_ge i ts.length with q|q
 ·rw[List.getElem?_append_left q]at e1
  rw[List.getElem?_append_left (by rw[←h.1];exact q)]at e2
  exact h.2 i t' p' e1 e2
 ·rw[List.getElem?_append_right q]at e1
  rw[List.getElem?_append_right (by rw[←h.1];exact q),←h.1]at e2
  cases hi:i - ts.length with
  |zero=>
   rw[hi]at e1 e2
   cases e1;cases e2
   exact ht
  |succ j=>
   rw[hi]at e1
   simp at e1
section
variable{P:Program}{w:World}{K:W.Frag}{mg:Str→Option Value}{base:Heap}
noncomputable def spPaired:Sp:=fun vs H Q _=>∃(c e:Addr) (a b:List (List Int)),vs=[.ref c,.ref e]∧FlAt H c a∧FlAt H e b∧(a.map List.length).sum<64∧(b.map List.length).sum<64∧a.length≤60∧b.length≤60∧
 fleetB a=true∧fleetB b=true∧∀l H' (ts:List Addr),Same H H'→H l=none→H' l=some (.lst (ts.map V.ref))→PrAt H' ts (pairsOf a b)→Q (.ref l) H'
abbrev sPaired:Stmt:=top 34
theorem scPaired:FnScope ["ahead","behind"] ["ahead","behind"] (defScope sPaired):=⟨rfl,rfl,rfl,by decide+kernel,rfl,by decide+kernel,by decide+kernel⟩
theorem nd_103_11:(["at","one","to","other","behind"]:List Str).Nodup:=by decide+kernel
theorem S_103_11:CompScope ["ahead","behind"] (defScope sPaired) ({kind:=ScopeKind.function,names:=[(Str.ofString ".0",NameKind.local),(Str.ofString "at",NameKind.local),(Str.ofString "one",NameKind.local),(Str.ofString "to",NameKind.local),(Str.ofString "other",NameKind.local),(Str.ofString "enumerate",NameKind.globalImplicit),(Str.ofString "same",NameKind.globalImplicit),(Str.ofString "behind",NameKind.free)],isGenerator:=false,isCoroutine:=false,more:=[]:Scope}) (["at","one","to","other"]:List Str) ([(1,"behind")]:List (Nat×Str)):=⟨by decide+kernel,by decide+kernel,by decide+kernel,by decide+kernel,by decide+kernel⟩
theorem ok_paired{f:Addr}{fd:FuncData}(F:Fun K "paired" "paired" sPaired f fd)(T:BltM mg)(c_is_fleet:Cal P w K mg base "is_fleet" 2 ["boats"] spFleet)(c_same:Cal P w K mg base "same" 2 ["one","other"] (spLike K)):FnOk P w K mg base CX0 3 f fd ["ahead","behind"] spPaired:=by
 refine F.ok scPaired (fun vs H Q E h=>?_) (fun cdv A outer s H vs Q E hr h=>?_)
 ·obtain⟨c,e,a,b,rfl,_⟩:=h
  rfl
 ·obtain⟨c,e,a,b,rfl,fa,fb,sa,sb,la,lb,ga,gb,k⟩:=h
  refine⟨_,(pss_cons (ps_if ((pw_or (pt_not (pt_val (pe_callC c_is_fleet (hr.mono (by omega)) (by rfl) (pa_cons (pv 0) pa_nil)))) (pw_or1 (pt_not (pt_val (pe_callC c_is_fleet (hr.mono (by omega)) (by rfl) (pa_cons (pv 1) pa_nil))))))).pt (pss_one ps_dead) pss_nil)
   (pss_one (ps_ret (pe_lcomp2 rfl S_103_11 (piE (K:=K) rfl (by rfl) T.z_enumerate (pa_cons (pv 0) pa_nil)) (by intro _ _ _ _ _;exact(pgT (K:=K) (n:=2) rfl rfl (pgs_cons (pg_name (i:=0) nd_103_11 rfl (Or.inl rfl)) (pgs_cons (pg_name (i:=1) nd_103_11 rfl (Or.inl rfl)) pgs_nil)))) (by intro _ _ _ _ _;exact pts_nil) (by intro _ _ _ _ _;exact(pe_tup (pa_cons (pv 0) (pa_cons (pv 2) pa_nil)))) (by intro _ _ _ _ _;exact(piE (K:=K) rfl (by rfl) T.z_enumerate (pa_cons (pv 4) pa_nil))) (by intro _ _ _ _ _;exact(pgT (K:=K) (n:=2) rfl rfl (pgs_cons (pg_name (i:=2) nd_103_11 rfl (Or.inl rfl)) (pgs_cons (pg_name (i:=3) nd_103_11 rfl (Or.inl rfl)) pgs_nil)))) (by intro _ _ _ _ _;exact(pts_one (pt_val (pe_callC c_same (hr.mono (by omega)) (by rfl) (pa_cons (pv 1) (pa_cons (pv 3) pa_nil)))))))))),?_⟩
  walk_at "r"
  refine⟨c,a,rfl,fa,sa,fun H1 s1=>?_⟩
  rw[ga]
  walk_at "r"
  refine iteF ?_
  walk_at "r"
  refine⟨e,b,rfl,fb.same s1,sb,fun H2 s2'=>?_⟩
  rw[gb]
  walk_at "r"
  refine iteF ?_
  have s2:=s1.trans s2'
  obtain⟨ta,hc,lta,ra⟩:=fa.same s2
  obtain⟨tb,he,ltb,rb⟩:=fb.same s2
  walk_at "r"
  refine i_comp2 ?_
  walk_at "r"
  refine⟨c,rfl,⟨_,SqL.of hc⟩,?_⟩
  refine outW (fun i ys σ' H'=>(∃x y z u,σ'=[x,y,z,u,some (.ref e)])∧Same H2 H'∧∃ts:List Addr,ys=ts.map V.ref∧PrAt H' ts (rowsI a b i)∧ts.length≤i*b.length) a.length ⟨⟨none,none,none,none,rfl⟩,Same.refl _,[],rfl,⟨rfl,fun i t p h=>by simp at h⟩,Nat.zero_le _⟩ ?_ ?_
  ·rintro ys σ' H3 ⟨_,s3,ts,rfl,pr,_⟩
   refine⟨⟨_,SqL.of (s3 _ _ hc),by rw[List.length_map];omega⟩,fun l hl=>?_⟩
   have s4:=same_upd (o:=.lst (ts.map V.ref)) hl
   exact k l _ ts (s2.trans (s3.trans s4)) ((s2.trans s3).free hl) upd_same (pr.same s4)
  ·rintro i ys σ' H3 hi ⟨⟨x,y,z,u,rfl⟩,s3,ts,rfl,pr,lts⟩
   obtain⟨t,e1⟩:=at_of lta hi
   obtain⟨ns,e2⟩:=at_of (xs:=a) rfl hi
   have hns:=mem_le (List.mem_of_getElem? e2)
   refine⟨⟨_,.ref t,SqL.of (s3 _ _ hc),by rw[List.getElem?_map,e1];rfl⟩,?_⟩
   rintro x' H4 ⟨T',u',rfl,hn,rfl,q⟩
   have eu:=q _ (SqL.of (s3 _ _ hc))
   rw[List.getElem?_map,e1]at eu
   cases eu
   have s4:=s3.trans (same_upd (o:=.tup [.int i,.ref t]) hn)
   have pr4:=pr.same (same_upd (o:=.tup [.int i,.ref t]) hn)
   have hT:upd H3 T' (.tup [.int i,.ref t]) T'=some (.tup [.int i,.ref t]):=upd_same
   generalize upd H3 T' (.tup [.int i,.ref t])=H4 at s4 hT pr4⊢
   refine i_gtup (SqT.of hT) rfl ?_
   walk_at "r"
   refine iteT ?_
   walk_at "r"
   refine⟨e,rfl,⟨_,SqL.of (s4 _ _ he)⟩,?_⟩
   have hib:i*b.length≤60*60:=Nat.mul_le_mul (by omega) lb
   refine inW (fun j ys σ' H'=>(∃z u,σ'=[some (.int i),some (.ref t),z,u,some (.ref e)])∧Same H2 H'∧∃ts:List Addr,ys=ts.map V.ref∧PrAt H' ts (rowsI a b i++rowJ a b i j)∧ts.length≤i*b.length+j) b.length ⟨⟨_,_,rfl⟩,s4,ts,rfl,by simpa[rowJ]using pr4,by omega⟩ ?_ ?_
   ·rintro ys σ' H5 ⟨⟨z,u,rfl⟩,s5,ts,rfl,pr5,lts5⟩
    refine⟨⟨_,SqL.of (s5 _ _ he),by rw[List.length_map];omega⟩,?_⟩
    refine nxt hi ⟨⟨_,_,_,_,rfl⟩,s5,ts,rfl,by rw[rowsI_succ];exact pr5,by rw[Nat.succ_mul];exact lts5⟩
   ·rintro j ys σ' H5 hj ⟨⟨z,u,rfl⟩,s5,ts,rfl,pr5,lts5⟩
    obtain⟨t2,f1⟩:=at_of ltb hj
    obtain⟨ms,f2⟩:=at_of (xs:=b) rfl hj
    have hms:=mem_le (List.mem_of_getElem? f2)
    refine⟨⟨_,.ref t2,SqL.of (s5 _ _ he),by rw[List.getElem?_map,f1];rfl⟩,Nat.lt_of_lt_of_le (show _<10000 by rw[List.length_map];omega) (by decide),?_⟩
    rintro x' H6 ⟨T2,u',rfl,hn2,rfl,q2⟩
    have eu:=q2 _ (SqL.of (s5 _ _ he))
    rw[List.getElem?_map,f1]at eu
    cases eu
    have sn:=same_upd (o:=.tup [.int j,.ref t2]) hn2
    have hT2:upd H5 T2 (.tup [.int j,.ref t2]) T2=some (.tup [.int j,.ref t2]):=upd_same
    generalize upd H5 T2 (.tup [.int j,.ref t2])=H6 at sn hT2⊢
    have s6:=s5.trans sn
    have pr6:=pr5.same sn
    refine i_gtup (SqT.of hT2) rfl ?_
    walk_at "r"
    have ga':a.getD i []=ns:=by rw[List.getD_eq_getElem?_getD,e2];rfl
    have gb':b.getD j []=ms:=by rw[List.getD_eq_getElem?_getD,f2];rfl
    refine⟨t,t2,ns,ms,rfl,.inl (SqL.of (s6 _ _ (ra i t ns e1 e2))),.inl (SqL.of (s6 _ _ (rb j t2 ms f1 f2))),by omega,by omega,fun H7 s7=>?_⟩
    walk_at "r"
    cases hlk:likeB ns ms with
    |false=>
     refine iteF ?_
     refine nxt hj ⟨⟨_,_,rfl⟩,s6.trans s7,ts,rfl,?_,by omega⟩
     rw[rowJ_succ,ga',gb',hlk,if_neg Bool.false_ne_true,List.append_nil]
     exact pr6.same s7
    |true=>
     refine iteT ?_
     walk_at "r"
     refine⟨by show 2≤sizeLine;decide,fun T3 hT3=>?_⟩
     have s8:=same_upd (o:=.tup [.int i,.int j]) hT3
     refine nxt hj ⟨⟨_,_,rfl⟩,(s6.trans s7).trans s8,ts++[T3],by rw[List.map_append];rfl,?_,by rw[List.length_append,List.length_singleton];omega⟩
     rw[rowJ_succ,ga',gb',hlk,if_pos rfl,←List.append_assoc]
     exact((pr6.same s7).same s8).snoc (p:=(i,j)) upd_same
end
section
variable{P:Program}{w:World}{K:W.Frag}{mg:Str→Option Value}{base:Heap}
noncomputable def spPairsL(K:W.Frag):Sp:=fun vs H Q _=>∃(c e:Addr) (a b:List (List Int)),vs=[.ref c,.ref e]∧FlAt H c a∧FlAt H e b∧(a.map List.length).sum<64∧(b.map List.length).sum<64∧a.length≤60∧b.length≤60∧
 ∀l H' (ts:List Addr),Same H H'→H l=none→H' l=some (.lst (ts.map V.ref))→PrAt H' ts (pairsOf a b)→Q (.ref l) H'
theorem PrAt.append{H:Hp}{ts us:List Addr}{ps qs:List (Nat×Nat)}(h:PrAt H ts ps)(g:PrAt H us qs):PrAt H (ts++us) (ps++qs):=by
 refine⟨by rw[List.length_append,List.length_append,h.1,g.1],fun i t p e1 e2=>?_⟩
 rcases Nat.lt_or_ge i ts.length with q|q
 ·rw[List.getElem?_append_left q]at e1
  rw[List.getElem?_append_left (by rw[←h.1];exact q)]at e2
  exact h.2 i t p e1 e2
 ·rw[List.getElem?_append_right q]at e1
  rw[List.getElem?_append_right (by rw[←h.1];exact q),←h.1]at e2
  exact g.2 _ t p e1 e2
theorem FlAt.at{H:Hp}{c:Addr}{fl:List (List Int)}{i:Nat}(h:FlAt H c fl)(hi:i<fl.length):∃(xs:List V) (t:Addr) (ns:List Int),H c=some (.lst xs)∧xs.length=fl.length∧xs[i]?=some (.ref t)∧fl[i]?=some ns∧H t=some (.lst (ns.map V.int)):=by
 obtain⟨ts,h1,h2,h3⟩:=h
 obtain⟨t,e1⟩:=at_of h2 hi
 obtain⟨ns,e2⟩:=at_of (xs:=fl) rfl hi
 exact⟨_,t,ns,h1,by rw[List.length_map,h2],by rw[List.getElem?_map,e1];rfl,e2,h3 i t ns e1 e2⟩
abbrev sLawPairs:Stmt:=top 60
theorem scLawPairs:FnScope ["_law_ahead","_law_behind","_law_found","_law_at"] ["_law_ahead","_law_behind"] (defScope sLawPairs):=⟨rfl,rfl,rfl,by decide+kernel,rfl,by decide+kernel,by decide+kernel⟩
theorem nd_211_34:(["_law_to","_law_ahead","_law_behind","_law_at"]:List Str).Nodup:=by decide+kernel
theorem S_211_34:CompScope ["_law_ahead","_law_behind","_law_found","_law_at"] (defScope sLawPairs) ({kind:=ScopeKind.function,names:=[(Str.ofString ".0",NameKind.local),(Str.ofString "_law_to",NameKind.local),(Str.ofString "_law_like",NameKind.globalImplicit),(Str.ofString "_law_ahead",NameKind.free),(Str.ofString "_law_at",NameKind.free),(Str.ofString "_law_behind",NameKind.free)],isGenerator:=false,isCoroutine:=false,more:=[]:Scope}) (["_law_to"]:List Str) ([(0,"_law_ahead"),(1,"_law_behind"),(3,"_law_at")]:List (Nat×Str)):=⟨by decide+kernel,by decide+kernel,by decide+kernel,by decide+kernel,by decide+kernel⟩
theorem ok_pairsL{f:Addr}{fd:FuncData}(F:Fun K "_law_pairs" "_law_pairs" sLawPairs f fd)(T:BltM mg)(c_law_like:Cal P w K mg base "_law_like" 2 ["_law_one","_law_other"] (spLike K)):FnOk P w K mg base CX0 3 f fd ["_law_ahead","_law_behind"] (spPairsL K):=by
 refine F.ok scLawPairs (fun vs H Q E h=>?_) (fun cdv A outer s H vs Q E hr h=>?_)
 ·obtain⟨c,e,a,b,rfl,_⟩:=h
  rfl
 ·obtain⟨c,e,a,b,rfl,fa,fb,sa,sb,la,lb,k⟩:=h
  refine⟨_,(pss_cons (ps_set (i:=2) scLawPairs.nd rfl (Or.inl rfl) (pe_lst pa_nil))
   (pss_cons (ps_for PassesOwn.never rfl (pi_range1 (by rfl) T.z_range (pa_cons (pe_callB (cLen (K:=K) rfl) (by rfl) T.z_len bb_len (pa_cons (pv 0) pa_nil)) pa_nil)) (pg_name (i:=3) scLawPairs.nd rfl (Or.inr rfl)) (pss_one (ps_set (i:=2) scLawPairs.nd rfl (Or.inl rfl) (pe_op op_cat (pv 2) (pe_lcomp rfl S_211_34 (pi_range1 (by rfl) T.z_range (pa_cons (pe_callB (cLen (K:=K) rfl) (by rfl) T.z_len bb_len (pa_cons (pv 1) pa_nil)) pa_nil)) (by intro _ _ _ _ _;exact(pg_name (i:=0) nd_211_34 rfl (Or.inl rfl))) (by intro _ _ _ _ _;exact(pts_one (pt_val (pe_callC c_law_like (hr.mono (by omega)) (by rfl) (pa_cons (pe_ix (ixL (K:=K) rfl) (pv 1) (pv 3) (fun _ _=>rfl)) (pa_cons (pe_ix (ixL (K:=K) rfl) (pv 2) (pv 0) (fun _ _=>rfl)) pa_nil)))))) (by intro _ _ _ _ _;exact(pe_tup (pa_cons (pv 3) (pa_cons (pv 0) pa_nil)))))))))
   (pss_one (ps_ret (pv 2))))),?_⟩
  walk_at "r"
  refine⟨Nat.zero_le _,fun o ho=>?_⟩
  have s1:=same_upd (o:=.lst []) ho
  have ho1:upd H o (.lst []) o=some (.lst ([]:List V)):=upd_same
  generalize upd H o (.lst [])=H1 at s1 ho1⊢
  obtain⟨tsa,hca,lta,_⟩:=id fa
  obtain⟨tsb,hcb,ltb,_⟩:=id fb
  walk_at "r"
  refine i_len (SqL.of (s1 _ _ hca)) ?_
  rw[List.length_map,lta]
  walk_at "r"
  refine⟨_,rfl,by omega,by omega,?_⟩
  rw[show((a.length:Nat):Int).toNat=a.length by omega]
  refine forW (fun i σ' H'=>(∃(p:Addr) (x:Option V) (ts:List Addr),σ'=[some (.ref c),some (.ref e),some (.ref p),x]∧H' p=some (.lst (ts.map V.ref))∧H p=none∧PrAt H' ts (rowsI a b i)∧ts.length≤i*60)∧Same H H') a.length ⟨⟨o,none,[],rfl,ho1,ho,⟨rfl,fun i t p h=>by simp at h⟩,Nat.zero_le _⟩,s1⟩ ?_ ?_
  ·rintro σ' H2 ⟨⟨p,x,ts,rfl,hp,hn,pr,_⟩,s2⟩
   refine⟨Nat.le_refl _,?_⟩
   walk_at "r"
   exact k p H2 ts s2 hn hp pr
  ·rintro i σ' H2 hi ⟨⟨p,x,ts,rfl,hp,hn,pr,lts⟩,s2⟩
   refine⟨hi,?_⟩
   rintro x' G ⟨rfl,rfl⟩
   rw[Int.zero_add]
   walk_at "r"
   refine i_len (SqL.of (s2 _ _ hcb)) ?_
   rw[List.length_map,ltb]
   walk_at "r"
   refine⟨_,rfl,by omega,by omega,?_⟩
   rw[show((b.length:Nat):Int).toNat=b.length by omega]
   obtain⟨xsa,ta,ns,ha2,lxa,exa,e2,hta⟩:=(fa.same s2).at hi
   have hns:=mem_le (List.mem_of_getElem? e2)
   refine compW (fun j ys σ' H'=>(∃z,σ'=[z,some (.ref c),some (.ref e),some (.int i)])∧Same G H'∧∃us:List Addr,ys=us.map V.ref∧PrAt H' us (rowJ a b i j)∧us.length≤j) b.length ⟨⟨none,rfl⟩,Same.refl _,[],rfl,⟨rfl,fun i t p h=>by simp at h⟩,Nat.zero_le _⟩ ?_ ?_
   ·rintro ys σ' H3 ⟨_,s3,us,rfl,pr3,lu⟩
    refine⟨Nat.le_refl _,fun l hl=>?_⟩
    have s4:=s3.trans (same_upd (o:=.lst (us.map V.ref)) hl)
    have hl4:upd H3 l (.lst (us.map V.ref)) l=_:=upd_same
    have pr4:=pr3.same (same_upd (o:=.lst (us.map V.ref)) hl)
    generalize upd H3 l (.lst (us.map V.ref))=H4 at s4 hl4 pr4⊢
    walk_at "r"
    have hb6:i*60≤60*60:=Nat.mul_le_mul (by omega) (Nat.le_refl _)
    refine i_cat (s4 _ _ hp) hl4 (Nat.le_trans (show _≤10000 by rw[List.length_map,List.length_map];omega) (by decide)) fun q hq=>?_
    have s5:=same_upd (o:=.lst (ts.map V.ref++us.map V.ref)) hq
    walk_at "r"
    refine⟨⟨q,_,ts++us,rfl,by rw[upd_same,List.map_append],(s2.trans s4).free hq,?_,by rw[List.length_append];omega⟩,s2.trans (s4.trans s5)⟩
    rw[rowsI_succ]
    exact((pr.same s4).same s5).append (pr4.same s5)
   ·rintro j ys σ' H3 hj ⟨⟨z,rfl⟩,s3,us,rfl,pr3,lu⟩
    refine⟨hj,Nat.lt_of_lt_of_le (show _<10000 by rw[List.length_map];omega) (by decide),?_⟩
    rintro x' G3 ⟨rfl,rfl⟩
    rw[Int.zero_add]
    obtain⟨xsb,tb,ms,hb2,lxb,exb,f2,htb⟩:=((fb.same s2).same s3).at hj
    have hms:=mem_le (List.mem_of_getElem? f2)
    walk_at "r"
    refine i_ixL (SqL.of (s3 _ _ ha2)) (v:=.ref ta) (atI_nat exa) ?_
    walk_at "r"
    refine i_ixL (SqL.of hb2) (v:=.ref tb) (atI_nat exb) ?_
    walk_at "r"
    have ga':a.getD i []=ns:=by rw[List.getD_eq_getElem?_getD,e2];rfl
    have gb':b.getD j []=ms:=by rw[List.getD_eq_getElem?_getD,f2];rfl
    refine⟨ta,tb,ns,ms,rfl,.inl (SqL.of (s3 _ _ hta)),.inl (SqL.of htb),by omega,by omega,fun H7 s7=>?_⟩
    walk_at "r"
    cases hlk:likeB ns ms with
    |false=>
     refine iteF ?_
     refine nxt hj ⟨⟨_,rfl⟩,s3.trans s7,us,rfl,?_,by omega⟩
     rw[rowJ_succ,ga',gb',hlk,if_neg Bool.false_ne_true,List.append_nil]
     exact pr3.same s7
    |true=>
     refine iteT ?_
     walk_at "r"
     refine⟨by show 2≤sizeLine;decide,fun T3 hT3=>?_⟩
     have s8:=same_upd (o:=.tup [.int i,.int j]) hT3
     refine nxt hj ⟨⟨_,rfl⟩,(s3.trans s7).trans s8,us++[T3],by rw[List.map_append];rfl,?_,by rw[List.length_append,List.length_singleton];omega⟩
     rw[rowJ_succ,ga',gb',hlk,if_pos rfl]
     exact((pr3.same s7).same s8).snoc (p:=(i,j)) upd_same
end
end K57
namespace K57
open PySem L2
local macro_rules| `(tactic|walk_at "s")=> `(tactic|first|(with_reducible refine i_seq ?_)|(with_reducible refine i_asg ?_)|(with_reducible refine i_ret ?_)|(with_reducible refine i_if ?_)|(with_reducible refine i_next ?_)|(with_reducible refine i_drop ?_)|((with_reducible refine' i_var ?k1 ?_);(case k1=>exact rfl))|(with_reducible refine i_tC ?_)|(with_reducible refine i_op ?_)|(with_reducible refine i_un ?_)|(with_reducible refine i_rI0 ?_)|(with_reducible refine i_rU ?_)|((with_reducible refine' i_rEq ?k1 ?_);(case k1=>exact rfl))|((with_reducible refine' i_rNe ?k1 ?_);(case k1=>exact rfl))|(with_reducible refine i_test ?_)|(with_reducible refine i_tB ?_)|(with_reducible refine i_bl ?_)|(with_reducible refine i_int ?_)|(with_reducible refine i_and ?_)|(with_reducible refine i_or ?_)|(with_reducible refine i_not ?_)|(with_reducible refine i_andV ?_)|(with_reducible refine i_orV ?_)|(with_reducible refine i_notV ?_)|(with_reducible refine i_isN ?_)|(with_reducible refine i_notN ?_)|(with_reducible refine i_ifE ?_)|(with_reducible refine i_name ?_)|(with_reducible refine i_cons ?_)|(with_reducible refine i_nil ?_)|(with_reducible refine i_cb ?_)|(with_reducible refine i_call ?_)|(with_reducible refine i_tup ?_)|(with_reducible refine i_lst ?_)|(with_reducible refine i_gsub ?_)|(with_reducible refine i_gcons ?_)|(with_reducible refine i_gnil ?_)|(with_reducible refine i_yes ?_)|(with_reducible refine i_slice ?_)|(with_reducible refine i_nopart ?_)|(with_reducible refine i_part ?_)|(with_reducible refine i_abs ?_)|((with_reducible refine' i_ixL ?k1 ?k2 ?_);(case k1=>first|exact SqL.of (by assumption)|assumption|exact SqL.of upd_same);(case k2=>exact rfl))|((with_reducible refine' i_ixT ?k1 ?k2 ?_);(case k1=>first|exact SqT.of (by assumption)|assumption|exact SqT.of upd_same);(case k2=>exact rfl))|((with_reducible refine' i_setL ?k1 ?k2 ?_);(case k1=>first|assumption|exact upd_same);(case k2=>exact rfl))|((with_reducible refine' i_gtup ?k1 ?k2 ?_);(case k1=>first|exact SqT.of (by assumption)|assumption|exact SqT.of upd_same);(case k2=>exact rfl))|((with_reducible refine' i_len ?k1 ?_);(case k1=>first|exact SqL.of (by assumption)|assumption|exact SqL.of upd_same))|((with_reducible refine' i_lenT ?k1 ?_);(case k1=>first|exact SqT.of (by assumption)|assumption|exact SqT.of upd_same))|((with_reducible refine' i_list ?k1 ?_);(case k1=>first|exact SqL.of (by assumption)|assumption|exact SqL.of upd_same))|((with_reducible refine' i_slL ?k1 ?_);(case k1=>first|exact SqL.of (by assumption)|assumption|exact SqL.of upd_same))|((with_reducible refine' i_isi ?k1 ?k2 ?_);(case k1=>assumption);(case k2=>decide))|((with_reducible refine i_rI ?k1 ?_);(case k1=>first|(show(0:Int)<_;decide)|(show CPow _ _;exact⟨by decide,by decide,by decide⟩)|(show CDiv _ _;exact⟨by decide,by decide⟩)|(show CMul _ _;exact .inr ⟨by decide,by decide⟩)|(show CMul _ _;exact .inl ⟨by decide,by decide⟩)|(show(0:Int)<_;omega)|(show CDiv _ _;exact⟨by omega,by omega⟩)|(show CMul _ _;exact .inr ⟨by omega,by omega⟩)|(show CMul _ _;exact .inl ⟨by omega,by omega⟩)))|(with_reducible refine i_comp ?_)|(with_reducible refine i_zip ?_)|(with_reducible refine i_itL ?_)|(with_reducible refine i_itT ?_)|(with_reducible refine i_rng1 ?_)|(with_reducible refine i_bm ?_)|(with_reducible refine i_for ?_)|(with_reducible refine i_min2 ?_)|(with_reducible refine i_max2 ?_)|(with_reducible refine i_rng2 ?_)|(with_reducible refine i_intB ?_)|(with_reducible refine i_rev ?_)|(with_reducible refine i_rngB ?_)|(with_reducible refine i_itS ?_)|(with_reducible refine i_inStr ?_)|(with_reducible refine i_find ?_)|(with_reducible refine i_itE ?_)|(with_reducible refine i_comp3 ?_)|(with_reducible refine i_bm0 ?_)|(with_reducible refine i_par ?_)|(with_reducible refine i_two ?_)|((with_reducible refine' i_aug ?k1 ?_);(case k1=>exact rfl))|(with_reducible refine i_ip ?_)|(with_reducible refine i_min3 ?_)|(with_reducible refine i_dget ?_)|(with_reducible refine i_din ?_)|(with_reducible refine i_dnotin ?_)|(with_reducible refine i_dput ?_)|(with_reducible refine i_dget1 ?_))| `(tactic|walk_at "r")=> `(tactic|repeat walk_at "s")
noncomputable def pB(S:List (List Int))(g:List Int):Nat→List Int→Bool
 |0,_=>true
 |n+1,y=>pB S g n y && !decide (y∈(rg S g n).1)
theorem left_filter{S:List (List Int)}{g:List Int}:∀n,(rg S g n).2=S.filter (pB S g n)
 |0=>by
  show S=S.filter fun _=>true
  rw[List.filter_eq_self.mpr fun _ _=>rfl]
 |n+1=>by
  show(rg S g n).2.filter _=_
  rw[left_filter n,List.filter_filter]
  congr 1
  funext y
  show _=(pB S g n y && !decide (y∈(rg S g n).1))
  rw[Bool.and_comm]
theorem ring_filter{S:List (List Int)}{g:List Int}(n:Nat):(rg S g (n+1)).1=S.filter fun y=>pB S g (n+1) y && (rg S g n).1.any fun z=>nearB y z:=by
 show List.filter _ (rg S g (n+1)).2=_
 rw[left_filter (n+1),List.filter_filter]
 congr 1
 funext y
 rw[Bool.and_comm]
theorem pB_iff{S:List (List Int)}{g y:List Int}:∀n,pB S g n y=true↔∀i,i<n→y∉ (rg S g i).1
 |0=>⟨fun _ i hi=>by omega,fun _=>rfl⟩
 |n+1=>by
  unfold pB
  rw[Bool.and_eq_true,pB_iff n]
  constructor
  ·rintro⟨h1,h2⟩ i hi
   rcases Nat.lt_or_ge i n with q|q
   ·exact h1 i q
   ·have:i=n:=by omega
    subst this
    simpa using h2
  ·intro h
   exact⟨fun i hi=>h i (by omega),by simpa using h n (by omega)⟩
noncomputable def FD(S:List (List Int))(g:List Int)(n:Nat)(kvs:List (List Key×V)):Prop:=∀y:List Int,(∀i,i≤n→y∈(rg S g i).1→valV kvs (kI y)=some (.int (i:Int)))∧((∀i,i≤n→y∉ (rg S g i).1)→valV kvs (kI y)=none)
theorem FD.isSome{S:List (List Int)}{g:List Int}{n:Nat}{kvs:List (List Key×V)}(h:FD S g n kvs)(y:List Int):(valV kvs (kI y)).isSome=!pB S g (n+1) y:=by
 cases hp:pB S g (n+1) y with
 |true=>
  rw[(h y).2 fun i hi=>(pB_iff (n+1)).mp hp i (by omega)]
  rfl
 |false=>
  rcases Classical.em (∃i,i≤n∧y∈(rg S g i).1)with⟨i,hi,m⟩|q
  ·rw[(h y).1 i hi m]
   rfl
  ·rw[(pB_iff (n+1)).mpr fun i hi m=>q ⟨i,by omega,m⟩]at hp
   cases hp
theorem FD.zero{S:List (List Int)}{g:List Int}:FD S g 0 [(kI g,.int 0)]:=by
 intro y
 refine⟨fun i hi m=>?_,fun h=>?_⟩
 ·have:i=0:=by omega
  subst this
  have e:y=g:=List.mem_singleton.mp m
  rw[e]
  exact valV_pos rfl
 ·have e:¬kI g=kI y:=fun z=>h 0 (Nat.le_refl _) (by rw[←kI_inj z];exact List.mem_singleton.mpr rfl)
  rw[valV_neg e]
  rfl
theorem FD.next{S:List (List Int)}{g:List Int}{n:Nat}{kvs kvs':List (List Key×V)}(h:FD S g n kvs)(e:∀y,valV kvs' (kI y)=if y∈(rg S g (n+1)).1 then some (.int ((n+1:Nat):Int))else valV kvs (kI y)):FD S g (n+1) kvs':=by
 intro y
 refine⟨fun i hi m=>?_,fun q=>?_⟩
 ·rw[e y]
  rcases Nat.lt_or_ge n i with z|z
  ·have:i=n+1:=by omega
   subst this
   rw[if_pos m]
  ·rw[if_neg (fun m2=>by have:=ring_one m m2;omega)]
   exact(h y).1 i z m
 ·rw[e y,if_neg (q (n+1) (Nat.le_refl _))]
  exact(h y).2 fun i hi=>q i (by omega)
theorem FD.last{S:List (List Int)}{g:List Int}{n:Nat}{kvs:List (List Key×V)}(h:FD S g n kvs)(e:(rg S g n).1=[])(y:List Int):(valV kvs (kI y)).getD .non=oV (hgI S g y):=by
 rcases Classical.em (∃i,y∈(rg S g i).1)with⟨i,m⟩|q
 ·have hi:i≤n:=by
   rcases Nat.lt_or_ge n i with z|z
   ·have:=ring_nil e (i - n)
    rw[show n+(i - n)=i by omega]at this
    rw[this]at m
    cases m
   ·exact z
  rw[(h y).1 i hi m]
  unfold hgI
  rw[hgt_some m]
  rfl
 ·rw[(h y).2 fun i _ m=>q ⟨i,m⟩]
  unfold hgI
  rw[hgt_none fun i m=>q ⟨i,m⟩]
  rfl
theorem ring_len{S:List (List Int)}{g:List Int}:∀n,(rg S g n).1.length≤S.length+1
 |0=>by show 1≤_;omega
 |n+1=>by
  rw[ring_filter]
  exact Nat.le_trans (List.length_filter_le _ _) (by omega)
theorem TsAt.snoc{H:Hp}{t:Addr}{ys:List Int}{ts:List Addr}{yss:List (List Int)}(h:TsAt H ts yss)(e:H t=some (.tup (ys.map V.int))):TsAt H (ts++[t]) (yss++[ys]):=by
 refine⟨by rw[List.length_append,List.length_append,h.1];rfl,fun i t' p e1 e2=>?_⟩
 rcases Nat.lt_trichotomy i ts.length with q|q|q
 ·rw[List.getElem?_append_left q]at e1
  rw[List.getElem?_append_left (by rw[←h.1];exact q)]at e2
  exact h.2 i t' p e1 e2
 ·subst q
  rw[List.getElem?_append_right (Nat.le_refl _),Nat.sub_self]at e1
  rw[List.getElem?_append_right (by rw[h.1];exact Nat.le_refl _),h.1,Nat.sub_self]at e2
  cases e1;cases e2
  exact e
 ·rw[List.getElem?_append_right (by omega),List.getElem?_eq_none (by simp;omega)]at e1
  cases e1
section
variable{P:Program}{w:World}{K:W.Frag}{mg:Str→Option Value}{base:Heap}
theorem filtC2{H1:Hp}{l:Addr}{ts:List Addr}{yss:List (List Int)}{tt:TT}{f:List Int→Bool}{fr:St}{Fin:List V→Hp→Prop}(hl:H1 l=some (.lst (ts.map V.ref)))(hts:TsAt H1 ts yss)(le:yss.length≤1001)
  (step:∀t ys H' (R:Bool→Hp→Prop),Same H1 H'→H1 t=some (.tup (ys.map V.int))→ys∈yss→(∀H3,Same H1 H3→R (f ys) H3)→tt (some (.ref t)::fr) H' R)
  (fin:∀us H',Same H1 H'→TsAt H1 us (yss.filter f)→Fin (us.map V.ref) H'):CompT (Itl K l) (gName 0) tt (tVar 0) Fin (none::fr) H1:=by
 refine compW (fun i ys σ' H'=>(∃x,σ'=x::fr)∧Same H1 H'∧∃us:List Addr,ys=us.map V.ref∧TsAt H1 us ((yss.take i).filter f)∧us.length≤i) yss.length ⟨⟨none,rfl⟩,Same.refl _,[],rfl,⟨rfl,fun j t p e=>by simp at e⟩,Nat.le_refl _⟩ ?_ ?_
 ·rintro ys σ' H' ⟨_,s1,us,rfl,pu,_⟩
  rw[List.take_length]at pu
  exact⟨⟨_,SqL.of (s1 _ _ hl),by rw[List.length_map,hts.1];exact Nat.le_refl _⟩,fin us H' s1 pu⟩
 ·rintro i ys σ' H' hi ⟨⟨x0,rfl⟩,s1,us,rfl,pu,lu⟩
  have hi2:i<ts.length:=by rw[hts.1];exact hi
  have e1:ts[i]?=some ts[i]:=List.getElem?_eq_getElem hi2
  have e2:yss[i]?=some yss[i]:=List.getElem?_eq_getElem hi
  have ht:=hts.2 i _ _ e1 e2
  refine⟨⟨_,.ref ts[i],SqL.of (s1 _ _ hl),by rw[List.getElem?_map,e1];rfl⟩,Nat.lt_of_le_of_lt (show(us.map V.ref).length≤1001 by rw[List.length_map];omega) (by decide),?_⟩
  rintro x' G ⟨rfl,hy⟩
  have ex:=hy _ (SqL.of (s1 _ _ hl))
  rw[List.getElem?_map,e1]at ex
  cases ex
  refine i_name ?_
  have et:yss.take (i+1)=yss.take i++[yss[i]]:=by rw[List.take_succ,e2];rfl
  refine step ts[i] yss[i] _ _ s1 ht (List.getElem_mem hi) fun H3 s3=>?_
  cases hf:f yss[i]with
  |false=>
   refine iteF ?_
   refine nxt hi ⟨⟨_,rfl⟩,s3,us,rfl,?_,by omega⟩
   rw[et,List.filter_append,List.filter_cons,hf]
   simpa using pu
  |true=>
   refine iteT ?_
   refine i_var rfl ?_
   refine nxt hi ⟨⟨_,rfl⟩,s3,us++[ts[i]],by rw[List.map_append];rfl,?_,by rw[List.length_append];show _+1≤_;omega⟩
   rw[et,List.filter_append,List.filter_cons,hf]
   show TsAt H1 (us++[ts[i]]) ((yss.take i).filter f++[yss[i]])
   refine⟨by simp[pu.1],fun j t' p' f1 f2=>?_⟩
   rcases Nat.lt_or_ge j us.length with q|q
   ·rw[List.getElem?_append_left q]at f1
    rw[List.getElem?_append_left (by rw[←pu.1];exact q)]at f2
    exact pu.2 j t' p' f1 f2
   ·rw[List.getElem?_append_right q]at f1
    rw[List.getElem?_append_right (by rw[←pu.1];exact q),←pu.1]at f2
    cases hz:j - us.length with
    |zero=>
     rw[hz]at f1 f2
     cases f1;cases f2
     exact ht
    |succ m=>
     rw[hz]at f1
     simp at f1
structure Lat(H:Hp)(D:Addr)(yss:List (List Int))(h:Int):Prop where
 ex:∃es tt:List Addr,H D=some (.lst (es.map V.ref))∧es.length=tt.length∧(∀(i:Nat) e t,es[i]?=some e→tt[i]?=some t→H e=some (.tup [.ref t,.int h]))∧TsAt H tt yss
theorem Lat.same{H H':Hp}{D:Addr}{yss:List (List Int)}{h:Int}(l:Lat H D yss h)(s:Same H H'):Lat H' D yss h:=by
 obtain⟨es,tt,a,b,c,d⟩:=l.ex
 exact⟨es,tt,s _ _ a,b,fun i e t e1 e2=>s _ _ (c i e t e1 e2),d.same s⟩
theorem TsAt.but{H H':Hp}{d:Addr}{kvs:List (List Key×V)}{ts:List Addr}{yss:List (List Int)}(b:But d H H')(hd:H d=some (.dT kvs))(h:TsAt H ts yss):TsAt H' ts yss:=
 ⟨h.1,fun i t p e1 e2=>by
  have z:=h.2 i t p e1 e2
  exact b _ _ (ne_of z hd (by intro q;cases q)) z⟩
theorem StL.but{H H':Hp}{d l:Addr}{kvs:List (List Key×V)}{yss:List (List Int)}(b:But d H H')(hd:H d=some (.dT kvs))(h:StL H l yss):StL H' l yss:=by
 obtain⟨ts,h1,h2⟩:=h
 exact⟨ts,b _ _ (ne_of h1 hd (by intro q;cases q)) h1,TsAt.but b hd h2⟩
noncomputable def spHeightsL(K:W.Frag):Sp:=fun vs H Q _=>∃(t:Addr) (a b c:Nat) (slip:Int),vs=[.ref t,.int slip]∧SqT K H t [.int a,.int b,.int c]∧a+b≤12∧c+b≤12∧
 ∀d H' (kvs:List (List Key×V)),Same H H'→H d=none→H' d=some (.dT kvs)→(∀y,(valV kvs (kI y)).getD .non=oV (hgI ((stagesOf a b c slip).map triI) [0,(b:Int),(c:Int)] y))→Q (.ref d) H'
abbrev sLawHeights:Stmt:=top 67
theorem scLawHeights:FnScope ["_law_sorts","_law_slip_here","_law_goal","_law_rows","_law_found","_law_rim","_law_later","_law_stage","_law_beside","_law_height"] ["_law_sorts","_law_slip_here"] (defScope sLawHeights):=⟨rfl,rfl,rfl,by decide+kernel,rfl,by decide+kernel,by decide+kernel⟩
theorem nd_258_26:(["_law_other","_law_stage"]:List Str).Nodup:=by decide+kernel
theorem S_258_26:CompScope ["_law_sorts","_law_slip_here","_law_goal","_law_rows","_law_found","_law_rim","_law_later","_law_stage","_law_beside","_law_height"] (defScope sLawHeights) ({kind:=ScopeKind.function,names:=[(Str.ofString ".0",NameKind.local),(Str.ofString "_law_other",NameKind.local),(Str.ofString "_law_near",NameKind.globalImplicit),(Str.ofString "_law_stage",NameKind.free)],isGenerator:=false,isCoroutine:=false,more:=[]:Scope}) (["_law_other"]:List Str) ([(7,"_law_stage")]:List (Nat×Str)):=⟨by decide+kernel,by decide+kernel,by decide+kernel,by decide+kernel,by decide+kernel⟩
theorem nd_263_19:(["_law_stage","_law_height"]:List Str).Nodup:=by decide+kernel
theorem S_263_19:CompScope ["_law_sorts","_law_slip_here","_law_goal","_law_rows","_law_found","_law_rim","_law_later","_law_stage","_law_beside","_law_height"] (defScope sLawHeights) ({kind:=ScopeKind.function,names:=[(Str.ofString ".0",NameKind.local),(Str.ofString "_law_stage",NameKind.local),(Str.ofString "_law_height",NameKind.local)],isGenerator:=false,isCoroutine:=false,more:=[]:Scope}) (["_law_stage","_law_height"]:List Str) ([]:List (Nat×Str)):=⟨by decide+kernel,by decide+kernel,by decide+kernel,by decide+kernel,by decide+kernel⟩
theorem ok_heightsL{f:Addr}{fd:FuncData}(F:Fun K "_law_heights" "_law_heights" sLawHeights f fd)(T:BltM mg)(c_law_stages:Cal P w K mg base "_law_stages" 1 ["_law_sorts","_law_slip_here"] (spStagesL K))(c_law_near:Cal P w K mg base "_law_near" 1 ["_law_one","_law_other"] (spNear K)):FnOk P w K mg base CX0 2 f fd ["_law_sorts","_law_slip_here"] (spHeightsL K):=by
 refine F.ok scLawHeights (fun vs H Q E h=>?_) (fun cdv A outer s H vs Q E hr h=>?_)
 ·obtain⟨t,a,b,c,slip,rfl,_⟩:=h
  rfl
 ·obtain⟨t,na,nb,nc,slip,rfl,ht,h1,h2,k⟩:=h
  refine⟨_,(pss_cons (ps_set (i:=2) scLawHeights.nd rfl (Or.inl rfl) (pe_tup (pa_cons pe_int (pa_cons (pe_ix (ixT (K:=K) rfl) (pv 0) pe_int (fun _ _=>rfl)) (pa_cons (pe_ix (ixT (K:=K) rfl) (pv 0) pe_int (fun _ _=>rfl)) pa_nil)))))
   (pss_cons (ps_set (i:=3) scLawHeights.nd rfl (Or.inl rfl) (pe_callC c_law_stages (hr.mono (by omega)) (by rfl) (pa_cons (pv 0) (pa_cons (pv 1) pa_nil))))
   (pss_cons (ps_set (i:=4) scLawHeights.nd rfl (Or.inl rfl) (pe_disp1 (hu1 hr.units) (pv 2) pe_int))
   (pss_cons (ps_set (i:=5) scLawHeights.nd rfl (Or.inl rfl) (pe_lst (pa_cons (pv 2) pa_nil)))
   (pss_cons (ps_while PassesOwn.never (pt_cmpR ((op_neD hr.units).or (op_neLens hr.units)) (pv 5) (pe_lst pa_nil) (nomark _)) (pss_cons (ps_set (i:=6) scLawHeights.nd rfl (Or.inl rfl) (pe_lst pa_nil))
   (pss_cons (ps_for PassesOwn.never rfl (piL (K:=K) rfl (pv 3)) (pg_name (i:=7) scLawHeights.nd rfl (Or.inr rfl)) (pss_cons (ps_lcomp (iy:=8) rfl scLawHeights.nd rfl rfl S_258_26 (piL (K:=K) rfl (pv 5)) (by intro _ _ _ _ _;exact(pg_name (i:=0) nd_258_26 rfl (Or.inl rfl))) (by intro _ _ _ _ _;exact(pts_one (pt_val (pe_callC c_law_near (hr.mono (by omega)) (by rfl) (pa_cons (pv 1) (pa_cons (pv 0) pa_nil)))))) (by intro _ _ _ _ _;exact(pv 0)) (by rfl))
   (pss_one (ps_if ((pw_and (pt_cmp (pc_dnotin (hu1 hr.units) (pv 7) (pv 4))) (pw_and1 (pt_cmpR ((op_neD hr.units).or (op_neLens hr.units)) (pv 8) (pe_lst pa_nil) (nomark _))))).pt (pss_one (ps_expr (mApp (K:=K) rfl (pv 6) (pa_cons (pe_tup (pa_cons (pv 7) (pa_cons (pe_op op_add (pe_dget (hu1 hr.units) (pv 4) (pe_ix (ixL (K:=K) rfl) (pv 8) pe_int (fun _ _=>rfl)) (fun _ _=>rfl)) pe_int) pa_nil))) pa_nil)))) pss_nil))))
   (pss_cons (ps_for PassesOwn.never rfl (piL (K:=K) rfl (pv 6)) (pgT (K:=K) (n:=2) rfl rfl (pgs_cons (pg_name (i:=7) scLawHeights.nd rfl (Or.inr rfl)) (pgs_cons (pg_name (i:=9) scLawHeights.nd rfl (Or.inl rfl)) pgs_nil))) (pss_one (ps_dput (hu1 hr.units) (pv 4) (pv 7) (pv 9) rfl)))
   (pss_one (ps_lcomp (iy:=5) rfl scLawHeights.nd rfl rfl S_263_19 (piL (K:=K) rfl (pv 6)) (by intro _ _ _ _ _;exact(pgT (K:=K) (n:=2) rfl rfl (pgs_cons (pg_name (i:=0) nd_263_19 rfl (Or.inl rfl)) (pgs_cons (pg_name (i:=1) nd_263_19 rfl (Or.inl rfl)) pgs_nil)))) (by intro _ _ _ _ _;exact pts_nil) (by intro _ _ _ _ _;exact(pv 0)) (by rfl)))))))
   (pss_one (ps_ret (pv 4)))))))),?_⟩
  walk_at "r"
  refine⟨by show 3≤sizeLine;decide,fun gt hgt0=>?_⟩
  have s1:=same_upd (o:=.tup [.int 0,.int nb,.int nc]) hgt0
  have g1:upd H gt (.tup [.int 0,.int nb,.int nc]) gt=some (.tup (([0,(nb:Int),(nc:Int)]:List Int).map V.int)):=upd_same
  generalize upd H gt (.tup [.int 0,.int nb,.int nc])=H1 at s1 g1⊢
  walk_at "r"
  refine⟨t,na,nb,nc,slip,rfl,seqT_same s1 ht,h1,h2,fun rl H2 ws2 s2' _ hr2 rp2=>?_⟩
  obtain⟨tr,rfl,htr⟩:=ts_of rp2
  have s2:=s1.trans s2'
  have lS:((stagesOf na nb nc slip).map triI).length≤1000:=by rw[List.length_map];exact stagesOf_len h1 h2
  have r2:StL H2 rl ((stagesOf na nb nc slip).map triI):=⟨tr,hr2,htr⟩
  have oS:∀ys∈(stagesOf na nb nc slip).map triI,ys.length=3:=fun ys hy=>by
   obtain⟨x,_,rfl⟩:=List.mem_map.mp hy
   rfl
  generalize(stagesOf na nb nc slip).map triI=S at lS r2 oS k
  obtain⟨g,hg⟩:∃g:List Int,g=[0,(nb:Int),(nc:Int)]:=⟨_,rfl⟩
  have lg:g.length=3:=by rw[hg];rfl
  rw[←hg]at g1 k
  have g2:=s2' _ _ g1
  clear htr hr2 rp2 tr hg
  walk_at "r"
  refine i_disp1 fun d hd=>?_
  walk_at "r"
  refine⟨gt,kI g,rfl,upd_same,by rw[kI_kV];exact same_upd hd _ _ g2,?_⟩
  have s3':Same H2 (upd (upd H2 d (.dT [])) d (.dT [(kI g,.int 0)])):=fun b o e=>by
   have n:=ne_of_none e hd
   rw[upd_ne n,upd_ne n]
   exact e
  have d3:upd (upd H2 d (.dT [])) d (.dT [(kI g,.int 0)]) d=some (.dT [(kI g,.int 0)]):=upd_same
  generalize upd (upd H2 d (.dT [])) d (.dT [(kI g,.int 0)])=H3 at s3' d3⊢
  have s3:=s2.trans s3'
  have fd0:H d=none:=s2.free hd
  have r3:=r2.same s3'
  have g3:=s3' _ _ g2
  walk_at "r"
  refine⟨by show 1≤sizeLine;decide,fun rm hrm=>?_⟩
  have s4':=same_upd (o:=.lst [.ref gt]) hrm
  have m4:StL (upd H3 rm (.lst [.ref gt])) rm (rg S g 0).1:=⟨[gt],upd_same,rfl,fun i x ys e1 e2=>by
   cases i with
   |zero=>cases e1;cases e2;exact s4' _ _ g3
   |succ i=>simp at e1⟩
  generalize upd H3 rm (.lst [.ref gt])=H4 at s4' m4⊢
  have s4:=s3.trans s4'
  have r4:=r3.same s4'
  have d4:=s4' _ _ d3
  walk_at "r"
  refine⟨fun m σ' H'=>∃(n:Nat) (rm:Addr) (kvs:List (List Key×V)),(∃x1 x2 x3 x4,σ'=[some (.ref t),some (.int slip),some (.ref gt),some (.ref rl),some (.ref d),some (.ref rm),x1,x2,x3,x4])∧Same H H'∧StL H' rl S∧H' d=some (.dT kvs)∧FD S g n kvs∧kvs.length≤1+n*1000∧StL H' rm (rg S g n).1∧n+m≤1002∧((m=(rg S g n).2.length∧∀ys∈(rg S g n).1,ys∈(rg S g n).2)∨m=(rg S g n).2.length+1),
   ⟨S.length+1,0,rm,_,⟨none,none,none,none,rfl⟩,s4,r4,d4,FD.zero,(by show 1≤1;decide),m4,by omega,.inr rfl⟩,?_⟩
  clear m4 r4 d4 s4 s4' hrm s3 s3' d3 r3 g3 r2 s2 s2' g2 g1 s1 hgt0
  rintro m σ' H5 ⟨n,rm,kvs,⟨x1,x2,x3,x4,rfl⟩,s5,r5,d5,fD,lk,m5,le,me⟩
  obtain⟨tm,hm5,htm⟩:=id m5
  walk_at "r"
  refine⟨Nat.zero_le _,fun e he=>?_⟩
  have xe:=same_upd (o:=.lst []) he
  have hee:upd H5 e (.lst []) e=some (.lst []):=upd_same
  generalize upd H5 e (.lst [])=H6 at xe hee⊢
  have s6:=s5.trans xe
  have r6:=r5.same xe
  have d6:=xe _ _ d5
  have m6:=m5.same xe
  have hm6:=xe _ _ hm5
  have htm6:=htm.same xe
  clear r5 d5 m5 hm5 htm s5 he
  have lR:=htm6.1
  rcases hR:(rg S g n).1 with _|⟨R0,R1⟩
  ·left
   have et:tm=[]:=List.eq_nil_of_length_eq_zero (by rw[lR,hR];rfl)
   subst et
   refine i_alike (d:=.lst []) (.lst hm6 .nil) (.lst hee .nil) (by decide) ?_
   walk_at "r"
   refine iteF ?_
   walk_at "r"
   exact k d H6 kvs s6 fd0 d6 fun y=>fD.last hR y
  ·right
   refine⟨rm,e,_,_,rfl,rfl,hm6,hee,by rw[List.length_map,lR,hR];simp,?_⟩
   walk_at "r"
   refine iteT ?_
   refine⟨fun σ' H'=>∃m',m'<m∧∃(n:Nat) (rm:Addr) (kvs:List (List Key×V)),(∃x1 x2 x3 x4,σ'=[some (.ref t),some (.int slip),some (.ref gt),some (.ref rl),some (.ref d),some (.ref rm),x1,x2,x3,x4])∧Same H H'∧StL H' rl S∧H' d=some (.dT kvs)∧FD S g n kvs∧kvs.length≤1+n*1000∧StL H' rm (rg S g n).1∧n+m'≤1002∧((m'=(rg S g n).2.length∧∀ys∈(rg S g n).1,ys∈(rg S g n).2)∨m'=(rg S g n).2.length+1),fun σ' H' h=>h,?_⟩
   have lR2:(rg S g n).1.length≤1001:=Nat.le_trans (ring_len n) (by omega)
   have oR:∀ys∈(rg S g n).1,ys.length=3:=fun ys hy=>by
    cases n with
    |zero=>rw[List.mem_singleton.mp hy];exact lg
    |succ n'=>exact oS ys ((mem_left _ _).mp (ring_succ.mp hy).1).1
   walk_at "r"
   refine⟨Nat.zero_le _,fun D hD=>?_⟩
   have s7':=same_upd (o:=.lst []) hD
   have l7:Lat (upd H6 D (.lst [])) D ((S.take 0).filter fun y=>pB S g (n+1) y && (rg S g n).1.any fun z=>nearB y z) (n+1):=⟨[],[],upd_same,rfl,fun i e t e1=>by simp at e1,rfl,fun i t ys e1=>by simp at e1⟩
   generalize upd H6 D (.lst [])=H7 at s7' l7⊢
   obtain⟨tr,hr6,htr6⟩:=id r6
   walk_at "r"
   refine⟨rl,rfl,⟨_,SqL.of (s7' _ _ hr6)⟩,?_⟩
   refine forW (fun i σ' H'=>(∃x2 x3 x4,σ'=[some (.ref t),some (.int slip),some (.ref gt),some (.ref rl),some (.ref d),some (.ref rm),some (.ref D),x2,x3,x4])∧Same H6 H'∧Lat H' D ((S.take i).filter fun y=>pB S g (n+1) y && (rg S g n).1.any fun z=>nearB y z) (n+1)) S.length ⟨⟨_,_,_,rfl⟩,s7',l7⟩ ?_ ?_
   ·rintro σ' H' ⟨⟨y2,y3,y4,rfl⟩,s8,l8⟩
    refine⟨⟨_,SqL.of (s8 _ _ hr6),by rw[List.length_map,htr6.1];exact Nat.le_refl _⟩,?_⟩
    rw[List.take_length,←ring_filter]at l8
    obtain⟨es,tt,q1,q2,q3,q4⟩:=l8.ex
    have d8:=s8 _ _ d6
    have lN:(rg S g (n+1)).1.length≤1000:=by
     rw[ring_filter]
     exact Nat.le_trans (List.length_filter_le _ _) lS
    have les:es.length=(rg S g (n+1)).1.length:=by rw[q2,q4.1]
    walk_at "r"
    refine⟨D,rfl,⟨_,SqL.of q1⟩,?_⟩
    refine forW (fun i σ' H''=>(∃x2 x3 x4,σ'=[some (.ref t),some (.int slip),some (.ref gt),some (.ref rl),some (.ref d),some (.ref rm),some (.ref D),x2,x3,x4])∧But d H' H''∧∃kvs',H'' d=some (.dT kvs')∧kvs'.length≤kvs.length+i∧∀y,valV kvs' (kI y)=if y∈(rg S g (n+1)).1.take i then some (.int ((n+1:Nat):Int))else valV kvs (kI y)) (rg S g (n+1)).1.length
     ⟨⟨_,_,_,rfl⟩,But.refl,kvs,d8,Nat.le_refl _,fun y=>by rw[List.take_zero,if_neg (by simp)]⟩ ?_ ?_
    ·rintro σ' H'' ⟨⟨z2,z3,z4,rfl⟩,b9,kvs',d9,lk',ev⟩
     have qD:=b9 _ _ (ne_of q1 d8 (by intro z;cases z)) q1
     refine⟨⟨_,SqL.of qD,by rw[List.length_map];omega⟩,?_⟩
     rw[List.take_length]at ev
     have q4':=TsAt.but b9 d8 q4
     have q3':∀(i:Nat) e t,es[i]?=some e→tt[i]?=some t→H'' e=some (.tup [.ref t,.int ((n:Int)+1)]):=fun i e t e1 e2=>by
      have z:=q3 i e t e1 e2
      exact b9 _ _ (ne_of z d8 (by intro q;cases q)) z
     have s9:Same H H'':=fun b o eb=>b9 _ _ (ne_of_none eb fd0) (s8 _ _ (s6 _ _ eb))
     have r9:StL H'' rl S:=StL.but b9 d8 (r6.same s8)
     walk_at "r"
     refine⟨D,rfl,⟨_,SqL.of qD⟩,?_⟩
     refine mapW (ws:=tt.map V.ref) (fun σ=>∃a b,σ=[a,b]) ⟨none,none,rfl⟩ (by rw[List.length_map];omega) (fun H1 s1=>⟨_,SqL.of (s1 _ _ qD),by rw[List.length_map,List.length_map];omega⟩) (fun i H1 hi s1=>?_) ?_ ?_
     ·have hi2:i<es.length:=by rw[List.length_map]at hi;omega
      exact⟨_,.ref es[i],SqL.of (s1 _ _ qD),by rw[List.getElem?_map,List.getElem?_eq_getElem hi2];rfl⟩
     ·rintro i wv x σ' H1 G R R0' hw ⟨a0,b0,rfl⟩ s1 ⟨rfl,hy⟩ hR'
      have hi:i<tt.length:=by
       rcases Nat.lt_or_ge i tt.length with z|z
       ·exact z
       ·rw[List.getElem?_eq_none (by rw[List.length_map];exact z)]at hw;cases hw
      have hi2:i<es.length:=by omega
      have ex:=hy _ (SqL.of (s1 _ _ qD))
      rw[List.getElem?_map,List.getElem?_eq_getElem hi2]at ex
      cases ex
      rw[List.getElem?_map,List.getElem?_eq_getElem hi]at hw
      cases hw
      have hp:=s1 _ _ (q3' i es[i] tt[i] (List.getElem?_eq_getElem hi2) (List.getElem?_eq_getElem hi))
      refine i_gtup (SqT.of hp) rfl ?_
      walk_at "r"
      refine iteT ?_
      walk_at "r"
      exact hR' _ _ ⟨_,_,rfl⟩ s1
     ·intro H10 s10' D2 hD2
      have s11':=s10'.trans (same_upd (o:=.lst (tt.map V.ref)) hD2)
      have h11:upd H10 D2 (.lst (tt.map V.ref)) D2=some (.lst (tt.map V.ref)):=upd_same
      generalize upd H10 D2 (.lst (tt.map V.ref))=H11 at s11' h11⊢
      walk_at "r"
      have lt:(rg S g (n+1)).2.length<m:=by
       show((rg S g n).2.filter fun ys=>!decide (ys∈(rg S g n).1)).length<m
       rcases me with⟨rfl,sub⟩|rfl
       ·exact filt_lt (sub R0 (by rw[hR];exact List.mem_cons_self)) (by rw[hR];simp)
       ·exact Nat.lt_succ_of_le (List.length_filter_le _ _)
      refine⟨(rg S g (n+1)).2.length,lt,n+1,D2,kvs',⟨_,_,_,_,rfl⟩,s9.trans s11',r9.same s11',s11' _ _ d9,fD.next ev,by omega,⟨tt,h11,q4'.same s11'⟩,by omega,.inl ⟨rfl,fun ys hy=>(ring_succ.mp hy).1⟩⟩
    ·rintro i σ' H'' hi ⟨⟨z2,z3,z4,rfl⟩,b9,kvs',d9,lk',ev⟩
     have hi2:i<es.length:=by omega
     have hi3:i<tt.length:=by omega
     have qD:=b9 _ _ (ne_of q1 d8 (by intro z;cases z)) q1
     have f1:es[i]?=some es[i]:=List.getElem?_eq_getElem hi2
     have f2:tt[i]?=some tt[i]:=List.getElem?_eq_getElem hi3
     have f3:(rg S g (n+1)).1[i]?=some (rg S g (n+1)).1[i]:=List.getElem?_eq_getElem hi
     have z1:=q3 i _ _ f1 f2
     have p1:=b9 _ _ (ne_of z1 d8 (by intro q;cases q)) z1
     have z2':=q4.2 i _ _ f2 f3
     have p2:=b9 _ _ (ne_of z2' d8 (by intro q;cases q)) z2'
     refine⟨⟨_,.ref es[i],SqL.of qD,by rw[List.getElem?_map,f1];rfl⟩,?_⟩
     rintro x' G ⟨rfl,hy⟩
     have ex:=hy _ (SqL.of qD)
     rw[List.getElem?_map,f1]at ex
     cases ex
     refine i_gtup (SqT.of p1) rfl ?_
     walk_at "r"
     refine⟨d,_,rfl,DPut.t (k:=kI (rg S g (n+1)).1[i]) d9 (by rw[kI_kV];exact p2) (Nat.lt_of_le_of_lt (show kvs'.length≤2000000 by omega) (by decide)),?_⟩
     refine⟨⟨_,_,_,rfl⟩,fun b o nb eb=>by rw[upd_ne nb];exact b9 b o nb eb,_,upd_same,Nat.le_trans (length_putK _ _ _) (by omega),fun y=>?_⟩
     rw[valV_put,ev y,List.take_succ,f3]
     by_cases hk:y=(rg S g (n+1)).1[i]
     ·rw[if_pos (by rw[hk]),if_pos (by rw[hk];exact List.mem_append.mpr (.inr (List.mem_singleton.mpr rfl)))]
      rfl
     ·rw[if_neg (fun z=>hk (kI_inj z))]
      have:(y∈(rg S g (n+1)).1.take i++(some (rg S g (n+1)).1[i]).toList)↔y∈(rg S g (n+1)).1.take i:=⟨fun h=>(List.mem_append.mp h).elim id fun h=>absurd (List.mem_singleton.mp h) hk,fun h=>List.mem_append.mpr (.inl h)⟩
      simp only[this]
   ·rintro i σ' H' hi ⟨⟨y2,y3,y4,rfl⟩,s8,l8⟩
    have hi2:i<tr.length:=by rw[htr6.1];exact hi
    have e1:tr[i]?=some tr[i]:=List.getElem?_eq_getElem hi2
    have e2:S[i]?=some S[i]:=List.getElem?_eq_getElem hi
    have ht8:=s8 _ _ (htr6.2 i _ _ e1 e2)
    have hyS:=List.getElem_mem hi
    refine⟨⟨_,.ref tr[i],SqL.of (s8 _ _ hr6),by rw[List.getElem?_map,e1];rfl⟩,?_⟩
    rintro x' G ⟨rfl,hy⟩
    have ex:=hy _ (SqL.of (s8 _ _ hr6))
    rw[List.getElem?_map,e1]at ex
    cases ex
    have et:S.take (i+1)=S.take i++[S[i]]:=by rw[List.take_succ,e2];rfl
    rw[et,List.filter_append,List.filter_cons,List.filter_nil]
    generalize S[i]=y at ht8 hyS
    have ly:=oS y hyS
    walk_at "r"
    refine⟨rm,rfl,⟨_,SqL.of (s8 _ _ hm6)⟩,?_⟩
    refine filtC2 (f:=fun zs=>nearB y zs) (s8 _ _ hm6) (htm6.same s8) lR2 (fun t' zs H'' R' s' ht hz hq=>?_) fun us H9 s9' hus B hB=>?_
    ·walk_at "r"
     refine⟨tr[i],t',y,zs,rfl,SqT.of (s' _ _ ht8),SqT.of (s' _ _ ht),ly,oR zs hz,fun H3 s3=>?_⟩
     walk_at "r"
     exact hq _ (s'.trans s3)
    have s10':=s9'.trans (same_upd (o:=.lst (us.map V.ref)) hB)
    have hB10:upd H9 B (.lst (us.map V.ref)) B=some (.lst (us.map V.ref)):=upd_same
    have hus10:=hus.same s10'
    generalize upd H9 B (.lst (us.map V.ref))=H10 at s10' hB10 hus10⊢
    have s10:=s8.trans s10'
    have l10:=l8.same s10'
    have ht10:=s10' _ _ ht8
    have d10:=s10 _ _ d6
    walk_at "r"
    refine⟨d,_,rfl,DGet.t (k:=kI y) d10 (by rw[kI_kV];exact ht10),?_⟩
    rw[fD.isSome,Bool.not_not]
    walk_at "r"
    cases hp:pB S g (n+1) y with
    |false=>
     refine iteF ?_
     refine iteF ?_
     walk_at "r"
     refine⟨⟨_,_,_,rfl⟩,s10,?_⟩
     rw[Bool.false_and,if_neg Bool.false_ne_true,List.append_nil]
     exact l10
    |true=>
     rw[Bool.true_and]
     refine iteT ?_
     walk_at "r"
     refine⟨Nat.zero_le _,fun e3 he3=>?_⟩
     have s11':=same_upd (o:=.lst []) he3
     have hee3:upd H10 e3 (.lst []) e3=some (.lst []):=upd_same
     generalize upd H10 e3 (.lst [])=H11 at s11' hee3⊢
     have s11:=s10.trans s11'
     have l11:=l10.same s11'
     rcases hf:(rg S g n).1.filter (fun zs=>nearB y zs)with _|⟨z0,zr⟩
     ·have ea:((rg S g n).1.any fun z=>nearB y z)=false:=by
       rw[List.any_eq_false]
       intro z hz hn
       have:z∈(rg S g n).1.filter (fun zs=>nearB y zs):=List.mem_filter.mpr ⟨hz,hn⟩
       rw[hf]at this
       cases this
      rw[hf]at hus10
      have eu:us=[]:=List.eq_nil_of_length_eq_zero (by rw[hus10.1];rfl)
      subst eu
      left
      refine i_alike (d:=.lst []) (.lst (s11' _ _ hB10) .nil) (.lst hee3 .nil) (by decide) ?_
      walk_at "r"
      refine iteF ?_
      walk_at "r"
      refine⟨⟨_,_,_,rfl⟩,s11,?_⟩
      rw[ea,if_neg Bool.false_ne_true,List.append_nil]
      exact l11
     ·have hz0:=List.mem_filter.mp (show z0∈(rg S g n).1.filter (fun zs=>nearB y zs) by rw[hf];exact List.mem_cons_self)
      have ea:((rg S g n).1.any fun z=>nearB y z)=true:=List.any_eq_true.mpr ⟨z0,hz0.1,hz0.2⟩
      rw[hf]at hus10
      obtain⟨u0,ur,rfl⟩:∃u0 ur,us=u0::ur:=by
       cases us with
       |nil=>exact absurd hus10.1 (by simp)
       |cons a b=>exact⟨a,b,rfl⟩
      have hu0:=hus10.2 0 u0 z0 rfl rfl
      right
      refine⟨B,e3,_,_,rfl,rfl,s11' _ _ hB10,hee3,(by rw[List.length_map];simp),?_⟩
      walk_at "r"
      refine iteT ?_
      obtain⟨es,tt,q1,q2,q3,q4⟩:=l11.ex
      walk_at "r"
      refine⟨.inl ⟨rfl,_,SqL.of q1⟩,?_⟩
      walk_at "r"
      refine i_ixL (SqL.of (s11' _ _ hB10)) (v:=.ref u0) (show atI _ ((0:Nat):Int)=_ from atI_nat rfl) ?_
      have dg:=DGet.t (k:=kI z0) (s11' _ _ d10) (by rw[kI_kV];exact s11' _ _ hu0)
      rw[(fD z0).1 n (Nat.le_refl _) hz0.1]at dg
      refine⟨d,_,rfl,dg,?_⟩
      walk_at "r"
      refine⟨by show 2≤sizeLine;decide,fun e4 he4=>?_⟩
      have s12':=same_upd (o:=.tup [.ref tr[i],.int ((n:Int)+1)]) he4
      have h12:upd H11 e4 (.tup [.ref tr[i],.int ((n:Int)+1)]) e4=some (.tup [.ref tr[i],.int ((n:Int)+1)]):=upd_same
      generalize upd H11 e4 (.tup [.ref tr[i],.int ((n:Int)+1)])=H12 at s12' h12⊢
      have q1':=s12' _ _ q1
      have les:es.length≤1000:=by
       rw[q2,q4.1]
       exact Nat.le_trans (List.length_filter_le _ _) (by rw[List.length_take];omega)
      walk_at "r"
      refine i_app q1' (Nat.lt_of_le_of_lt (show(es.map V.ref).length≤1000 by rw[List.length_map];exact les) (by decide)) ?_
      walk_at "r"
      have s13:Same H6 (upd H12 D (.lst (es.map V.ref++[.ref e4]))):=fun b o eb=>by
       rw[upd_ne (ne_of_none eb hD)]
       exact s12' _ _ (s11 _ _ eb)
      have k13:∀b xs,H12 b=some (.tup xs)→upd H12 D (.lst (es.map V.ref++[.ref e4])) b=some (.tup xs):=fun b xs eb=>by
       rw[upd_ne (ne_of eb q1' (by intro z;cases z))]
       exact eb
      refine⟨⟨_,_,_,rfl⟩,s13,⟨es++[e4],tt++[tr[i]],?_,?_,fun j e' t' f1 f2=>?_,?_⟩⟩
      ·rw[upd_same,List.map_append];rfl
      ·rw[List.length_append,List.length_append,q2];rfl
      ·rcases Nat.lt_trichotomy j es.length with z|z|z
       ·rw[List.getElem?_append_left z]at f1
        rw[List.getElem?_append_left (by rw[←q2];exact z)]at f2
        exact k13 _ _ (s12' _ _ (q3 j e' t' f1 f2))
       ·subst z
        rw[List.getElem?_append_right (Nat.le_refl _),Nat.sub_self]at f1
        rw[List.getElem?_append_right (by rw[q2];exact Nat.le_refl _),q2,Nat.sub_self]at f2
        cases f1;cases f2
        exact k13 _ _ h12
       ·rw[List.getElem?_append_right (by omega),List.getElem?_eq_none (by simp;omega)]at f1
        cases f1
      ·rw[ea,if_pos rfl]
       refine TsAt.snoc ⟨q4.1,fun j t' ys f1 f2=>k13 _ _ (s12' _ _ (q4.2 j t' ys f1 f2))⟩ (k13 _ _ (s12' _ _ (s11' _ _ ht10)))
end
theorem TsAt.put{H:Hp}{D:Addr}{xs ys:List V}{ts:List Addr}{yss:List (List Int)}(h:TsAt H ts yss)(e:H D=some (.lst xs)):TsAt (upd H D (.lst ys)) ts yss:=
 ⟨h.1,fun i t p e1 e2=>by
  have z:=h.2 i t p e1 e2
  rw[upd_ne (ne_of z e (by intro q;cases q))]
  exact z⟩
noncomputable def rowG(m t k c:Nat):List T3:=(List.range c).map fun n=>(k,n,bin m k*bin t n)
noncomputable def widG(t s k:Nat):Nat:=min (min (k - 1) (s - k)) t+1
noncomputable def grG(m t s i:Nat):List T3:=(List.range i).flatMap fun j=>rowG m t (m / 2+1+j) (widG t s (m / 2+1+j))
noncomputable def gsG(m t s:Nat):List T3:=grG m t s (m - m / 2)
theorem rowG_succ(m t k c:Nat):rowG m t k (c+1)=rowG m t k c++[(k,c,bin m k*bin t c)]:=by unfold rowG;rw[List.range_succ,List.map_append];rfl
theorem grG_succ(m t s i:Nat):grG m t s (i+1)=grG m t s i++rowG m t (m / 2+1+i) (widG t s (m / 2+1+i)):=by unfold grG;rw[List.range_succ,List.flatMap_append];simp
theorem rowG_len(m t k c:Nat):(rowG m t k c).length=c:=by simp[rowG]
theorem grG_len(m t s:Nat)(hs:s≤12):∀i,(grG m t s i).length≤i*13
 |0=>by simp[grG]
 |i+1=>by
  have:=grG_len m t s hs i
  rw[grG_succ,List.length_append,rowG_len]
  unfold widG
  omega
noncomputable def tot(G:List T3):Nat:=(G.map (·.2.2)).sum
theorem tot_cons(p:T3)(r:List T3):tot (p::r)=p.2.2+tot r:=by unfold tot;rw[List.map_cons,List.sum_cons]
theorem sum_tot:∀G:List T3,(G.map fun p=>((p.2.2:Nat):Int)).sum=((tot G:Nat):Int)
 |[]=>rfl
 |p::r=>by rw[List.map_cons,List.sum_cons,sum_tot r,tot_cons];omega
theorem tot_append(a b:List T3):tot (a++b)=tot a+tot b:=by unfold tot;rw[List.map_append,List.sum_append]
section
variable{P:Program}{w:World}{K:W.Frag}{mg:Str→Option Value}{base:Heap}
noncomputable def spNeedCh(K:W.Frag):Sp:=fun vs H Q _=>∃(p q:Addr) (ns ms:List Int) (slip:Int),vs=[.ref p,.ref q,.int slip]∧Two2 K H p q ns ms∧1≤slip∧slip≤12∧1≤cnt ns∧(cnt ns:Int)≤slip∧cntB ns ms=0∧∀H',Same H H'→Q .non H'
abbrev sNeedChoosing:Stmt:=top 28
theorem scNeedChoosing:FnScope ["boat","others","slip"] ["boat","others","slip"] (defScope sNeedChoosing):=⟨rfl,rfl,rfl,by decide+kernel,rfl,by decide+kernel,by decide+kernel⟩
theorem ok_need_ch{f:Addr}{fd:FuncData}(F:Fun K "need_choosing" "need_choosing" sNeedChoosing f fd)(T:BltM mg)(c_need_slip:Cal P w K mg base "need_slip" 2 ["number"] spNeedSlip)(c_need_boat:Cal P w K mg base "need_boat" 2 ["timbers","slip"] (spNeedBoat K))(c_many_common:Cal P w K mg base "many_common" 1 ["one","other"] (spMany K)):FnOk P w K mg base CX0 3 f fd ["boat","others","slip"] (spNeedCh K):=by
 refine F.ok scNeedChoosing (fun vs H Q E h=>?_) (fun cdv A outer s H vs Q E hr h=>?_)
 ·obtain⟨p,q,ns,ms,slip,rfl,_⟩:=h
  rfl
 ·obtain⟨p,q,ns,ms,slip,rfl,⟨hp,hq,l1,l2⟩,z1,z2,n1,n2,h0,k⟩:=h
  refine⟨_,(pss_cons (ps_expr (pe_callC c_need_slip (hr.mono (by omega)) (by rfl) (pa_cons (pv 2) pa_nil)))
   (pss_cons (ps_expr (pe_callC c_need_boat (hr.mono (by omega)) (by rfl) (pa_cons (pv 0) (pa_cons (pv 2) pa_nil))))
   (pss_one (ps_if (pt_cmpR op_gt (pe_callC c_many_common (hr.mono (by omega)) (by rfl) (pa_cons (pv 0) (pa_cons (pv 1) pa_nil))) pe_int (nomark _)) (pss_one ps_dead) pss_nil)))),?_⟩
  walk_at "r"
  refine⟨slip,rfl,z1,z2,?_⟩
  walk_at "r"
  refine⟨p,ns,slip,rfl,hp,l1,n1,n2,fun H1 s1=>?_⟩
  walk_at "r"
  refine⟨p,q,ns,ms,rfl,hp.same s1,hq.same s1,l1,l2,fun H2 s2=>?_⟩
  rw[h0]
  walk_at "r"
  refine iteF ?_
  walk_at "r"
  exact k _ (s1.trans s2)
theorem big64{n:Nat}(h:n≤2 ^ 64):((n:Int)).natAbs<2 ^ 500:=Nat.lt_of_le_of_lt (show((n:Int)).natAbs≤2 ^ 64 by omega) (Nat.pow_lt_pow_right (by decide) (by decide))
noncomputable def spGroups:Sp:=fun vs H Q _=>∃(p q:Addr) (as bs:List Int) (slip:Int),vs=[.ref p,.ref q,.int slip]∧H p=some (.lst (as.map V.int))∧H q=some (.lst (bs.map V.int))∧(as.length:Int)≤slip∧slip≤12∧bs.length<64∧
 ∀l H' (ts:List Addr),Same H H'→H' l=some (.lst (ts.map V.ref))→TsAt H' ts ((gsG as.length bs.length slip.toNat).map triI)→Q (.ref l) H'
abbrev sGroups:Stmt:=top 29
theorem scGroups:FnScope ["boat","others","slip","told","kept","new"] ["boat","others","slip"] (defScope sGroups):=⟨rfl,rfl,rfl,by decide+kernel,rfl,by decide+kernel,by decide+kernel⟩
theorem ok_groups{f:Addr}{fd:FuncData}(F:Fun K "groups" "groups" sGroups f fd)(T:BltM mg)(c_ways:Cal P w K mg base "ways" 1 ["many","taken"] spWays):FnOk P w K mg base CX0 2 f fd ["boat","others","slip"] spGroups:=by
 refine F.ok scGroups (fun vs H Q E h=>?_) (fun cdv A outer s H vs Q E hr h=>?_)
 ·obtain⟨p,q,as,bs,slip,rfl,_⟩:=h
  rfl
 ·obtain⟨p,q,as,bs,slip,rfl,hp,hq,hs1,hs2,hb,k⟩:=h
  refine⟨_,(pss_cons (ps_set (i:=3) scGroups.nd rfl (Or.inl rfl) (pe_lst pa_nil))
   (pss_cons (ps_for PassesOwn.never rfl (pi_range2 (by rfl) T.z_range (pa_cons (pe_op op_add (pe_op op_fdiv (pe_callB (cLen (K:=K) rfl) (by rfl) T.z_len bb_len (pa_cons (pv 0) pa_nil)) pe_int) pe_int) (pa_cons (pe_op op_add (pe_callB (cLen (K:=K) rfl) (by rfl) T.z_len bb_len (pa_cons (pv 0) pa_nil)) pe_int) pa_nil))) (pg_name (i:=4) scGroups.nd rfl (Or.inl rfl)) (pss_one (ps_for PassesOwn.never rfl (pi_range1 (by rfl) T.z_range (pa_cons (pe_op op_add (pe_callB (cMin3 rfl) (by rfl) T.z_min bb_min (pa_cons (pe_op op_sub (pv 4) pe_int) (pa_cons (pe_op op_sub (pv 2) (pv 4)) (pa_cons (pe_callB (cLen (K:=K) rfl) (by rfl) T.z_len bb_len (pa_cons (pv 1) pa_nil)) pa_nil)))) pe_int) pa_nil)) (pg_name (i:=5) scGroups.nd rfl (Or.inl rfl)) (pss_one (ps_expr (mApp (K:=K) rfl (pv 3) (pa_cons (pe_tup (pa_cons (pv 4) (pa_cons (pv 5) (pa_cons (pe_op op_mulB (pe_callC c_ways (hr.mono (by omega)) (by rfl) (pa_cons (pe_callB (cLen (K:=K) rfl) (by rfl) T.z_len bb_len (pa_cons (pv 0) pa_nil)) (pa_cons (pv 4) pa_nil))) (pe_callC c_ways (hr.mono (by omega)) (by rfl) (pa_cons (pe_callB (cLen (K:=K) rfl) (by rfl) T.z_len bb_len (pa_cons (pv 1) pa_nil)) (pa_cons (pv 5) pa_nil)))) pa_nil)))) pa_nil)))))))
   (pss_one (ps_ret (pv 3))))),?_⟩
  walk_at "r"
  refine⟨Nat.zero_le _,fun D hD=>?_⟩
  have s1:=same_upd (o:=.lst []) hD
  have hD1:upd H D (.lst []) D=some (.lst []):=upd_same
  generalize upd H D (.lst [])=H1 at s1 hD1⊢
  have hp1:=s1 _ _ hp
  have hq1:=s1 _ _ hq
  walk_at "r"
  rw[List.length_map]
  obtain⟨m,hm⟩:∃m,as.length=m:=⟨_,rfl⟩
  obtain⟨t,ht⟩:∃t,bs.length=t:=⟨_,rfl⟩
  obtain⟨z,rfl⟩:∃z:Nat,slip=z:=⟨slip.toNat,by omega⟩
  rw[hm,ht]at k
  rw[hm]
  rw[hm]at hs1
  rw[ht]at hb
  rw[Int.toNat_natCast]at k
  refine⟨_,_,rfl,⟨by omega,by omega,by omega,by omega⟩,?_⟩
  have eo:(((m:Int)+1 - ((m:Int) / 2+1))).toNat=m - m / 2:=by omega
  rw[eo]
  refine forW (fun i σ' H'=>(∃x y,σ'=[some (.ref p),some (.ref q),some (.int z),some (.ref D),x,y])∧Same H H'∧∃ts:List Addr,H' D=some (.lst (ts.map V.ref))∧TsAt H' ts ((grG m t z i).map triI)) (m - m / 2)
   ⟨⟨none,none,rfl⟩,s1,[],hD1,rfl,fun i t p e=>by simp at e⟩ ?_ ?_
  ·rintro σ' H' ⟨⟨x,y,rfl⟩,s2,ts,hD2,hts⟩
   refine⟨Nat.le_refl _,?_⟩
   walk_at "r"
   exact k D H' ts s2 hD2 hts
  ·rintro i σ' H' hi ⟨⟨x,y,rfl⟩,s2,ts,hD2,hts⟩
   refine⟨hi,?_⟩
   rintro x' G ⟨rfl,rfl⟩
   have hp2:=s2 _ _ hp
   have hq2:=s2 _ _ hq
   have ek:(m:Int) / 2+1+(i:Int)=((m / 2+1+i:Nat):Int):=by omega
   rw[ek]
   have hk:m / 2+1+i≤m:=by omega
   obtain⟨kk,hkk⟩:∃kk,m / 2+1+i=kk:=⟨_,rfl⟩
   rw[grG_succ,hkk]
   rw[hkk]at hk
   walk_at "r"
   rw[List.length_map,ht]
   have em:(min3 ((kk:Int) - 1) ((z:Int) - kk) t+1)=((widG t z kk:Nat):Int):=by
    unfold min3 widG
    split
    ·split<;>omega
    ·split<;>omega
   have hw:widG t z kk≤13:=by unfold widG;omega
   refine⟨_,rfl,by rw[em];omega,by rw[em];omega,?_⟩
   rw[em,Int.toNat_natCast]
   have hG:=grG_len m t z (by omega) i
   refine forW (fun j σ' H'=>(∃y,σ'=[some (.ref p),some (.ref q),some (.int z),some (.ref D),some (.int kk),y])∧Same H H'∧∃ts:List Addr,H' D=some (.lst (ts.map V.ref))∧TsAt H' ts ((grG m t z i++rowG m t kk j).map triI)) (widG t z kk)
    ⟨⟨_,rfl⟩,s2,ts,hD2,by simpa[rowG]using hts⟩ ?_ ?_
   ·rintro σ' H' ⟨⟨y,rfl⟩,s3,ts3,hD3,hts3⟩
    exact⟨Nat.le_refl _,⟨_,_,rfl⟩,s3,ts3,hD3,hts3⟩
   ·rintro j σ' H' hj ⟨⟨y,rfl⟩,s3,ts3,hD3,hts3⟩
    refine⟨hj,?_⟩
    rintro x' G ⟨rfl,rfl⟩
    rw[Int.zero_add]
    have hp3:=s3 _ _ hp
    have hq3:=s3 _ _ hq
    walk_at "r"
    refine⟨.inl ⟨rfl,_,SqL.of hD3⟩,?_⟩
    walk_at "r"
    rw[List.length_map,hm]
    refine⟨m,kk,rfl,by omega,by omega,fun _=>by omega,?_⟩
    rw[wys_nat]
    walk_at "r"
    rw[List.length_map,ht]
    refine⟨t,j,rfl,by omega,by omega,fun _=>by omega,?_⟩
    rw[wys_nat]
    have b1:=Nat.le_trans (bin_le m kk) (pow2_le (show m≤64 by omega))
    have b2:=Nat.le_trans (bin_le t j) (pow2_le (show t≤64 by omega))
    refine i_rI (cmulB (big64 b1) (big64 b2)) ?_
    walk_at "r"
    refine⟨by show 3≤sizeLine;decide,fun e he=>?_⟩
    have s4:=same_upd (o:=.tup [.int kk,.int j,.int ((bin m kk:Nat)*(bin t j:Nat))]) he
    have he4:upd G e (.tup [.int kk,.int j,.int ((bin m kk:Nat)*(bin t j:Nat))]) e=some (.tup ((triI (kk,j,bin m kk*bin t j)).map V.int)):=by
     rw[upd_same]
     show _=some (HO.tup [V.int kk,V.int j,V.int ((bin m kk*bin t j:Nat):Int)])
     rw[Int.natCast_mul]
    generalize upd G e (.tup [.int kk,.int j,.int ((bin m kk:Nat)*(bin t j:Nat))])=H4 at s4 he4⊢
    have hD4:=s4 _ _ hD3
    have l3:ts3.length<1000:=by
     rw[hts3.1,List.length_map,List.length_append,rowG_len]
     omega
    walk_at "r"
    refine i_app hD4 (lt_line (by rw[List.length_map];exact l3)) ?_
    walk_at "r"
    have s5:Same H (upd H4 D (.lst (ts3.map V.ref++[.ref e]))):=fun b o eb=>by
     rw[upd_ne (ne_of_none eb hD)]
     exact s4 _ _ (s3 _ _ eb)
    refine⟨⟨_,rfl⟩,s5,ts3++[e],by rw[upd_same,List.map_append];rfl,?_⟩
    rw[rowG_succ,←List.append_assoc,List.map_append]
    exact TsAt.snoc (TsAt.put (hts3.same s4) hD4) (by rw[upd_ne (ne_of he4 hD4 (by intro q;cases q))];exact he4)
noncomputable def spChoices(K:W.Frag):Sp:=fun vs H Q _=>∃(p q:Addr) (ns ms:List Int) (slip:Int),vs=[.ref p,.ref q,.int slip]∧Two2 K H p q ns ms∧1≤slip∧slip≤12∧1≤cnt ns∧(cnt ns:Int)≤slip∧cntB ns ms=0∧∀H',Same H H'→Q (.int (tot (gsG (cnt ns) (cnt ms) slip.toNat):Nat)) H'
abbrev sChoices:Stmt:=top 30
theorem scChoices:FnScope ["boat","others","slip"] ["boat","others","slip"] (defScope sChoices):=⟨rfl,rfl,rfl,by decide+kernel,rfl,by decide+kernel,by decide+kernel⟩
theorem nd_88_15:(["kept","new","many"]:List Str).Nodup:=by decide+kernel
theorem S_88_15:CompScope ["boat","others","slip"] (defScope sChoices) ({kind:=ScopeKind.function,names:=[(Str.ofString ".0",NameKind.local),(Str.ofString "kept",NameKind.local),(Str.ofString "new",NameKind.local),(Str.ofString "many",NameKind.local)],isGenerator:=false,isCoroutine:=false,more:=[]:Scope}) (["kept","new","many"]:List Str) ([]:List (Nat×Str)):=⟨by decide+kernel,by decide+kernel,by decide+kernel,by decide+kernel,by decide+kernel⟩
theorem ok_choices{f:Addr}{fd:FuncData}(F:Fun K "choices" "choices" sChoices f fd)(T:BltM mg)(c_need_choosing:Cal P w K mg base "need_choosing" 3 ["boat","others","slip"] (spNeedCh K))(c_rising:Cal P w K mg base "rising" 1 ["timbers"] (spRis K))(c_groups:Cal P w K mg base "groups" 2 ["boat","others","slip"] spGroups):FnOk P w K mg base CX0 4 f fd ["boat","others","slip"] (spChoices K):=by
 refine F.ok scChoices (fun vs H Q E h=>?_) (fun cdv A outer s H vs Q E hr h=>?_)
 ·obtain⟨p,q,ns,ms,slip,rfl,_⟩:=h
  rfl
 ·obtain⟨p,q,ns,ms,slip,rfl,tw,z1,f1,n1,f3,h0,k⟩:=h
  refine⟨_,(pss_cons (ps_expr (pe_callC c_need_choosing (hr.mono (by omega)) (by rfl) (pa_cons (pv 0) (pa_cons (pv 1) (pa_cons (pv 2) pa_nil)))))
   (pss_one (ps_ret (pe_callB (cSum (K:=K) rfl rfl) (by rfl) T.z_sum bb_sum (pa_cons (pe_lcomp rfl S_88_15 (piL (K:=K) rfl (pe_callC c_groups (hr.mono (by omega)) (by rfl) (pa_cons (pe_callC c_rising (hr.mono (by omega)) (by rfl) (pa_cons (pv 0) pa_nil)) (pa_cons (pe_callC c_rising (hr.mono (by omega)) (by rfl) (pa_cons (pv 1) pa_nil)) (pa_cons (pv 2) pa_nil))))) (by intro _ _ _ _ _;exact(pgT (K:=K) (n:=3) rfl rfl (pgs_cons (pg_name (i:=0) nd_88_15 rfl (Or.inl rfl)) (pgs_cons (pg_name (i:=1) nd_88_15 rfl (Or.inl rfl)) (pgs_cons (pg_name (i:=2) nd_88_15 rfl (Or.inl rfl)) pgs_nil))))) (by intro _ _ _ _ _;exact pts_nil) (by intro _ _ _ _ _;exact(pv 2))) pa_nil))))),?_⟩
  walk_at "r"
  refine⟨p,q,ns,ms,slip,rfl,tw,z1,f1,n1,f3,h0,fun H1 s1=>?_⟩
  have tw1:=tw.same s1
  walk_at "r"
  refine⟨p,ns,rfl,tw1.1,tw1.2.2.1,fun a H2 as s2 _ ha2 risa=>?_⟩
  have tw2:=tw1.same s2
  walk_at "r"
  refine⟨q,ms,rfl,tw2.2.1,tw2.2.2.2,fun b H3 bs s3 _ hb3 risb=>?_⟩
  walk_at "r"
  have la:as.length=cnt ns:=cnt_of risa.nodup risa.2
  have lb:bs.length=cnt ms:=cnt_of risb.nodup risb.2
  have lb2:=cnt_le ms
  have l2:=tw.2.2.2
  refine⟨a,b,as,bs,slip,rfl,s3 _ _ ha2,hb3,by omega,by omega,by omega,fun l H4 ts s4 hl hts=>?_⟩
  have s04:=s1.trans (s2.trans (s3.trans s4))
  rw[la,lb]at hts
  obtain⟨G,hG⟩:∃G,gsG (cnt ns) (cnt ms) slip.toNat=G:=⟨_,rfl⟩
  have lG:G.length≤12*13:=by
   rw[←hG]
   have:=grG_len (cnt ns) (cnt ms) slip.toNat (by omega) (cnt ns - cnt ns / 2)
   unfold gsG
   omega
  rw[hG]at hts k
  refine⟨l,rfl,⟨_,SqL.of hl⟩,?_⟩
  have lt:ts.length=G.length:=by rw[hts.1,List.length_map]
  refine mapW (ws:=(G.map fun p=>((p.2.2:Nat):Int)).map V.int) (fun σ=>∃a b c,σ=[a,b,c]) ⟨none,none,none,rfl⟩ (by simp;omega) (fun H' s'=>⟨_,SqL.of (s' _ _ hl),by simp;omega⟩) (fun i H' hi s'=>?_) ?_ ?_
  ·have hi2:i<ts.length:=by simp at hi;omega
   exact⟨_,.ref ts[i],SqL.of (s' _ _ hl),by rw[List.getElem?_map,List.getElem?_eq_getElem hi2];rfl⟩
  ·rintro i wv x σ' H' H2 R R0 hw ⟨a0,b0,c0,rfl⟩ s' ⟨rfl,hy⟩ hR
   have hi:i<G.length:=by
    rcases Nat.lt_or_ge i G.length with q|q
    ·exact q
    ·rw[List.getElem?_eq_none (by simp;omega)]at hw;cases hw
   have hi2:i<ts.length:=by omega
   have ex:=hy _ (SqL.of (s' _ _ hl))
   rw[List.getElem?_map,List.getElem?_eq_getElem hi2]at ex
   cases ex
   have ht:=hts.2 i ts[i] (triI G[i]) (List.getElem?_eq_getElem hi2) (by rw[List.getElem?_map,List.getElem?_eq_getElem hi];rfl)
   rw[List.getElem?_map,List.getElem?_map,List.getElem?_eq_getElem hi]at hw
   cases hw
   have ht':H2 ts[i]=some (.tup [.int G[i].1,.int G[i].2.1,.int G[i].2.2]):=s' _ _ ht
   refine i_gtup (SqT.of ht') rfl ?_
   walk_at "r"
   refine iteT ?_
   walk_at "r"
   exact hR _ _ ⟨_,_,_,rfl⟩ s'
  ·intro H5 s5 D hD
   walk_at "r"
   refine i_sum (SqL.of upd_same) ?_
   rw[sum_tot]
   exact k _ (s04.trans (s5.trans (same_upd hD)))
noncomputable def spCount:Sp:=fun vs H Q _=>∃(m t s:Nat),vs=[.int m,.int t,.int s]∧m≤s∧s≤12∧t≤64∧Q (.int (tot (gsG m t s):Nat)) H
abbrev sLawCount:Stmt:=top 62
theorem scLawCount:FnScope ["_law_mine","_law_theirs","_law_slip_here","_law_found","_law_kept","_law_new"] ["_law_mine","_law_theirs","_law_slip_here"] (defScope sLawCount):=⟨rfl,rfl,rfl,by decide+kernel,rfl,by decide+kernel,by decide+kernel⟩
theorem ok_count{f:Addr}{fd:FuncData}(F:Fun K "_law_count" "_law_count" sLawCount f fd)(T:BltM mg)(c_law_ways:Cal P w K mg base "_law_ways" 1 ["_law_many","_law_few"] spWaysL):FnOk P w K mg base CX0 2 f fd ["_law_mine","_law_theirs","_law_slip_here"] spCount:=by
 refine F.ok scLawCount (fun vs H Q E h=>?_) (fun cdv A outer s H vs Q E hr h=>?_)
 ·obtain⟨m,t,z,rfl,_⟩:=h
  rfl
 ·obtain⟨m,t,z,rfl,hm,hz,ht,k⟩:=h
  refine⟨_,(pss_cons (ps_set (i:=3) scLawCount.nd rfl (Or.inl rfl) pe_int)
   (pss_cons (ps_for PassesOwn.never rfl (pi_range2 (by rfl) T.z_range (pa_cons pe_int (pa_cons (pe_op op_add (pv 0) pe_int) pa_nil))) (pg_name (i:=4) scLawCount.nd rfl (Or.inl rfl)) (pss_one (ps_for PassesOwn.never rfl (pi_range1 (by rfl) T.z_range (pa_cons (pe_op op_add (pe_callB (cMin2 rfl) (by rfl) T.z_min bb_min (pa_cons (pv 1) (pa_cons (pe_op op_sub (pv 2) (pv 4)) pa_nil))) pe_int) pa_nil)) (pg_name (i:=5) scLawCount.nd rfl (Or.inl rfl)) (pss_one (ps_if ((pw_and (pt_cmpR op_gt (pe_op op_mul pe_int (pv 4)) (pv 0) (nomark _)) (pw_and1 (pt_cmpR op_gt (pv 4) (pv 5) (nomark _))))).pt (pss_one (ps_set (i:=3) scLawCount.nd rfl (Or.inl rfl) (pe_op op_add (pv 3) (pe_op op_mulB (pe_callC c_law_ways (hr.mono (by omega)) (by rfl) (pa_cons (pv 0) (pa_cons (pv 4) pa_nil))) (pe_callC c_law_ways (hr.mono (by omega)) (by rfl) (pa_cons (pv 1) (pa_cons (pv 5) pa_nil))))))) pss_nil)))))
   (pss_one (ps_ret (pv 3))))),?_⟩
  walk_at "r"
  refine⟨_,_,rfl,⟨by omega,by omega,by omega,by omega⟩,?_⟩
  have eo:((m:Int)+1 - 1).toNat=m:=by omega
  rw[eo]
  refine forW (fun i σ' H'=>(∃x y,σ'=[some (.int m),some (.int t),some (.int z),some (.int (tot (grG m t z (i - m / 2)):Nat)),x,y])∧H'=H) m ⟨⟨none,none,by rw[Nat.zero_sub];rfl⟩,rfl⟩ ?_ ?_
  ·rintro σ' H' ⟨⟨x,y,rfl⟩,rfl⟩
   refine⟨Nat.le_refl _,?_⟩
   walk_at "r"
   exact k
  ·rintro i σ' H' hi ⟨⟨x,y,rfl⟩,rfl⟩
   refine⟨hi,?_⟩
   rintro x' G ⟨rfl,rfl⟩
   have ek:(1:Int)+(i:Int)=((i+1:Nat):Int):=by omega
   rw[ek]
   walk_at "r"
   have em:((if(z:Int) - ((i+1:Nat):Int)<(t:Int)then(z:Int) - ((i+1:Nat):Int)else(t:Int))+1)=((min t (z - (i+1))+1:Nat):Int):=by split<;>omega
   refine⟨_,rfl,by rw[em];omega,by rw[em];omega,?_⟩
   rw[em,Int.toNat_natCast]
   refine forW (fun j σ' H'=>(∃y,σ'=[some (.int m),some (.int t),some (.int z),some (.int (tot (grG m t z (i - m / 2))+(if 2*(i+1) >m then tot (rowG m t (i+1) (min j (i+1)))else 0):Nat)),some (.int (i+1:Nat)),y])∧H'=G) (min t (z - (i+1))+1) ⟨⟨y,by have e0:(if 2*(i+1) >m then tot (rowG m t (i+1) (min 0 (i+1)))else 0)=0:=(by rw[Nat.zero_min];split<;>rfl);rw[e0];rfl⟩,rfl⟩ ?_ ?_
   ·rintro σ' H' ⟨⟨y,rfl⟩,rfl⟩
    refine⟨Nat.le_refl _,⟨some (.int (i+1:Nat)),y,?_⟩,rfl⟩
    have e:tot (grG m t z (i - m / 2))+(if 2*(i+1) >m then tot (rowG m t (i+1) (min (min t (z - (i+1))+1) (i+1)))else 0)=tot (grG m t z (i+1 - m / 2)):=by
     split
     ·rw[show i+1 - m / 2=(i - m / 2)+1 by omega,grG_succ,tot_append,show m / 2+1+(i - m / 2)=i+1 by omega]
      congr 3
      unfold widG
      omega
     ·rw[show i+1 - m / 2=i - m / 2 by omega]
      rfl
    rw[e]
   ·rintro j σ' H' hj ⟨⟨y,rfl⟩,rfl⟩
    refine⟨hj,?_⟩
    rintro x' G' ⟨rfl,rfl⟩
    rw[Int.zero_add]
    walk_at "r"
    refine ite2 (fun h0=>?_) (fun h0=>?_)
    ·have h0:=of_decide_eq_true h0
     have c0:2*(i+1) >m:=by omega
     walk_at "r"
     refine ite2 (fun h1=>?_) (fun h1=>?_)
     ·have h1:=of_decide_eq_true h1
      walk_at "r"
      refine⟨m,(i+1:Nat),rfl,by omega,by omega,by omega,?_⟩
      rw[wys_nat]
      walk_at "r"
      refine⟨t,j,rfl,by omega,by omega,by omega,?_⟩
      rw[wys_nat]
      have b1:=Nat.le_trans (bin_le m (i+1)) (pow2_le (show m≤64 by omega))
      have b2:=Nat.le_trans (bin_le t j) (pow2_le ht)
      refine i_rI (cmulB (big64 b1) (big64 b2)) ?_
      walk_at "r"
      refine⟨⟨some (.int j),?_⟩,rfl⟩
      rw[if_pos c0,if_pos c0,show min j (i+1)=j by omega,show min (j+1) (i+1)=j+1 by omega,rowG_succ,tot_append,←Nat.add_assoc,Int.natCast_add _ (tot [_])]
      have e2:tot [(i+1,j,bin m (i+1)*bin t j)]=bin m (i+1)*bin t j:=by unfold tot;simp
      rw[e2,Int.natCast_mul]
      rfl
     ·have h1:¬((i+1:Nat):Int) >j:=fun q=>h1 (decide_eq_true q)
      walk_at "r"
      refine⟨⟨some (.int j),?_⟩,rfl⟩
      rw[show min j (i+1)=min (j+1) (i+1) by omega]
      rfl
    ·have c0:¬2*(i+1) >m:=fun q=>h0 (decide_eq_true (by omega))
     refine iteF ?_
     walk_at "r"
     refine⟨⟨some (.int j),?_⟩,rfl⟩
     rw[if_neg c0,if_neg c0]
     rfl
end
theorem cntB_none{bs L:List Int}(h:∀x∈bs,x∉L):cntB bs L=0:=by
 rcases Nat.eq_zero_or_pos (cntB bs L)with z|z
 ·exact z
 ·obtain⟨x,hx⟩:=List.exists_mem_of_length_pos z
  obtain⟨h1,h2⟩:=List.mem_filter.mp hx
  exact absurd (by simpa using h2) (h x (mem_uniq.mp h1))
theorem cntB_rest(ns ms:List Int):cntB ns (restL ns ms)=cntR ns ms:=(cntR_of (ks:=(uniq ns).filter fun x=>decide (x∈restL ns ms)) (nodup_uniq.filter _) fun x=>by
 rw[List.mem_filter,mem_uniq,decide_eq_true_iff,mem_rest];exact⟨fun h=>h.2,fun h=>⟨h.1,h⟩⟩)
theorem cntB_both(ns ms:List Int):cntB ns (bothL ns ms)=cntB ns ms:=(cntB_of (ks:=(uniq ns).filter fun x=>decide (x∈bothL ns ms)) (nodup_uniq.filter _) fun x=>by
 rw[List.mem_filter,mem_uniq,decide_eq_true_iff,mem_both];exact⟨fun h=>h.2,fun h=>⟨h.1,h⟩⟩)
theorem goal_is(ns ms:List Int):stOf ms ns ms=[0,(cntB ns ms:Int),(cntR ms ns:Int)]:=by
 unfold stOf
 rw[cntB_none (bs:=ms) (L:=restL ns ms) fun x hx h=>(mem_rest.mp h).2 hx,cntB_rest]
 have e:cntB ms (bothL ns ms)=cntB ns ms:=by
  rw[cntB_symm ns ms,←cntB_both ms ns]
  exact cntB_congr (fun _=>Iff.rfl) fun x=>by rw[mem_both,mem_both];exact And.comm
 rw[e]
 rfl
theorem start_is(ns ms:List Int):stOf ns ns ms=[(cntR ns ms:Int),(cntB ns ms:Int),0]:=by
 unfold stOf
 rw[cntB_none (bs:=ns) (L:=restL ms ns) fun x hx h=>(mem_rest.mp h).2 hx,cntB_rest,cntB_both]
 rfl
noncomputable def oD:Option Int→Dt
 |none=>.non
 |some i=>.int i
theorem oV_rep{H:Hp}(o:Option Int):Rep H (oV o) (oD o):=by
 cases o with
 |none=>exact .non
 |some i=>exact .int i
theorem oD_depth(o:Option Int):(oD o).depth=0∧(oD o).wide=0:=by cases o<;>exact⟨rfl,rfl⟩
noncomputable def prD(p:Nat×Nat):Dt:=.tup [.int p.1,.int p.2]
theorem reps_pr{H:Hp}:∀{ts:List Addr} {ps:List (Nat×Nat)},PrAt H ts ps→Reps H (ts.map V.ref) (ps.map prD)
 |[],[],_=>.nil
 |[],_::_,h=>by have:=h.1;simp at this
 |_::_,[],h=>by have:=h.1;simp at this
 |t::ts,p::ps,h=>.cons (.tup (h.2 0 t p rfl rfl) (.cons (.int _) (.cons (.int _) .nil))) (reps_pr ⟨by have:=h.1;simpa using this,fun i u q e1 e2=>h.2 (i+1) u q (by simpa using e1) (by simpa using e2)⟩)
theorem depths_pr:∀l:List (Nat×Nat),depths (l.map prD)≤1
 |[]=>Nat.zero_le _
 |p::r=>by
  show max (max 0 (max 0 0)+1) (depths (r.map prD))≤1
  have:=depths_pr r
  omega
theorem wides_pr:∀l:List (Nat×Nat),wides (l.map prD)≤2
 |[]=>Nat.zero_le _
 |p::r=>by
  show max (max 2 (max 0 (max 0 0))) (wides (r.map prD))≤2
  have:=wides_pr r
  omega
theorem rowJ_le(a b:List (List Int))(i j:Nat):(rowJ a b i j).length≤j:=by
 unfold rowJ
 rw[List.length_map]
 exact Nat.le_trans (List.length_filter_le _ _) (by simp)
theorem rowsI_le(a b:List (List Int)):∀i:Nat,(rowsI a b i).length≤i*b.length
 |0=>by simp[rowsI]
 |i+1=>by
  rw[rowsI_succ,List.length_append,Nat.succ_mul]
  have:=rowsI_le a b i
  have:=rowJ_le a b i b.length
  omega
noncomputable def osF(ns os:List Int):List Int:=os.filter fun t=>!decide (t∈ns)
theorem osF_len(ns os:List Int):(osF ns os).length≤os.length:=List.length_filter_le _ _
theorem osF_not{ns os:List Int}{x:Int}(h:x∈osF ns os):x∉ns:=by
 have:=(List.mem_filter.mp h).2
 simpa using this
theorem osF_none(ns os:List Int):cntB ns (osF ns os)=0:=cntB_none fun _ hx h=>osF_not h hx
noncomputable def pairF(ns os:List Int):List (List Int):=if osF ns os=[]then[ns]else[ns,osF ns os]
theorem cnt_app{ns ms:List Int}(h:∀x∈ns,x∉ms):cnt (ns++ms)=cnt ns+cnt ms:=by
 have e:=cnt_of (ks:=uniq ns++uniq ms) (ns:=ns++ms) (List.nodup_append.mpr ⟨nodup_uniq,nodup_uniq,fun a ha b hb z=>h a (mem_uniq.mp ha) (z▸mem_uniq.mp hb)⟩) fun x=>by rw[List.mem_append,List.mem_append,mem_uniq,mem_uniq]
 rw[←e,List.length_append]
 rfl
theorem fleet_one{ns:List Int}(h:ns≠[]):fleetB [ns]=true:=by
 unfold fleetB
 simp[h]
theorem pair_fleet{ns:List Int}(os:List Int)(h:ns≠[]):fleetB (pairF ns os)=true:=by
 unfold pairF
 split
 ·exact fleet_one h
 ·rename_i z
  have e:=cnt_app (ns:=ns) (ms:=osF ns os) fun x hx q=>osF_not q hx
  unfold fleetB
  simp[h,z,e]
theorem pair_few(ns os:List Int):(pairF ns os).length≤2:=by
 unfold pairF
 split<;>simp
theorem pair_sum(ns os:List Int):((pairF ns os).map List.length).sum≤ns.length+os.length:=by
 have:=osF_len ns os
 unfold pairF
 split
 ·simp
 ·simp
  omega
noncomputable def dtA(slip:Int)(ns os ms R B:List Int):Dt:=.lst [.lst (R.map Dt.int),.lst (B.map Dt.int),.bl (likeB ns ms),.lst ((pairsOf (pairF ns os) [ms]).map prD),
 .int (tot (gsG (cnt ns) (cnt (osF ns os)) slip.toNat):Nat),.lst ((stagesOf (cntR ns ms) (cntB ns ms) (cntR ms ns) slip).map tri),oD (hgI (stagesI ns ms slip) (stOf ms ns ms) (stOf ns ns ms))]
theorem dtA_depth(slip:Int)(ns os ms R B:List Int):(dtA slip ns os ms R B).depth≤3:=by
 show max (Dt.lst (R.map Dt.int)).depth (max (Dt.lst (B.map Dt.int)).depth (max 0 (max (depths ((pairsOf (pairF ns os) [ms]).map prD)+1) (max 0 (max (Dt.lst ((stagesOf (cntR ns ms) (cntB ns ms) (cntR ms ns) slip).map tri)).depth (max (oD _).depth 0))))))+1≤3
 have h1:=depths_pr (pairsOf (pairF ns os) [ms])
 have h2:=depth_tri (stagesOf (cntR ns ms) (cntB ns ms) (cntR ms ns) slip)
 rw[depth_ints,depth_ints,(oD_depth _).1]
 omega
theorem dtA_wide{slip:Int}{ns os ms R B:List Int}(fit:Fit5 ns ms slip)(l1:R.length≤100)(l2:B.length≤100):(dtA slip ns os ms R B).wide≤1000:=by
 have h1:=wides_pr (pairsOf (pairF ns os) [ms])
 have h2:(pairsOf (pairF ns os) [ms]).length≤(pairF ns os).length*1:=rowsI_le (pairF ns os) [ms] (pairF ns os).length
 have h3:=pair_few ns os
 have h4:=wides_tri (stagesOf (cntR ns ms) (cntB ns ms) (cntR ms ns) slip)
 have h5:(stagesOf (cntR ns ms) (cntB ns ms) (cntR ms ns) slip).length≤1000:=by
  have:=stages_few fit
  unfold stagesI at this
  rwa[List.length_map]at this
 show max 7 (max (max (R.map Dt.int).length (wides (R.map Dt.int))) (max (max (B.map Dt.int).length (wides (B.map Dt.int))) (max 0 (max (max ((pairsOf (pairF ns os) [ms]).map prD).length (wides ((pairsOf (pairF ns os) [ms]).map prD))) (max 0 (max (max ((stagesOf (cntR ns ms) (cntB ns ms) (cntR ms ns) slip).map tri).length (wides ((stagesOf (cntR ns ms) (cntB ns ms) (cntR ms ns) slip).map tri))) (max (oD _).wide 0)))))))≤1000
 rw[wides_ints,wides_ints,(oD_depth _).2,List.length_map,List.length_map,List.length_map,List.length_map]
 omega
structure Ask(slip:Int)(ns os ms:List Int):Prop where
 s1:1≤slip
 s2:slip≤12
 n1:1≤ns.length
 n2:(ns.length:Int)≤slip
 m1:1≤ms.length
 m2:(ms.length:Int)≤slip
 o2:os.length≤12
theorem cnt_pos{ns:List Int}(h:1≤ns.length):1≤cnt ns:=by
 cases ns with
 |nil=>cases h
 |cons x r=>exact List.length_pos_of_mem (mem_uniq.mpr List.mem_cons_self)
theorem Ask.fit{slip:Int}{ns os ms:List Int}(h:Ask slip ns os ms):Fit5 ns ms slip:=by
 have a:=cnt_le ns
 have b:=cnt_le ms
 obtain⟨h1,h2,h3,h4,h5,h6,h7⟩:=h
 exact⟨h2,cnt_pos h3,by omega,cnt_pos h5,by omega⟩
noncomputable def spAsk(K:W.Frag):Sp:=fun vs H Q _=>∃(a b c:Addr) (slip:Int) (ns os ms:List Int),vs=[.int slip,.ref a,.ref b,.ref c]∧H a=some (.lst (ns.map V.int))∧H b=some (.lst (os.map V.int))∧H c=some (.lst (ms.map V.int))∧Ask slip ns os ms∧
 ∀v H' (R B:List Int),Same H H'→Ris R (fun x=>x∈ns)→Ris B (pBoth ns ms)→Rep H' v (dtA slip ns os ms R B)→Q v H'
section
variable{P:Program}{w:World}{K:W.Frag}{mg:Str→Option Value}{base:Heap}
theorem FlAt.one{H:Hp}{p a:Addr}{ns:List Int}(h:H p=some (.lst [.ref a]))(ha:H a=some (.lst (ns.map V.int))):FlAt H p [ns]:=
 ⟨[a],h,rfl,fun i t ms e1 e2=>by
  match i,e1,e2 with
  |0,e1,e2=>cases e1;cases e2;exact ha⟩
theorem FlAt.two{H:Hp}{p a b:Addr}{ns os:List Int}(h:H p=some (.lst [.ref a,.ref b]))(ha:H a=some (.lst (ns.map V.int)))(hb:H b=some (.lst (os.map V.int))):FlAt H p [ns,os]:=
 ⟨[a,b],h,rfl,fun i t ms e1 e2=>by
  match i,e1,e2 with
  |0,e1,e2=>cases e1;cases e2;exact ha
  |1,e1,e2=>cases e1;cases e2;exact hb⟩
theorem pair_step{H1:Hp}{a e:Addr}{ns os:List Int}{x0 x2 x3:Option V}{r:St}{Q:VK}(ha:H1 a=some (.lst (ns.map V.int)))(he:H1 e=some (.lst ((osF ns os).map V.int)))(k:∀p H',Same H1 H'→FlAt H' p (pairF ns os)→Q (.ref p) H'):
  tIf (tB (tOp (rEqI true) (tVar 4) (tLst tNil))) (tLst (tCons (tCB (rListOf K) (tCons (tVar 1) tNil)) (tCons (tVar 4) tNil))) (tLst (tCons (tCB (rListOf K) (tCons (tVar 1) tNil)) tNil)) (x0::some (.ref a)::x2::x3::some (.ref e)::r) H1 Q:=by
 refine i_ifE ?_
 walk_at "r"
 refine⟨Nat.zero_le _,fun o ho=>?_⟩
 have s1:=same_upd (o:=.lst []) ho
 refine i_eqI (ms:=[]) (s1 _ _ he) upd_same ?_
 walk_at "r"
 unfold pairF at k
 by_cases h:osF ns os=[]
 ·rw[if_pos h]at k
  rw[decide_eq_true h]
  refine iteF ?_
  walk_at "r"
  refine i_list (SqL.of (s1 _ _ ha)) fun c hc=>?_
  have s2:=same_upd (o:=.lst (ns.map V.int)) hc
  walk_at "r"
  refine⟨by show 1≤sizeLine;decide,fun p hp=>?_⟩
  have s3:=same_upd (o:=.lst [.ref c]) hp
  exact k p _ ((s1.trans s2).trans s3) (.one upd_same (s3 _ _ upd_same))
 ·rw[if_neg h]at k
  rw[decide_eq_false h]
  refine iteT ?_
  walk_at "r"
  refine i_list (SqL.of (s1 _ _ ha)) fun c hc=>?_
  have s2:=same_upd (o:=.lst (ns.map V.int)) hc
  walk_at "r"
  refine⟨by show 2≤sizeLine;decide,fun p hp=>?_⟩
  have s3:=same_upd (o:=.lst [.ref c,.ref e]) hp
  exact k p _ ((s1.trans s2).trans s3) (.two upd_same (s3 _ _ upd_same) (s3 _ _ (s2 _ _ (s1 _ _ he))))
abbrev sLawAnswers:Stmt:=top 70
theorem scLawAnswers:FnScope ["_law_slip_here","_law_boat","_law_others","_law_goal","_law_other","_law_pair","_law_told"] ["_law_slip_here","_law_boat","_law_others","_law_goal"] (defScope sLawAnswers):=⟨rfl,rfl,rfl,by decide+kernel,rfl,by decide+kernel,by decide+kernel⟩
theorem nd_274_17:(["_law_timber","_law_boat"]:List Str).Nodup:=by decide+kernel
theorem S_274_17:CompScope ["_law_slip_here","_law_boat","_law_others","_law_goal","_law_other","_law_pair","_law_told"] (defScope sLawAnswers) ({kind:=ScopeKind.function,names:=[(Str.ofString ".0",NameKind.local),(Str.ofString "_law_timber",NameKind.local),(Str.ofString "_law_boat",NameKind.free)],isGenerator:=false,isCoroutine:=false,more:=[]:Scope}) (["_law_timber"]:List Str) ([(1,"_law_boat")]:List (Nat×Str)):=⟨by decide+kernel,by decide+kernel,by decide+kernel,by decide+kernel,by decide+kernel⟩
theorem ok_answers{f:Addr}{fd:FuncData}(F:Fun K "_law_answers" "_law_answers" sLawAnswers f fd)(T:BltM mg)(c_rising:Cal P w K mg base "rising" 1 ["timbers"] (spRis K))(c_common:Cal P w K mg base "common" 1 ["one","other"] (spTwo K pBoth))(c_same:Cal P w K mg base "same" 2 ["one","other"] (spLike K))
  (c_paired:Cal P w K mg base "paired" 3 ["ahead","behind"] spPaired) (c_choices:Cal P w K mg base "choices" 4 ["boat","others","slip"] (spChoices K)) (c_stages:Cal P w K mg base "stages" 4 ["start","goal","slip"] (spStages K)) (c_fewest:Cal P w K mg base "fewest" 6 ["start","goal","slip"] (spFewest K)):FnOk P w K mg base CX0 7 f fd ["_law_slip_here","_law_boat","_law_others","_law_goal"] (spAsk K):=by
 refine F.ok scLawAnswers (fun vs H Q E h=>?_) (fun cdv A outer s H vs Q E hr h=>?_)
 ·obtain⟨a,b,c,slip,ns,os,ms,rfl,_⟩:=h
  rfl
 ·obtain⟨a,b,c,slip,ns,os,ms,rfl,ha,hb,hc,ak,k⟩:=h
  obtain⟨z1,z2,n1,n2,m1,m2,o2⟩:=id ak
  have fit:=ak.fit
  obtain⟨_,f1,f2,f3,f4⟩:=id fit
  refine⟨_,(pss_cons (ps_lcomp (iy:=4) rfl scLawAnswers.nd rfl rfl S_274_17 (piL (K:=K) rfl (pv 2)) (by intro _ _ _ _ _;exact(pg_name (i:=0) nd_274_17 rfl (Or.inl rfl))) (by intro _ _ _ _ _;exact(pts_one (pt_cmpR (oNotIn (K:=K) rfl) (pv 0) (pv 1) (by with_unfolding_all rfl)))) (by intro _ _ _ _ _;exact(pv 0)) (by rfl))
   (pss_cut (ps_set (i:=5) scLawAnswers.nd rfl (Or.inl rfl) (pe_ifExp (pt_cmpR (op_neI hr.units) (pv 4) (pe_lst pa_nil) (nomark _)) (pe_lst (pa_cons (pe_callTy (cList (K:=K) rfl) (by rfl) T.z_list bb_list (pa_cons (pv 1) pa_nil)) (pa_cons (pv 4) pa_nil))) (pe_lst (pa_cons (pe_callTy (cList (K:=K) rfl) (by rfl) T.z_list bb_list (pa_cons (pv 1) pa_nil)) pa_nil))))
   (pss_cons (ps_set (i:=6) scLawAnswers.nd rfl (Or.inl rfl) (pe_lst (pa_cons (pe_callC c_rising (hr.mono (by omega)) (by rfl) (pa_cons (pv 1) pa_nil)) (pa_cons (pe_callC c_common (hr.mono (by omega)) (by rfl) (pa_cons (pv 1) (pa_cons (pv 3) pa_nil))) (pa_cons (pe_callC c_same (hr.mono (by omega)) (by rfl) (pa_cons (pv 1) (pa_cons (pv 3) pa_nil))) (pa_cons (pe_callC c_paired (hr.mono (by omega)) (by rfl) (pa_cons (pv 5) (pa_cons (pe_lst (pa_cons (pe_callTy (cList (K:=K) rfl) (by rfl) T.z_list bb_list (pa_cons (pv 3) pa_nil)) pa_nil)) pa_nil))) pa_nil))))))
   (pss_one (ps_ret (pe_op op_cat (pv 6) (pe_lst (pa_cons (pe_callC c_choices (hr.mono (by omega)) (by rfl) (pa_cons (pv 1) (pa_cons (pv 4) (pa_cons (pv 0) pa_nil)))) (pa_cons (pe_callC c_stages (hr.mono (by omega)) (by rfl) (pa_cons (pv 1) (pa_cons (pv 3) (pa_cons (pv 0) pa_nil)))) (pa_cons (pe_callC c_fewest (hr.mono (by omega)) (by rfl) (pa_cons (pv 1) (pa_cons (pv 3) (pa_cons (pv 0) pa_nil)))) pa_nil)))))))))),?_⟩
  walk_at "r"
  refine⟨b,rfl,⟨_,SqL.of hb⟩,?_⟩
  refine filterL (σ0:=[some (.ref a)]) (f:=fun z=>!decide (z∈ns)) (by omega) (SqL.of hb) ?_ ?_
  ·intro z R hR
   walk_at "r"
   refine i_notInI (SqL.of ha) ?_
   walk_at "r"
   exact hR
  intro e he
  have s1:=same_upd (o:=.lst ((osF ns os).map V.int)) he
  have he1:upd H e (.lst ((osF ns os).map V.int)) e=some (.lst ((osF ns os).map V.int)):=upd_same
  show tCut _ _ _ _ (upd H e (.lst ((osF ns os).map V.int)))
  generalize upd H e (.lst ((osF ns os).map V.int))=H1 at s1 he1⊢
  have ha1:=s1 _ _ ha
  have hc1:=s1 _ _ hc
  refine⟨fun σ' H'=>∃p,σ'=[some (.int slip),some (.ref a),some (.ref b),some (.ref c),some (.ref e),some (.ref p),none]∧Same H1 H'∧FlAt H' p (pairF ns os),?_,?_⟩
  ·refine i_asg ?_
   refine pair_step (K:=K) ha1 he1 fun p H' s' fp=>?_
   walk_at "r"
   exact⟨p,rfl,s',fp⟩
  ·rintro σ' H2 ⟨p,rfl,s2,fp⟩
   have s12:=s1.trans s2
   have ha2:=s12 _ _ ha
   have hc2:=s12 _ _ hc
   have he2:=s2 _ _ he1
   have lo:=osF_len ns os
   walk_at "r"
   refine⟨a,ns,rfl,.inl (SqL.of ha2),by omega,fun r1 H3 R s3 _ hr3 risR=>?_⟩
   walk_at "r"
   refine⟨a,c,ns,ms,rfl,.inl (SqL.of (s3 _ _ ha2)),.inl (SqL.of (s3 _ _ hc2)),by omega,by omega,fun r2 H4 B s4 _ hr4 risB=>?_⟩
   have s34:=s3.trans s4
   walk_at "r"
   refine⟨a,c,ns,ms,rfl,.inl (SqL.of (s34 _ _ ha2)),.inl (SqL.of (s34 _ _ hc2)),by omega,by omega,fun H5 s5=>?_⟩
   have s35:=s34.trans s5
   walk_at "r"
   refine i_list (SqL.of (s35 _ _ hc2)) fun g hg=>?_
   have s6:=same_upd (o:=.lst (ms.map V.int)) hg
   walk_at "r"
   refine⟨by show 1≤sizeLine;decide,fun q hq=>?_⟩
   have s7:=same_upd (o:=.lst [.ref g]) hq
   have s7':=s7
   have s37:=s35.trans (s6.trans s7)
   have fq:FlAt (upd (upd H5 g (.lst (ms.map V.int))) q (.lst [.ref g])) q [ms]:=.one upd_same (s7 _ _ upd_same)
   generalize upd (upd H5 g (.lst (ms.map V.int))) q (.lst [.ref g])=H7 at s37 fq s7'⊢
   walk_at "r"
   have ps:=pair_sum ns os
   have pf:=pair_few ns os
   refine⟨p,q,pairF ns os,[ms],rfl,fp.same s37,fq,by omega,by simp;omega,by omega,by show 1≤60;decide,pair_fleet os (by intro z;rw[z]at n1;cases n1),fleet_one (by intro z;rw[z]at m1;cases m1),fun l H8 ts s8 _ hl8 pr8=>?_⟩
   walk_at "r"
   refine⟨by show 4≤sizeLine;decide,fun o1 ho1=>?_⟩
   have s9:=same_upd (o:=.lst [.ref r1,.ref r2,.bl (likeB ns ms),.ref l]) ho1
   have ho9:upd H8 o1 (.lst [.ref r1,.ref r2,.bl (likeB ns ms),.ref l]) o1=_:=upd_same
   generalize upd H8 o1 (.lst [.ref r1,.ref r2,.bl (likeB ns ms),.ref l])=H9 at s9 ho9⊢
   have s89:=s8.trans s9
   have s39:=s37.trans s89
   have ha9:=s39 _ _ ha2
   have hc9:=s39 _ _ hc2
   have he9:=s39 _ _ he2
   walk_at "r"
   refine⟨a,e,ns,osF ns os,slip,rfl,⟨.inl (SqL.of ha9),.inl (SqL.of he9),by omega,by omega⟩,z1,z2,f1,f2,osF_none ns os,fun H10 s10=>?_⟩
   walk_at "r"
   refine⟨a,c,ns,ms,slip,rfl,.inl (SqL.of (s10 _ _ ha9)),.inl (SqL.of (s10 _ _ hc9)),by omega,by omega,z2,f1,f2,f3,f4,fun l2 H11 ws s11 _ hl11 rp11=>?_⟩
   have s91:=s10.trans s11
   walk_at "r"
   refine⟨a,c,ns,ms,slip,rfl,⟨.inl (SqL.of (s91 _ _ ha9)),.inl (SqL.of (s91 _ _ hc9)),by omega,by omega⟩,fit,fun H12 s12'=>?_⟩
   have s92:=s91.trans s12'
   walk_at "r"
   refine⟨by show 3≤sizeLine;decide,fun o2 ho2=>?_⟩
   have s13:=same_upd (o:=.lst [.int (tot (gsG (cnt ns) (cnt (osF ns os)) slip.toNat):Nat),.ref l2,oV (hgI (stagesI ns ms slip) (stOf ms ns ms) (stOf ns ns ms))]) ho2
   have s93:=s92.trans s13
   refine i_cat (s93 _ _ ho9) upd_same (by show 7≤sizeLine;decide) fun v hv=>?_
   have s14:=same_upd (o:=.lst ([.ref r1,.ref r2,.bl (likeB ns ms),.ref l]++[.int (tot (gsG (cnt ns) (cnt (osF ns os)) slip.toNat):Nat),.ref l2,oV (hgI (stagesI ns ms slip) (stOf ms ns ms) (stOf ns ns ms))])) hv
   have s94:=s93.trans s14
   have t1:=s12'.trans (s13.trans s14)
   refine k (.ref v) _ R B (s12.trans (s39.trans s94)) risR risB ?_
   refine .lst upd_same ?_
   have s48:=(s5.trans (s6.trans s7')).trans (s89.trans s94)
   exact .cons (rep_ints ((s4.trans s48) _ _ hr3)) (.cons (rep_ints (s48 _ _ hr4)) (.cons (.bl _) (.cons (.lst ((s9.trans s94) _ _ hl8) (reps_pr (pr8.same (s9.trans s94)))) (.cons (.int _) (.cons (.lst (t1 _ _ hl11) (rp11.mono t1)) (.cons (oV_rep _) .nil))))))
end
section
variable{P:Program}{w:World}{K:W.Frag}{mg:Str→Option Value}{base:Heap}
abbrev sLawDues:Stmt:=top 71
theorem scLawDues:FnScope ["_law_slip_here","_law_boat","_law_others","_law_goal","_law_other","_law_pair","_law_sorts","_law_both","_law_height","_law_many","_law_due"] ["_law_slip_here","_law_boat","_law_others","_law_goal"] (defScope sLawDues):=⟨rfl,rfl,rfl,by decide+kernel,rfl,by decide+kernel,by decide+kernel⟩
theorem nd_279_17:(["_law_timber","_law_boat"]:List Str).Nodup:=by decide+kernel
theorem S_279_17:CompScope ["_law_slip_here","_law_boat","_law_others","_law_goal","_law_other","_law_pair","_law_sorts","_law_both","_law_height","_law_many","_law_due"] (defScope sLawDues) ({kind:=ScopeKind.function,names:=[(Str.ofString ".0",NameKind.local),(Str.ofString "_law_timber",NameKind.local),(Str.ofString "_law_boat",NameKind.free)],isGenerator:=false,isCoroutine:=false,more:=[]:Scope}) (["_law_timber"]:List Str) ([(1,"_law_boat")]:List (Nat×Str)):=⟨by decide+kernel,by decide+kernel,by decide+kernel,by decide+kernel,by decide+kernel⟩
theorem nd_282_16:(["_law_timber","_law_goal"]:List Str).Nodup:=by decide+kernel
theorem S_282_16:CompScope ["_law_slip_here","_law_boat","_law_others","_law_goal","_law_other","_law_pair","_law_sorts","_law_both","_law_height","_law_many","_law_due"] (defScope sLawDues) ({kind:=ScopeKind.function,names:=[(Str.ofString ".0",NameKind.local),(Str.ofString "_law_timber",NameKind.local),(Str.ofString "_law_goal",NameKind.free)],isGenerator:=false,isCoroutine:=false,more:=[]:Scope}) (["_law_timber"]:List Str) ([(3,"_law_goal")]:List (Nat×Str)):=⟨by decide+kernel,by decide+kernel,by decide+kernel,by decide+kernel,by decide+kernel⟩
theorem ok_dues{f:Addr}{fd:FuncData}(F:Fun K "_law_dues" "_law_dues" sLawDues f fd)(T:BltM mg)(c_law_kinds:Cal P w K mg base "_law_kinds" 2 ["_law_start","_law_goal"] (spSorts K))(c_law_set:Cal P w K mg base "_law_set" 1 ["_law_timbers"] (spRis K))(c_law_heights:Cal P w K mg base "_law_heights" 2 ["_law_sorts","_law_slip_here"] (spHeightsL K))(c_law_count:Cal P w K mg base "_law_count" 2 ["_law_mine","_law_theirs","_law_slip_here"] spCount)
  (c_law_like:Cal P w K mg base "_law_like" 2 ["_law_one","_law_other"] (spLike K)) (c_law_pairs:Cal P w K mg base "_law_pairs" 3 ["_law_ahead","_law_behind"] (spPairsL K)) (c_law_stages:Cal P w K mg base "_law_stages" 1 ["_law_sorts","_law_slip_here"] (spStagesL K)):FnOk P w K mg base CX0 4 f fd ["_law_slip_here","_law_boat","_law_others","_law_goal"] (spAsk K):=by
 refine F.ok scLawDues (fun vs H Q E h=>?_) (fun cdv A outer s H vs Q E hr h=>?_)
 ·obtain⟨a,b,c,slip,ns,os,ms,rfl,_⟩:=h
  rfl
 ·obtain⟨a,b,c,slip,ns,os,ms,rfl,ha,hb,hc,ak,k⟩:=h
  obtain⟨z1,z2,n1,n2,m1,m2,o2⟩:=id ak
  have fit:=ak.fit
  obtain⟨_,f1,f2,f3,f4⟩:=id fit
  have g1:cntR ns ms+cntB ns ms≤12:=by rw[cnt_split];omega
  have g2:cntR ms ns+cntB ns ms≤12:=by rw[cntB_symm,cnt_split];omega
  have lo:=osF_len ns os
  refine⟨_,(pss_cons (ps_lcomp (iy:=4) rfl scLawDues.nd rfl rfl S_279_17 (piL (K:=K) rfl (pv 2)) (by intro _ _ _ _ _;exact(pg_name (i:=0) nd_279_17 rfl (Or.inl rfl))) (by intro _ _ _ _ _;exact(pts_one (pt_cmpR (oNotIn (K:=K) rfl) (pv 0) (pv 1) (by with_unfolding_all rfl)))) (by intro _ _ _ _ _;exact(pv 0)) (by rfl))
   (pss_cut (ps_set (i:=5) scLawDues.nd rfl (Or.inl rfl) (pe_ifExp (pt_cmpR (op_neI hr.units) (pv 4) (pe_lst pa_nil) (nomark _)) (pe_lst (pa_cons (pe_callTy (cList (K:=K) rfl) (by rfl) T.z_list bb_list (pa_cons (pv 1) pa_nil)) (pa_cons (pv 4) pa_nil))) (pe_lst (pa_cons (pe_callTy (cList (K:=K) rfl) (by rfl) T.z_list bb_list (pa_cons (pv 1) pa_nil)) pa_nil))))
   (pss_cut (ps_set (i:=6) scLawDues.nd rfl (Or.inl rfl) (pe_callC c_law_kinds (hr.mono (by omega)) (by rfl) (pa_cons (pv 1) (pa_cons (pv 3) pa_nil))))
   (pss_cut (ps_lcomp (iy:=7) rfl scLawDues.nd rfl rfl S_282_16 (piL (K:=K) rfl (pe_callC c_law_set (hr.mono (by omega)) (by rfl) (pa_cons (pv 1) pa_nil))) (by intro _ _ _ _ _;exact(pg_name (i:=0) nd_282_16 rfl (Or.inl rfl))) (by intro _ _ _ _ _;exact(pts_one (pt_cmpR (oIn (K:=K) rfl) (pv 0) (pv 1) (by with_unfolding_all rfl)))) (by intro _ _ _ _ _;exact(pv 0)) (by rfl))
   (pss_cut (ps_set (i:=8) scLawDues.nd rfl (Or.inl rfl) (pe_dget1 (hu1 hr.units) (pe_callC c_law_heights (hr.mono (by omega)) (by rfl) (pa_cons (pv 6) (pa_cons (pv 0) pa_nil))) (pe_tup (pa_cons (pe_ix (ixT (K:=K) rfl) (pv 6) pe_int (fun _ _=>rfl)) (pa_cons (pe_ix (ixT (K:=K) rfl) (pv 6) pe_int (fun _ _=>rfl)) (pa_cons pe_int pa_nil)))) ⟨rfl,rfl,rfl,rfl⟩))
   (pss_cut (ps_set (i:=9) scLawDues.nd rfl (Or.inl rfl) (pe_callC c_law_count (hr.mono (by omega)) (by rfl) (pa_cons (pe_callB (cLenS (w:=w) rfl) (by rfl) T.z_len bb_len (pa_cons (pe_callTy (cSetX (K:=K) (w:=w) rfl rfl rfl) (by rfl) T.z_set bb_set (pa_cons (pv 1) pa_nil)) pa_nil)) (pa_cons (pe_callB (cLenS (w:=w) rfl) (by rfl) T.z_len bb_len (pa_cons (pe_callTy (cSetX (K:=K) (w:=w) rfl rfl rfl) (by rfl) T.z_set bb_set (pa_cons (pv 4) pa_nil)) pa_nil)) (pa_cons (pv 0) pa_nil)))))
   (pss_cons (ps_set (i:=10) scLawDues.nd rfl (Or.inl rfl) (pe_lst (pa_cons (pe_callC c_law_set (hr.mono (by omega)) (by rfl) (pa_cons (pv 1) pa_nil)) (pa_cons (pv 7) (pa_cons (pe_callC c_law_like (hr.mono (by omega)) (by rfl) (pa_cons (pv 1) (pa_cons (pv 3) pa_nil))) (pa_cons (pe_callC c_law_pairs (hr.mono (by omega)) (by rfl) (pa_cons (pv 5) (pa_cons (pe_lst (pa_cons (pv 3) pa_nil)) pa_nil))) pa_nil))))))
   (pss_one (ps_ret (pe_op op_cat (pv 10) (pe_lst (pa_cons (pv 9) (pa_cons (pe_callC c_law_stages (hr.mono (by omega)) (by rfl) (pa_cons (pv 6) (pa_cons (pv 0) pa_nil))) (pa_cons (pv 8) pa_nil)))))))))))))),?_⟩
  walk_at "r"
  refine⟨b,rfl,⟨_,SqL.of hb⟩,?_⟩
  refine filterL (σ0:=[some (.ref a)]) (f:=fun z=>!decide (z∈ns)) (by omega) (SqL.of hb) ?_ ?_
  ·intro z R hR
   walk_at "r"
   refine i_notInI (SqL.of ha) ?_
   walk_at "r"
   exact hR
  intro e he
  have s1:=same_upd (o:=.lst ((osF ns os).map V.int)) he
  have he1:upd H e (.lst ((osF ns os).map V.int)) e=some (.lst ((osF ns os).map V.int)):=upd_same
  show tCut _ _ _ _ (upd H e (.lst ((osF ns os).map V.int)))
  generalize upd H e (.lst ((osF ns os).map V.int))=H1 at s1 he1⊢
  have ha1:=s1 _ _ ha
  refine⟨fun σ' H'=>∃p,σ'=[some (.int slip),some (.ref a),some (.ref b),some (.ref c),some (.ref e),some (.ref p),none,none,none,none,none]∧Same H1 H'∧FlAt H' p (pairF ns os),?_,?_⟩
  ·refine i_asg ?_
   refine pair_step (K:=K) ha1 he1 fun p H' s' fp=>?_
   walk_at "r"
   exact⟨p,rfl,s',fp⟩
  rintro σ' H2 ⟨p,rfl,s2',fp⟩
  have s2:=s1.trans s2'
  have he2:=s2' _ _ he1
  clear he1 ha1 s1 s2'
  refine⟨fun σ' H'=>∃t,σ'=[some (.int slip),some (.ref a),some (.ref b),some (.ref c),some (.ref e),some (.ref p),some (.ref t),none,none,none,none]∧Same H2 H'∧H' t=some (.tup [.int (cntR ns ms),.int (cntB ns ms),.int (cntR ms ns)]),?_,?_⟩
  ·walk_at "r"
   refine⟨a,c,ns,ms,rfl,SqL.of (s2 _ _ ha),SqL.of (s2 _ _ hc),by omega,by omega,fun t H3 s3 _ ht=>?_⟩
   walk_at "r"
   exact⟨t,rfl,s3,ht⟩
  rintro σ' H3 ⟨t,rfl,s3,ht3⟩
  have s23:=s2.trans s3
  refine⟨fun σ' H'=>∃(u:Addr) (B:List Int),σ'=[some (.int slip),some (.ref a),some (.ref b),some (.ref c),some (.ref e),some (.ref p),some (.ref t),some (.ref u),none,none,none]∧Same H3 H'∧H' u=some (.lst (B.map V.int))∧Ris B (pBoth ns ms),?_,?_⟩
  ·have hc3:=s23 _ _ hc
   walk_at "r"
   refine⟨a,ns,rfl,.inl (SqL.of (s23 _ _ ha)),by omega,fun l H4 rs s4 _ hl4 ris=>?_⟩
   refine⟨l,rfl,⟨_,SqL.of hl4⟩,?_⟩
   have lr:rs.length≤ns.length:=ris.le fun x h=>h
   refine filterL (σ0:=[some (.ref c)]) (f:=fun z=>decide (z∈ms)) (by omega) (SqL.of hl4) ?_ ?_
   ·intro z R hR
    walk_at "r"
    refine i_inI (SqL.of (s4 _ _ hc3)) ?_
    walk_at "r"
    exact hR
   intro u hu
   walk_at "r"
   refine⟨u,rs.filter fun z=>decide (z∈ms),rfl,s4.trans (same_upd hu),upd_same,?_⟩
   exact⟨ris.1.filter _,fun x=>by rw[List.mem_filter,ris.2 x,decide_eq_true_iff];exact Iff.rfl⟩
  rintro σ' H4 ⟨u,B,rfl,s4,hu4,risB⟩
  refine⟨fun σ' H'=>σ'=[some (.int slip),some (.ref a),some (.ref b),some (.ref c),some (.ref e),some (.ref p),some (.ref t),some (.ref u),some (oV (hgI (stagesI ns ms slip) (stOf ms ns ms) (stOf ns ns ms))),none,none]∧Same H4 H',?_,?_⟩
  ·have ht4:=s4 _ _ ht3
   walk_at "r"
   refine⟨t,_,_,_,slip,rfl,SqT.of ht4,g1,g2,fun df H5 kvs s5 _ hdf ev=>?_⟩
   refine⟨df,rfl,.inr ⟨kvs,.inl hdf⟩,?_⟩
   have ht5:=s5 _ _ ht4
   walk_at "r"
   refine⟨by show 3≤sizeLine;decide,fun q3 hq3=>?_⟩
   have s6:=same_upd (o:=.tup [.int (cntR ns ms),.int (cntB ns ms),.int 0]) hq3
   have hq6:upd H5 q3 (.tup [.int (cntR ns ms),.int (cntB ns ms),.int 0]) q3=some (.tup (([(cntR ns ms:Int),(cntB ns ms:Int),0]:List Int).map V.int)):=upd_same
   generalize upd H5 q3 (.tup [.int (cntR ns ms),.int (cntB ns ms),.int 0])=H6 at s6 hq6⊢
   refine⟨_,DGet.t (k:=kI [(cntR ns ms:Int),(cntB ns ms:Int),0]) (s6 _ _ hdf) (by rw[kI_kV];exact hq6),?_⟩
   rw[ev]
   walk_at "r"
   refine⟨?_,s5.trans s6⟩
   rw[goal_is,start_is]
   rfl
  rintro σ' H5 ⟨rfl,s5⟩
  refine⟨fun σ' H'=>σ'=[some (.int slip),some (.ref a),some (.ref b),some (.ref c),some (.ref e),some (.ref p),some (.ref t),some (.ref u),some (oV (hgI (stagesI ns ms slip) (stOf ms ns ms) (stOf ns ns ms))),some (.int (tot (gsG (cnt ns) (cnt (osF ns os)) slip.toNat):Nat)),none]∧Same H5 H',?_,?_⟩
  ·have s45:=s4.trans s5
   have s05:=s23.trans s45
   have ha5:=s05 _ _ ha
   have he5:=s45 _ _ (s3 _ _ he2)
   walk_at "r"
   refine i_setX (.inl (SqL.of ha5)) (by omega) fun x ks hx nd mem=>?_
   have s6:=same_upd (o:=setO w x ks) hx
   walk_at "r"
   refine i_lenS upd_same ?_
   rw[cnt_of nd mem]
   walk_at "r"
   refine i_setX (.inl (SqL.of (s6 _ _ he5))) (by omega) fun y js hy nd2 mem2=>?_
   have s7:=same_upd (o:=setO w y js) hy
   walk_at "r"
   refine i_lenS upd_same ?_
   rw[cnt_of nd2 mem2]
   walk_at "r"
   have lc:=cnt_le (osF ns os)
   obtain⟨z,rfl⟩:∃z:Nat,slip=z:=⟨slip.toNat,by omega⟩
   rw[Int.toNat_natCast]
   refine⟨_,_,z,rfl,by omega,by omega,by omega,?_⟩
   walk_at "r"
   exact⟨rfl,s6.trans s7⟩
  rintro σ' H6 ⟨rfl,s6⟩
  have s46:=s4.trans (s5.trans s6)
  have s06:=s23.trans s46
  have ha6:=s06 _ _ ha
  have hc6:=s06 _ _ hc
  have fp6:=(fp.same s3).same s46
  have ht6:=s46 _ _ ht3
  have hu6:=(s5.trans s6) _ _ hu4
  walk_at "r"
  refine⟨a,ns,rfl,.inl (SqL.of ha6),by omega,fun r1 H7 R s7 _ hr7 risR=>?_⟩
  walk_at "r"
  refine⟨a,c,ns,ms,rfl,.inl (SqL.of (s7 _ _ ha6)),.inl (SqL.of (s7 _ _ hc6)),by omega,by omega,fun H8 s8=>?_⟩
  have s68:=s7.trans s8
  walk_at "r"
  refine⟨by show 1≤sizeLine;decide,fun q hq=>?_⟩
  have s9:=same_upd (o:=.lst [.ref c]) hq
  have s69:=s68.trans s9
  have fq:FlAt (upd H8 q (.lst [.ref c])) q [ms]:=.one upd_same (s69 _ _ hc6)
  generalize upd H8 q (.lst [.ref c])=H9 at s69 fq s9⊢
  walk_at "r"
  have ps:=pair_sum ns os
  have pf:=pair_few ns os
  refine⟨p,q,pairF ns os,[ms],rfl,fp6.same s69,fq,by omega,by simp;omega,by omega,by show 1≤60;decide,fun l H10 ts s10 _ hl10 pr10=>?_⟩
  walk_at "r"
  refine⟨by show 4≤sizeLine;decide,fun o1 ho1=>?_⟩
  have s11:=same_upd (o:=.lst [.ref r1,.ref u,.bl (likeB ns ms),.ref l]) ho1
  have ho11:upd H10 o1 (.lst [.ref r1,.ref u,.bl (likeB ns ms),.ref l]) o1=_:=upd_same
  generalize upd H10 o1 (.lst [.ref r1,.ref u,.bl (likeB ns ms),.ref l])=H11 at s11 ho11⊢
  have s61:=s69.trans (s10.trans s11)
  walk_at "r"
  refine⟨t,_,_,_,slip,rfl,SqT.of (s61 _ _ ht6),g1,g2,fun l2 H12 ws s12 _ hl12 rp12=>?_⟩
  walk_at "r"
  refine⟨by show 3≤sizeLine;decide,fun o2 ho2=>?_⟩
  have s13:=same_upd (o:=.lst [.int (tot (gsG (cnt ns) (cnt (osF ns os)) slip.toNat):Nat),.ref l2,oV (hgI (stagesI ns ms slip) (stOf ms ns ms) (stOf ns ns ms))]) ho2
  refine i_cat ((s12.trans s13) _ _ ho11) upd_same (by show 7≤sizeLine;decide) fun v hv=>?_
  have s14:=s13.trans (same_upd (o:=.lst ([.ref r1,.ref u,.bl (likeB ns ms),.ref l]++[.int (tot (gsG (cnt ns) (cnt (osF ns os)) slip.toNat):Nat),.ref l2,oV (hgI (stagesI ns ms slip) (stOf ms ns ms) (stOf ns ns ms))])) hv)
  have t1:=s12.trans s14
  have t2:=s11.trans t1
  have t3:=s10.trans t2
  refine k (.ref v) _ R B (s06.trans (s69.trans t3)) risR risB ?_
  refine .lst upd_same ?_
  exact .cons (rep_ints ((s8.trans (s9.trans t3)) _ _ hr7)) (.cons (rep_ints ((s69.trans t3) _ _ hu6)) (.cons (.bl _) (.cons (.lst (t2 _ _ hl10) (reps_pr (pr10.same t2))) (.cons (.int _) (.cons (.lst (s14 _ _ hl12) (rp12.mono s14)) (.cons (oV_rep _) .nil))))))
end
section
variable{P:Program}{w:World}{K:W.Frag}{mg:Str→Option Value}{base:Heap}
noncomputable def But2(d r:Addr)(H H':Hp):Prop:=∀b u,b≠d→b≠r→H b=some u→H' b=some u
theorem But2.trans{d r:Addr}{H H1 H2:Hp}(h:But2 d r H H1)(g:But2 d r H1 H2):But2 d r H H2:=fun b u n1 n2 e=>g b u n1 n2 (h b u n1 n2 e)
theorem But2.put{d r:Addr}{H H1:Hp}{o:HO}(h:But2 d r H H1):But2 d r H (upd H1 r o):=fun b u n1 n2 e=>by rw[upd_ne n2];exact h b u n1 n2 e
theorem But2.of{d r:Addr}{H H1:Hp}(h:But d H H1):But2 d r H H1:=fun b u n1 _ e=>h b u n1 e
noncomputable def spChange:Sp:=fun vs H Q _=>∃(d c0 r:Addr) (slip:Int) (ns:List Int),vs=[.ref d,.ref r,.int slip]∧DrawC H d c0∧H r=some (.lst (ns.map V.int))∧r≠d∧r≠c0∧1≤ns.length∧ns.length≤12∧
 ∀H' (ms:List Int),DrawC H' d c0→But2 d r H H'→H' r=some (.lst (ms.map V.int))→1≤ms.length→(ms.length≤ns.length∨(ms.length:Int)≤slip)→Q .non H'
theorem ixN_nat{n j:Nat}(h:j<n):ixN n (j:Int)=some j:=by
 unfold ixN
 simp[h]
theorem change_put{d c0 r:Addr}{slip:Int}{ns:List Int}{H1:Hp}{D:Ends}(hD:DrawC H1 d c0)(hr:H1 r=some (.lst (ns.map V.int)))(n1:r≠d)(n2:r≠c0)(l1:1≤ns.length)(l2:ns.length≤12)
  (k:∀H' (ms:List Int),DrawC H' d c0→But2 d r H1 H'→H' r=some (.lst (ms.map V.int))→ms.length=ns.length→D.nx [some (.ref d),some (.ref r),some (.int slip)] H'):
  tAsg (tOp (rI0 fun i j=>V.int (i+j)) (tC (.int 1)) (tCall spTakeC [] E0 (tCons (tVar 0) (tCons (tC (.int 60)) tNil)))) (gSub (tVar 1) (tCall spTakeC [] E0 (tCons (tVar 0) (tCons (tCB (rLen K) (tCons (tVar 1) tNil)) tNil))) rSetL) D [some (.ref d),some (.ref r),some (.int slip)] H1:=by
 walk_at "r"
 refine⟨d,c0,60,rfl,hD,by decide,by decide,fun x H2 x0 x1 hD2 b2=>?_⟩
 have hr2:=b2 _ _ n1 hr
 walk_at "r"
 rw[List.length_map]
 refine⟨d,c0,_,rfl,hD2,by omega,small_int (by omega) (by omega),fun y H3 y0 y1 hD3 b3=>?_⟩
 have hr3:=b3 _ _ n1 hr2
 obtain⟨j,rfl⟩:∃j:Nat,y=j:=⟨y.toNat,by omega⟩
 refine i_setL hr3 (ixN_nat (by rw[List.length_map];omega)) ?_
 refine k _ (ns.set j (1+x)) (hD3.put n1 n2) ((But2.of (b2.trans b3)).put) ?_ (by rw[List.length_set])
 rw[upd_same,List.map_set]
abbrev sLawChange:Stmt:=top 72
theorem scLawChange:FnScope ["_law_draw","_law_row","_law_slip_here"] ["_law_draw","_law_row","_law_slip_here"] (defScope sLawChange):=⟨rfl,rfl,rfl,by decide+kernel,rfl,by decide+kernel,by decide+kernel⟩
theorem ok_change{f:Addr}{fd:FuncData}(F:Fun K "_law_change" "_law_change" sLawChange f fd)(T:BltM mg)(c_law_take:Cal P w K mg base "_law_take" 1 ["_law_draw","_law_many"] spTakeC):FnOk P w K mg base CX0 2 f fd ["_law_draw","_law_row","_law_slip_here"] spChange:=by
 refine F.ok scLawChange (fun vs H Q E h=>?_) (fun cdv A outer s H vs Q E hr h=>?_)
 ·obtain⟨d,c0,r,slip,ns,rfl,_⟩:=h
  rfl
 ·obtain⟨d,c0,r,slip,ns,rfl,hD,hr0,n1,n2,l1,l2,k⟩:=h
  refine⟨_,(pss_cut (ps_if ((pw_and (pt_cmpR op_gt (pe_callB (cLen (K:=K) rfl) (by rfl) T.z_len bb_len (pa_cons (pv 1) pa_nil)) pe_int (nomark _)) (pw_and1 (pt_cmpR op_eq (pe_callC c_law_take (hr.mono (by omega)) (by rfl) (pa_cons (pv 0) (pa_cons pe_int pa_nil))) pe_int (nomark _))))).pt (pss_one (ps_expr (mPopAt (K:=K) rfl (pv 1) (pa_cons (pe_callC c_law_take (hr.mono (by omega)) (by rfl) (pa_cons (pv 0) (pa_cons (pe_callB (cLen (K:=K) rfl) (by rfl) T.z_len bb_len (pa_cons (pv 1) pa_nil)) pa_nil))) pa_nil)))) (pss_one (ps_asg (pe_op op_add pe_int (pe_callC c_law_take (hr.mono (by omega)) (by rfl) (pa_cons (pv 0) (pa_cons pe_int pa_nil)))) (pg_sub (pv 1) (pe_callC c_law_take (hr.mono (by omega)) (by rfl) (pa_cons (pv 0) (pa_cons (pe_callB (cLen (K:=K) rfl) (by rfl) T.z_len bb_len (pa_cons (pv 1) pa_nil)) pa_nil))) set_list))))
   (pss_one (ps_if ((pw_and (pt_cmpR op_lt (pe_callB (cLen (K:=K) rfl) (by rfl) T.z_len bb_len (pa_cons (pv 1) pa_nil)) (pv 2) (nomark _)) (pw_and1 (pt_cmpR op_eq (pe_callC c_law_take (hr.mono (by omega)) (by rfl) (pa_cons (pv 0) (pa_cons pe_int pa_nil))) pe_int (nomark _))))).pt (pss_one (ps_expr (mApp (K:=K) rfl (pv 1) (pa_cons (pe_op op_add pe_int (pe_callC c_law_take (hr.mono (by omega)) (by rfl) (pa_cons (pv 0) (pa_cons pe_int pa_nil)))) pa_nil)))) pss_nil))),?_⟩
  refine⟨fun σ' H'=>σ'=[some (.ref d),some (.ref r),some (.int slip)]∧DrawC H' d c0∧But2 d r H H'∧∃ms:List Int,H' r=some (.lst (ms.map V.int))∧1≤ms.length∧ms.length≤ns.length,?_,?_⟩
  ·walk_at "r"
   rw[List.length_map]
   refine ite2 (fun h0=>?_) (fun h0=>?_)
   ·have h1:ns.length >1:=by have:(ns.length:Int) >1:=of_decide_eq_true h0;omega
    walk_at "r"
    refine⟨d,c0,2,rfl,hD,by decide,by decide,fun x H1 x0 x1 hD1 b1=>?_⟩
    have hr1:=b1 _ _ n1 hr0
    walk_at "r"
    refine ite2 (fun _=>?_) (fun _=>?_)
    ·walk_at "r"
     refine⟨.inl ⟨rfl,_,SqL.of hr1⟩,?_⟩
     walk_at "r"
     rw[List.length_map]
     refine⟨d,c0,_,rfl,hD1,by omega,small_int (by omega) (by omega),fun y H3 y0 y1 hD3 b3=>?_⟩
     have hr3:=b3 _ _ n1 hr1
     obtain⟨j,rfl⟩:∃j:Nat,y=j:=⟨y.toNat,by omega⟩
     have hj:j<ns.length:=by omega
     walk_at "r"
     refine i_popAt hr3 hj (by omega) ?_
     walk_at "r"
     have le:(ns.eraseIdx j).length=ns.length - 1:=List.length_eraseIdx_of_lt hj
     exact⟨rfl,hD3.put n1 n2,(But2.of (b1.trans b3)).put,_,upd_same,by omega,by omega⟩
    ·exact change_put hD1 hr1 n1 n2 l1 l2 fun H' ms hD' b' hr' l'=>⟨rfl,hD',(But2.of b1).trans b',ms,hr',by omega,by omega⟩
   ·refine iteF ?_
    exact change_put hD hr0 n1 n2 l1 l2 fun H' ms hD' b' hr' l'=>⟨rfl,hD',b',ms,hr',by omega,by omega⟩
  rintro σ' H1 ⟨rfl,hD1,b1,ms,hr1,q1,q2⟩
  walk_at "r"
  rw[List.length_map]
  refine ite2 (fun h0=>?_) (fun h0=>?_)
  ·have h1:(ms.length:Int)<slip:=of_decide_eq_true h0
   walk_at "r"
   refine⟨d,c0,2,rfl,hD1,by decide,by decide,fun x H2 x0 x1 hD2 b2=>?_⟩
   have hr2:=b2 _ _ n1 hr1
   walk_at "r"
   refine ite2 (fun _=>?_) (fun _=>?_)
   ·walk_at "r"
    refine⟨.inl ⟨rfl,_,SqL.of hr2⟩,?_⟩
    walk_at "r"
    refine⟨d,c0,60,rfl,hD2,by decide,by decide,fun y H3 y0 y1 hD3 b3=>?_⟩
    have hr3:=b3 _ _ n1 hr2
    walk_at "r"
    refine i_app hr3 (lt_line (by rw[List.length_map];omega)) ?_
    walk_at "r"
    exact k _ (ms++[1+y]) (hD3.put n1 n2) ((b1.trans (But2.of (b2.trans b3))).put) (by rw[upd_same,List.map_append];rfl) (by simp) (.inr (by simp;omega))
   ·walk_at "r"
    exact k _ ms hD2 (b1.trans (But2.of b2)) hr2 q1 (.inl q2)
  ·walk_at "r"
   exact k _ ms hD1 b1 hr1 q1 (.inl q2)
end
section
structure LA where
 d:Addr
 c:Addr
 u:Addr
 v:Addr
 o:Addr
 el:Addr
 u0:Addr
 v0:Addr
 o0:Addr
 sh:Addr
 p:Addr
 q:Addr
structure LSt(slip:Int)(A:LA)(N0 O0 M0:List Int)(H:Hp)(ns os ms as:List Int)(b:Int):Prop where
 dr:DrawC H A.d A.c
 u:H A.u=some (.lst (ns.map V.int))
 o:H A.o=some (.lst (os.map V.int))
 v:H A.v=some (.lst (ms.map V.int))
 el:H A.el=some (.tup [.ref A.u0,.ref A.o0,.ref A.v0])
 u0:H A.u0=some (.lst (N0.map V.int))
 o0:H A.o0=some (.lst (O0.map V.int))
 v0:H A.v0=some (.lst (M0.map V.int))
 sh:H A.sh=some (.lst [.ref A.p,.ref A.q])
 p:H A.p=some (.lst (as.map V.int))
 q:H A.q=some (.lst ([b].map V.int))
 ask:Ask slip ns os ms
 o1:1≤os.length
 ask0:Ask slip N0 O0 M0
 fl:flB as=true
 nd:[A.c,A.u,A.v,A.o,A.u0,A.v0,A.o0,A.p,A.q].Nodup
variable{slip:Int}{A:LA}{N0 O0 M0:List Int}{H H':Hp}{ns os ms as:List Int}{b:Int}
theorem DrawC.ne_refs2{d c s x y:Addr}(h:DrawC H d c)(e:H s=some (.lst [.ref x,.ref y])):s≠d:=by
 obtain⟨_,a,r,e',h1,_⟩:=h
 intro z
 subst z
 rw[h1]at e
 cases e
theorem LSt.same(h:LSt slip A N0 O0 M0 H ns os ms as b)(s:Same H H'):LSt slip A N0 O0 M0 H' ns os ms as b:=
 ⟨h.dr.same s,s _ _ h.u,s _ _ h.o,s _ _ h.v,s _ _ h.el,s _ _ h.u0,s _ _ h.o0,s _ _ h.v0,s _ _ h.sh,s _ _ h.p,s _ _ h.q,h.ask,h.o1,h.ask0,h.fl,h.nd⟩
theorem LSt.but(h:LSt slip A N0 O0 M0 H ns os ms as b)(hD:DrawC H' A.d A.c)(s:But A.d H H'):LSt slip A N0 O0 M0 H' ns os ms as b:=
 ⟨hD,s _ _ (h.dr.ne_ints h.u) h.u,s _ _ (h.dr.ne_ints h.o) h.o,s _ _ (h.dr.ne_ints h.v) h.v,s _ _ (h.dr.ne_tup h.el) h.el,s _ _ (h.dr.ne_ints h.u0) h.u0,s _ _ (h.dr.ne_ints h.o0) h.o0,s _ _ (h.dr.ne_ints h.v0) h.v0,
  s _ _ (h.dr.ne_refs2 h.sh) h.sh,s _ _ (h.dr.ne_ints h.p) h.p,s _ _ (h.dr.ne_ints h.q) h.q,h.ask,h.o1,h.ask0,h.fl,h.nd⟩
theorem tup_ne{a l:Addr}{xs ys:List V}(h:H a=some (.tup xs))(e:H l=some (.lst ys)):a≠l:=ne_of h e nofun
theorem refs_ne{s l x y:Addr}{ks:List Int}(h:H s=some (.lst [.ref x,.ref y]))(e:H l=some (.lst (ks.map V.int))):s≠l:=by
 intro z
 subst z
 rw[h]at e
 have q:=Option.some.inj e
 injection q with q
 cases ks with
 |nil=>cases q
 |cons n r=>injection q with q _;cases q
theorem len_of{m:Int}{n k:Nat}(h:(n:Int)≤m)(c:k≤n∨(k:Int)≤m):(k:Int)≤m:=by omega
theorem LSt.newU{ks:List Int}(h:LSt slip A N0 O0 M0 H ns os ms as b)(hD:DrawC H' A.d A.c)(s:But2 A.d A.u H H')(e:H' A.u=some (.lst (ks.map V.int)))(l:1≤ks.length)(c:ks.length≤ns.length∨(ks.length:Int)≤slip):LSt slip A N0 O0 M0 H' ks os ms as b:=by
 have nd:=h.nd
 simp only[List.nodup_cons,List.mem_cons,not_or,List.not_mem_nil,not_false_eq_true]at nd
 obtain⟨k1,k2,k3,k4,k5,k6,k7⟩:=h.ask
 obtain⟨_,⟨a1,a2,a3,a4,a5,a6,a7,_⟩,_⟩:=nd
 exact⟨hD,e,s _ _ (h.dr.ne_ints h.o) (Ne.symm a2) h.o,s _ _ (h.dr.ne_ints h.v) (Ne.symm a1) h.v,s _ _ (h.dr.ne_tup h.el) (tup_ne h.el h.u) h.el,s _ _ (h.dr.ne_ints h.u0) (Ne.symm a3) h.u0,s _ _ (h.dr.ne_ints h.o0) (Ne.symm a5) h.o0,s _ _ (h.dr.ne_ints h.v0) (Ne.symm a4) h.v0,
  s _ _ (h.dr.ne_refs2 h.sh) (refs_ne h.sh h.u) h.sh,s _ _ (h.dr.ne_ints h.p) (Ne.symm a6) h.p,s _ _ (h.dr.ne_ints h.q) (Ne.symm a7) h.q,⟨k1,k2,l,len_of k4 c,k5,k6,k7⟩,h.o1,h.ask0,h.fl,h.nd⟩
theorem LSt.newV{ks:List Int}(h:LSt slip A N0 O0 M0 H ns os ms as b)(hD:DrawC H' A.d A.c)(s:But2 A.d A.v H H')(e:H' A.v=some (.lst (ks.map V.int)))(l:1≤ks.length)(c:ks.length≤ms.length∨(ks.length:Int)≤slip):LSt slip A N0 O0 M0 H' ns os ks as b:=by
 have nd:=h.nd
 simp only[List.nodup_cons,List.mem_cons,not_or,List.not_mem_nil,not_false_eq_true]at nd
 obtain⟨k1,k2,k3,k4,k5,k6,k7⟩:=h.ask
 obtain⟨_,⟨a0,_⟩,⟨a2,a3,a4,a5,a6,a7,_⟩,_⟩:=nd
 exact⟨hD,s _ _ (h.dr.ne_ints h.u) a0 h.u,s _ _ (h.dr.ne_ints h.o) (Ne.symm a2) h.o,e,s _ _ (h.dr.ne_tup h.el) (tup_ne h.el h.v) h.el,s _ _ (h.dr.ne_ints h.u0) (Ne.symm a3) h.u0,s _ _ (h.dr.ne_ints h.o0) (Ne.symm a5) h.o0,s _ _ (h.dr.ne_ints h.v0) (Ne.symm a4) h.v0,
  s _ _ (h.dr.ne_refs2 h.sh) (refs_ne h.sh h.v) h.sh,s _ _ (h.dr.ne_ints h.p) (Ne.symm a6) h.p,s _ _ (h.dr.ne_ints h.q) (Ne.symm a7) h.q,⟨k1,k2,k3,k4,l,len_of k6 c,k7⟩,h.o1,h.ask0,h.fl,h.nd⟩
theorem LSt.newO{ks:List Int}(h:LSt slip A N0 O0 M0 H ns os ms as b)(hD:DrawC H' A.d A.c)(s:But2 A.d A.o H H')(e:H' A.o=some (.lst (ks.map V.int)))(l:1≤ks.length)(c:ks.length≤os.length∨(ks.length:Int)≤slip):LSt slip A N0 O0 M0 H' ns ks ms as b:=by
 have nd:=h.nd
 simp only[List.nodup_cons,List.mem_cons,not_or,List.not_mem_nil,not_false_eq_true]at nd
 obtain⟨k1,k2,k3,k4,k5,k6,k7⟩:=h.ask
 obtain⟨_,⟨_,a0,_⟩,⟨a1,_⟩,⟨a3,a4,a5,a6,a7,_⟩,_⟩:=nd
 exact⟨hD,s _ _ (h.dr.ne_ints h.u) a0 h.u,e,s _ _ (h.dr.ne_ints h.v) a1 h.v,s _ _ (h.dr.ne_tup h.el) (tup_ne h.el h.o) h.el,s _ _ (h.dr.ne_ints h.u0) (Ne.symm a3) h.u0,s _ _ (h.dr.ne_ints h.o0) (Ne.symm a5) h.o0,s _ _ (h.dr.ne_ints h.v0) (Ne.symm a4) h.v0,
  s _ _ (h.dr.ne_refs2 h.sh) (refs_ne h.sh h.o) h.sh,s _ _ (h.dr.ne_ints h.p) (Ne.symm a6) h.p,s _ _ (h.dr.ne_ints h.q) (Ne.symm a7) h.q,⟨k1,k2,k3,k4,k5,k6,by omega⟩,l,h.ask0,h.fl,h.nd⟩
theorem LSt.newP{ks:List Int}(h:LSt slip A N0 O0 M0 H ns os ms as b)(f:flB ks=true):LSt slip A N0 O0 M0 (upd H A.p (.lst (ks.map V.int))) ns os ms ks b:=by
 have nd:=h.nd
 simp only[List.nodup_cons,List.mem_cons,not_or,List.not_mem_nil,not_false_eq_true]at nd
 obtain⟨⟨_,_,_,_,_,_,b6,_⟩,⟨_,_,_,_,_,a6,_⟩,⟨_,_,_,_,c6,_⟩,⟨_,_,_,d6,_⟩,⟨_,_,e6,_⟩,⟨_,f6,_⟩,⟨g6,_⟩,⟨h6,_⟩,_⟩:=nd
 have w:∀{x:Addr} {o:HO},x≠A.p→H x=some o→upd H A.p (.lst (ks.map V.int)) x=some o:=fun n e=>by rw[upd_ne n];exact e
 exact⟨h.dr.put (h.dr.ne_ints h.p) (Ne.symm b6),w a6 h.u,w d6 h.o,w c6 h.v,w (tup_ne h.el h.p) h.el,w e6 h.u0,w g6 h.o0,w f6 h.v0,w (refs_ne h.sh h.p) h.sh,upd_same,w (Ne.symm h6) h.q,h.ask,h.o1,h.ask0,f,h.nd⟩
theorem LSt.newQ{y:Int}(h:LSt slip A N0 O0 M0 H ns os ms as b):LSt slip A N0 O0 M0 (upd H A.q (.lst ([y].map V.int))) ns os ms as y:=by
 have nd:=h.nd
 simp only[List.nodup_cons,List.mem_cons,not_or,List.not_mem_nil,not_false_eq_true]at nd
 obtain⟨⟨_,_,_,_,_,_,_,b6,_⟩,⟨_,_,_,_,_,_,a6,_⟩,⟨_,_,_,_,_,c6,_⟩,⟨_,_,_,_,d6,_⟩,⟨_,_,_,e6,_⟩,⟨_,_,f6,_⟩,⟨_,g6,_⟩,⟨h6,_⟩,_⟩:=nd
 have w:∀{x:Addr} {o:HO},x≠A.q→H x=some o→upd H A.q (.lst ([y].map V.int)) x=some o:=fun n e=>by rw[upd_ne n];exact e
 exact⟨h.dr.put (h.dr.ne_ints h.q) (Ne.symm b6),w a6 h.u,w d6 h.o,w c6 h.v,w (tup_ne h.el h.q) h.el,w e6 h.u0,w g6 h.o0,w f6 h.v0,w (refs_ne h.sh h.q) h.sh,w h6 h.p,upd_same,h.ask,h.o1,h.ask0,h.fl,h.nd⟩
end
theorem low_self{a b:Nat}(h:Nat.Coprime a b):low a b=(a,b):=by
 unfold low
 rw[h,Nat.div_one,Nat.div_one]
theorem totl_one{x:Nat×Nat}(h:Cn x):totl [x]=x:=by
 show low (0*x.2+x.1*1) (1*x.2)=x
 rw[Nat.zero_mul,Nat.zero_add,Nat.mul_one,Nat.one_mul,low_self h.1]
theorem gO_one{as:List Int}{b:Int}{i:Nat}(h:b≤as.sum)(h2:0≤b):gO as [b] i=ch as.sum (as.getD i 0) b 0 0:=by
 show totl [ch as.sum (as.getD i 0) b 0 0]=_
 exact totl_one (low_cn (bin_pos _ _ (by omega)))
theorem sum_pos{as:List Int}(h:flB as=true):1≤as.sum∧as.sum≤96∧1≤as.length∧as.length≤8:=by
 obtain⟨a1,a2,a3⟩:=flB_of h
 obtain⟨s0,s1,s2⟩:=sum12 a3
 have m:=List.getElem_mem (show 0<as.length by omega)
 have:=a3 _ m
 have:=s2 _ m
 exact⟨by omega,by omega,a1,a2⟩
theorem feB_mk{as:List Int}{b:Int}(h:flB as=true)(h1:1≤b)(h2:b≤12)(h3:b≤as.sum):feB as [b]=true:=by
 have e:flB [b]=true:=by
  show(inB 1 8 1 && (inB 1 12 b && true))=true
  rw[inB_iff.mpr ⟨h1,h2⟩]
  rfl
 have e2:[b].sum=b:=by simp
 unfold feB
 rw[h,e,e2,decide_eq_false (by omega)]
 rfl
theorem feB_b{as:List Int}{b:Int}(h:feB as [b]=true):1≤b∧b≤12∧b≤as.sum:=by
 obtain⟨_,h2,h3⟩:=feB_of h
 have:=(flB_of h2).2.2 b (List.mem_singleton.mpr rfl)
 have e2:[b].sum=b:=by simp
 rw[e2]at h3
 exact⟨this.1,this.2,h3⟩
theorem fl_set{as:List Int}{y:Int}(h:flB as=true)(h1:1≤y)(h2:y≤12):flB (as.set 0 y)=true:=by
 obtain⟨a1,a2,a3⟩:=flB_of h
 unfold flB
 rw[Bool.and_eq_true,inB_iff,List.all_eq_true,List.length_set]
 refine⟨⟨by omega,by omega⟩,fun x hx=>?_⟩
 obtain⟨z,hz,rfl⟩:=List.mem_map.mp hx
 rcases List.mem_or_eq_of_mem_set hz with q|q
 ·exact inB_iff.mpr (a3 z q)
 ·rw[q]
  exact inB_iff.mpr ⟨h1,h2⟩
section
variable{P:Program}{w:World}{K:W.Frag}{mg:Str→Option Value}{base:Heap}
noncomputable def spLaw(K:W.Frag):Sp:=fun vs H Q _=>∃(a:Addr) (ns:List Int),vs=[.ref a]∧SqL K H a (ns.map V.int)∧ns.length≤63∧∀H',Q (.bl true) H'
theorem rep2{H:Hp}{t:Addr}{x y:Int}(h:H t=some (.tup [.int x,.int y])):Rep H (.ref t) (.tup [.int x,.int y]):=.tup h (.cons (.int _) (.cons (.int _) .nil))
theorem small2{x y:Int}:(Dt.tup [.int x,.int y]).depth≤3:=by show max 0 (max 0 0)+1≤3;decide
theorem wide2{x y:Int}:(Dt.tup [.int x,.int y]).wide≤1000:=by show max 2 (max 0 (max 0 0))≤1000;decide
theorem len100{slip:Int}{ns os ms R:List Int}{p:Int→Prop}(h:Ask slip ns os ms)(r:Ris R p)(c:∀x,p x→x∈ns):R.length≤100:=by
 have:=r.le c
 have:=h.n2
 have:=h.s2
 omega
abbrev sLaw:Stmt:=top 73
theorem scLaw:FnScope ["_law_script","_law_draw","_law_slip_here","_law_boat","_law_goal","_law_others","_law_elder","_law_sizes_here","_law_turn","_law_due","_law_mean","_law_row"] ["_law_script"] (defScope sLaw):=⟨rfl,rfl,rfl,by decide+kernel,rfl,by decide+kernel,by decide+kernel⟩
theorem nd_304_28:(["_law_size","_law_sizes_here"]:List Str).Nodup:=by decide+kernel
theorem S_304_28:CompScope ["_law_script","_law_draw","_law_slip_here","_law_boat","_law_goal","_law_others","_law_elder","_law_sizes_here","_law_turn","_law_due","_law_mean","_law_row"] (defScope sLaw) ({kind:=ScopeKind.function,names:=[(Str.ofString ".0",NameKind.local),(Str.ofString "_law_size",NameKind.local),(Str.ofString "_law_share",NameKind.globalImplicit),(Str.ofString "sum",NameKind.globalImplicit),(Str.ofString "_law_sizes_here",NameKind.free)],isGenerator:=false,isCoroutine:=false,more:=[]:Scope}) (["_law_size"]:List Str) ([(7,"_law_sizes_here")]:List (Nat×Str)):=⟨by decide+kernel,by decide+kernel,by decide+kernel,by decide+kernel,by decide+kernel⟩
theorem nd_307_29:(["_law_mine","_law_sizes_here"]:List Str).Nodup:=by decide+kernel
theorem S_307_29:CompScope ["_law_script","_law_draw","_law_slip_here","_law_boat","_law_goal","_law_others","_law_elder","_law_sizes_here","_law_turn","_law_due","_law_mean","_law_row"] (defScope sLaw) ({kind:=ScopeKind.function,names:=[(Str.ofString ".0",NameKind.local),(Str.ofString "_law_mine",NameKind.local),(Str.ofString "_law_share",NameKind.globalImplicit),(Str.ofString "sum",NameKind.globalImplicit),(Str.ofString "_law_sizes_here",NameKind.free)],isGenerator:=false,isCoroutine:=false,more:=[]:Scope}) (["_law_mine"]:List Str) ([(7,"_law_sizes_here")]:List (Nat×Str)):=⟨by decide+kernel,by decide+kernel,by decide+kernel,by decide+kernel,by decide+kernel⟩
theorem ok_law{f:Addr}{fd:FuncData}(F:Fun K "law" "law" sLaw f fd)(T:BltM mg)(c_law_begin:Cal P w K mg base "_law_begin" 1 ["_law_script"] (spBeginC K))(c_law_take:Cal P w K mg base "_law_take" 1 ["_law_draw","_law_many"] spTakeC)
  (c_law_same:Cal P w K mg base "_law_same" 4 ["_law_found","_law_due"] (spS 4)) (c_law_slip:Cal P w K mg base "_law_slip" 2 ["_law_draw"] spSlip) (c_law_ends:Cal P w K mg base "_law_ends" 3 ["_law_draw","_law_slip_here"] spEnds) (c_law_some:Cal P w K mg base "_law_some" 2 ["_law_draw","_law_pool","_law_many"] (spSomeC K))
  (c_law_sizes:Cal P w K mg base "_law_sizes" 2 ["_law_draw","_law_most","_law_big"] spSizes) (c_law_answers:Cal P w K mg base "_law_answers" 7 ["_law_slip_here","_law_boat","_law_others","_law_goal"] (spAsk K)) (c_law_dues:Cal P w K mg base "_law_dues" 4 ["_law_slip_here","_law_boat","_law_others","_law_goal"] (spAsk K))
  (c_law_share:Cal P w K mg base "_law_share" 3 ["_law_many","_law_mine","_law_size","_law_drawn","_law_had"] spShare) (c_law_all:Cal P w K mg base "_law_all" 4 ["_law_parts"] spTotal) (c_goes_on:Cal P w K mg base "goes_on" 6 ["ahead","at","behind"] spGoesOn) (c_mean_going:Cal P w K mg base "mean_going" 8 ["ahead","behind"] spMean)
  (c_law_change:Cal P w K mg base "_law_change" 2 ["_law_draw","_law_row","_law_slip_here"] spChange):FnOk P w K mg base CX0 9 f fd ["_law_script"] (spLaw K):=by
 refine F.ok scLaw (fun vs H Q E h=>?_) (fun cdv A outer s H vs Q E hr h=>?_)
 ·obtain⟨a,ns,rfl,_⟩:=h
  rfl
 ·obtain⟨a0,sc,rfl,hS,hl,k⟩:=h
  refine⟨_,(pss_cons (ps_set (i:=1) scLaw.nd rfl (Or.inl rfl) (pe_callC c_law_begin (hr.mono (by omega)) (by rfl) (pa_cons (pv 0) pa_nil)))
   (pss_cons (ps_set (i:=2) scLaw.nd rfl (Or.inl rfl) (pe_callC c_law_slip (hr.mono (by omega)) (by rfl) (pa_cons (pv 1) pa_nil)))
   (pss_cut (ps_asg (pe_callC c_law_ends (hr.mono (by omega)) (by rfl) (pa_cons (pv 1) (pa_cons (pv 2) pa_nil))) (pgT (K:=K) (n:=2) rfl rfl (pgs_cons (pg_name (i:=3) scLaw.nd rfl (Or.inl rfl)) (pgs_cons (pg_name (i:=4) scLaw.nd rfl (Or.inl rfl)) pgs_nil))))
   (pss_cut (ps_set (i:=5) scLaw.nd rfl (Or.inl rfl) (pe_callC c_law_some (hr.mono (by omega)) (by rfl) (pa_cons (pv 1) (pa_cons (pe_callTy (cListRng rfl) (by rfl) T.z_list bb_list (pa_cons (pe_callTy cRng2 (by rfl) T.z_range bb_range (pa_cons pe_int (pa_cons pe_int pa_nil))) pa_nil)) (pa_cons (pe_op op_add pe_int (pe_callC c_law_take (hr.mono (by omega)) (by rfl) (pa_cons (pv 1) (pa_cons pe_int pa_nil)))) pa_nil)))))
   (pss_cut (ps_set (i:=6) scLaw.nd rfl (Or.inl rfl) (pe_tup (pa_cons (pe_callTy (cList (K:=K) rfl) (by rfl) T.z_list bb_list (pa_cons (pv 3) pa_nil)) (pa_cons (pe_callTy (cList (K:=K) rfl) (by rfl) T.z_list bb_list (pa_cons (pv 5) pa_nil)) (pa_cons (pe_callTy (cList (K:=K) rfl) (by rfl) T.z_list bb_list (pa_cons (pv 4) pa_nil)) pa_nil)))))
   (pss_cut (ps_set (i:=7) scLaw.nd rfl (Or.inr rfl) (pe_lst (pa_cons (pe_callC c_law_sizes (hr.mono (by omega)) (by rfl) (pa_cons (pv 1) (pa_cons pe_int (pa_cons pe_int pa_nil)))) (pa_cons (pe_lst (pa_cons pe_int pa_nil)) pa_nil))))
   (pss_cons (ps_for PassesOwn.never rfl (pi_range1 (by rfl) T.z_range (pa_cons pe_int pa_nil)) (pg_name (i:=8) scLaw.nd rfl (Or.inl rfl)) (pss_cut (ps_if (pt_not (pt_val (pe_callC c_law_same (hr.mono (by omega)) (by rfl) (pa_cons (pe_callC c_law_answers (hr.mono (by omega)) (by rfl) (pa_cons (pv 2) (pa_cons (pv 3) (pa_cons (pv 5) (pa_cons (pv 4) pa_nil))))) (pa_cons (pe_callC c_law_dues (hr.mono (by omega)) (by rfl) (pa_cons (pv 2) (pa_cons (pv 3) (pa_cons (pv 5) (pa_cons (pv 4) pa_nil))))) pa_nil))))) (pss_one (ps_ret pe_bl)) pss_nil)
   (pss_cut (ps_set (i:=9) scLaw.nd rfl (Or.inl rfl) (pe_callC c_law_all (hr.mono (by omega)) (by rfl) (pa_cons (pe_lcomp rfl S_304_28 (piL (K:=K) rfl (pe_ix (ixL (K:=K) rfl) (pv 7) pe_int (fun _ _=>rfl))) (by intro _ _ _ _ _;exact(pg_name (i:=0) nd_304_28 rfl (Or.inl rfl))) (by intro _ _ _ _ _;exact pts_nil) (by intro _ _ _ _ _;exact(pe_callC c_law_share (hr.mono (by omega)) (by rfl) (pa_cons (pe_callB (cSum (K:=K) rfl rfl) (by rfl) T.z_sum bb_sum (pa_cons (pe_ix (ixL (K:=K) rfl) (pv 1) pe_int (fun _ _=>rfl)) pa_nil)) (pa_cons (pe_ix (ixL (K:=K) rfl) (pe_ix (ixL (K:=K) rfl) (pv 1) pe_int (fun _ _=>rfl)) pe_int (fun _ _=>rfl)) (pa_cons (pv 0) (pa_cons pe_int (pa_cons pe_int pa_nil)))))))) pa_nil)))
   (pss_cut (ps_if (pt_not (pt_val (pe_callC c_law_same (hr.mono (by omega)) (by rfl) (pa_cons (pe_callC c_goes_on (hr.mono (by omega)) (by rfl) (pa_cons (pe_ix (ixL (K:=K) rfl) (pv 7) pe_int (fun _ _=>rfl)) (pa_cons pe_int (pa_cons (pe_ix (ixL (K:=K) rfl) (pv 7) pe_int (fun _ _=>rfl)) pa_nil)))) (pa_cons (pv 9) pa_nil))))) (pss_one (ps_ret pe_bl)) pss_nil)
   (pss_cut (ps_set (i:=10) scLaw.nd rfl (Or.inl rfl) (pe_callC c_law_all (hr.mono (by omega)) (by rfl) (pa_cons (pe_lcomp rfl S_307_29 (piL (K:=K) rfl (pe_ix (ixL (K:=K) rfl) (pv 7) pe_int (fun _ _=>rfl))) (by intro _ _ _ _ _;exact(pg_name (i:=0) nd_307_29 rfl (Or.inl rfl))) (by intro _ _ _ _ _;exact pts_nil) (by intro _ _ _ _ _;exact(pe_callC c_law_share (hr.mono (by omega)) (by rfl) (pa_cons (pe_callB (cSum (K:=K) rfl rfl) (by rfl) T.z_sum bb_sum (pa_cons (pe_ix (ixL (K:=K) rfl) (pv 1) pe_int (fun _ _=>rfl)) pa_nil)) (pa_cons (pv 0) (pa_cons (pe_ix (ixL (K:=K) rfl) (pe_ix (ixL (K:=K) rfl) (pv 1) pe_int (fun _ _=>rfl)) pe_int (fun _ _=>rfl)) (pa_cons pe_int (pa_cons pe_int pa_nil)))))))) pa_nil)))
   (pss_cut (ps_if (pt_not (pt_val (pe_callC c_law_same (hr.mono (by omega)) (by rfl) (pa_cons (pe_callC c_mean_going (hr.mono (by omega)) (by rfl) (pa_cons (pe_ix (ixL (K:=K) rfl) (pv 7) pe_int (fun _ _=>rfl)) (pa_cons (pe_ix (ixL (K:=K) rfl) (pv 7) pe_int (fun _ _=>rfl)) pa_nil))) (pa_cons (pv 10) pa_nil))))) (pss_one (ps_ret pe_bl)) pss_nil)
   (pss_cut (ps_for PassesOwn.never rfl (piT (K:=K) rfl (pe_tup (pa_cons (pv 3) (pa_cons (pv 5) (pa_cons (pv 4) pa_nil))))) (pg_name (i:=11) scLaw.nd rfl (Or.inl rfl)) (pss_one (ps_expr (pe_callC c_law_change (hr.mono (by omega)) (by rfl) (pa_cons (pv 1) (pa_cons (pv 11) (pa_cons (pv 2) pa_nil)))))))
   (pss_cut (ps_asg (pe_op op_add pe_int (pe_op op_mod (pe_ix (ixL (K:=K) rfl) (pe_ix (ixL (K:=K) rfl) (pv 7) pe_int (fun _ _=>rfl)) pe_int (fun _ _=>rfl)) pe_int)) (pg_sub (pe_ix (ixL (K:=K) rfl) (pv 7) pe_int (fun _ _=>rfl)) pe_int set_list))
   (pss_one (ps_asg (pe_op op_add pe_int (pe_callC c_law_take (hr.mono (by omega)) (by rfl) (pa_cons (pv 1) (pa_cons (pe_callB (cMin2 rfl) (by rfl) T.z_min bb_min (pa_cons pe_int (pa_cons (pe_callB (cSum (K:=K) rfl rfl) (by rfl) T.z_sum bb_sum (pa_cons (pe_ix (ixL (K:=K) rfl) (pv 7) pe_int (fun _ _=>rfl)) pa_nil)) pa_nil))) pa_nil)))) (pg_sub (pe_ix (ixL (K:=K) rfl) (pv 7) pe_int (fun _ _=>rfl)) pe_int set_list)))))))))))
   (pss_cons (ps_asg (pv 6) (pgT (K:=K) (n:=3) rfl rfl (pgs_cons (pg_name (i:=3) scLaw.nd rfl (Or.inl rfl)) (pgs_cons (pg_name (i:=5) scLaw.nd rfl (Or.inl rfl)) (pgs_cons (pg_name (i:=4) scLaw.nd rfl (Or.inl rfl)) pgs_nil)))))
   (pss_one (ps_ret (pe_callC c_law_same (hr.mono (by omega)) (by rfl) (pa_cons (pe_callC c_law_answers (hr.mono (by omega)) (by rfl) (pa_cons (pv 2) (pa_cons (pv 3) (pa_cons (pv 5) (pa_cons (pv 4) pa_nil))))) (pa_cons (pe_callC c_law_dues (hr.mono (by omega)) (by rfl) (pa_cons (pv 2) (pa_cons (pv 3) (pa_cons (pv 5) (pa_cons (pv 4) pa_nil))))) pa_nil))))))))))))),?_⟩
  walk_at "r"
  refine⟨a0,sc,rfl,hS,hl,fun d c0 H1 s1 hd0 hc0 hD1=>?_⟩
  walk_at "r"
  refine⟨d,c0,rfl,hD1,fun slip H2 sl0 sl1 hD2 b2=>?_⟩
  walk_at "r"
  refine⟨fun σ' H'=>∃(u v:Addr) (ns ms:List Int),σ'=[some (.ref a0),some (.ref d),some (.int slip),some (.ref u),some (.ref v),none,none,none,none,none,none,none]∧DrawC H' d c0∧H' u=some (.lst (ns.map V.int))∧H' v=some (.lst (ms.map V.int))∧Ends2 slip ns ms∧u≠v∧u≠c0∧v≠c0,?_,?_⟩
  ·walk_at "r"
   refine⟨d,c0,slip,rfl,hD2,sl0,sl1,fun t H9 u v ns ms hD9 b9 _ ht9 hu9 hv9 en uv uc vc=>?_⟩
   walk_at "r"
   exact⟨u,v,ns,ms,rfl,hD9,hu9,hv9,en,uv,uc,vc⟩
  rintro σ' H3 ⟨u,v,ns,ms,rfl,hD3,hu3,hv3,en,uv,uc,vc⟩
  clear hD1 hD2 b2 s1 hd0 hc0 hS
  refine⟨fun σ' H'=>∃(o:Addr) (os:List Int),σ'=[some (.ref a0),some (.ref d),some (.int slip),some (.ref u),some (.ref v),some (.ref o),none,none,none,none,none,none]∧DrawC H' d c0∧H' u=some (.lst (ns.map V.int))∧H' v=some (.lst (ms.map V.int))∧H' o=some (.lst (os.map V.int))∧1≤os.length∧os.length≤12∧o≠u∧o≠v∧o≠c0,?_,?_⟩
  ·walk_at "r"
   intro g hg
   walk_at "r"
   refine i_listRng upd_same (by decide) (by decide) (by decide) (by decide) (by decide) fun l hl=>?_
   have s1:=(same_upd (o:=.rng 1 61) hg).trans (same_upd (o:=.lst ((rangeI 1 (61 - 1:Int).toNat).map V.int)) hl)
   have hl1:upd (upd H3 g (.rng 1 61)) l (.lst ((rangeI 1 (61 - 1:Int).toNat).map V.int)) l=_:=upd_same
   generalize upd (upd H3 g (.rng 1 61)) l (.lst ((rangeI 1 (61 - 1:Int).toNat).map V.int))=H4 at s1 hl1⊢
   have hD4:=hD3.same s1
   have lr:(rangeI 1 (61 - 1:Int).toNat).length=60:=rangeI_length 1 60
   generalize rangeI 1 (61 - 1:Int).toNat=all at lr hl1
   walk_at "r"
   refine⟨d,c0,12,rfl,hD4,by decide,by decide,fun x H5 x0 x1 hD5 b5=>?_⟩
   have hl5:=b5 _ _ (hD4.ne_ints hl1) hl1
   have hu5:=b5 _ _ (hD3.ne_ints hu3) (s1 _ _ hu3)
   have hv5:=b5 _ _ (hD3.ne_ints hv3) (s1 _ _ hv3)
   walk_at "r"
   refine⟨d,c0,l,all,_,rfl,hD5,SqL.of hl5,by omega,by omega,by omega,fun o H6 os us hD6 b6 ho0 ho6 pm lo=>?_⟩
   walk_at "r"
   have oc:c0≠o:=by obtain⟨_,_,ho'⟩:=hD5.is;exact ne_of_none ho' ho0
   exact⟨o,os,rfl,hD6,b6 _ _ (hD5.ne_ints hu5) hu5,b6 _ _ (hD5.ne_ints hv5) hv5,ho6,by omega,by omega,(ne_of_none hu5 ho0).symm,(ne_of_none hv5 ho0).symm,oc.symm⟩
  rintro σ' H4 ⟨o,os,rfl,hD4,hu4,hv4,ho4,o1,o2,ou,ov,oc⟩
  clear hD3 hu3 hv3
  refine⟨fun σ' H'=>∃(el u0 o0 v0:Addr),σ'=[some (.ref a0),some (.ref d),some (.int slip),some (.ref u),some (.ref v),some (.ref o),some (.ref el),none,none,none,none,none]∧Same H4 H'∧H' el=some (.tup [.ref u0,.ref o0,.ref v0])∧H' u0=some (.lst (ns.map V.int))∧H' o0=some (.lst (os.map V.int))∧H' v0=some (.lst (ms.map V.int))∧[u0,v0,o0].Nodup∧H4 u0=none∧H4 o0=none∧H4 v0=none,?_,?_⟩
  ·walk_at "r"
   intro u0 hu0
   have s1:=same_upd (o:=.lst (ns.map V.int)) hu0
   have ho4':=s1 _ _ ho4
   walk_at "r"
   intro o0 ho0
   have s2:=same_upd (o:=.lst (os.map V.int)) ho0
   have hv4':=(s1.trans s2) _ _ hv4
   walk_at "r"
   intro v0 hv0
   have s3:=same_upd (o:=.lst (ms.map V.int)) hv0
   walk_at "r"
   refine⟨by show 3≤sizeLine;decide,fun el hel=>?_⟩
   have s4:=same_upd (o:=.tup [.ref u0,.ref o0,.ref v0]) hel
   walk_at "r"
   have n1:=ne_of_none upd_same ho0
   have n2:=ne_of_none (s2 _ _ upd_same) hv0
   have n3:=ne_of_none upd_same hv0
   refine⟨el,u0,o0,v0,rfl,((s1.trans s2).trans s3).trans s4,upd_same,s4 _ _ (s3 _ _ (s2 _ _ upd_same)),s4 _ _ (s3 _ _ upd_same),s4 _ _ upd_same,?_,hu0,s1.free ho0,(s1.trans s2).free hv0⟩
   simp[n1,n2,Ne.symm n3]
  rintro σ' H5 ⟨el,u0,o0,v0,rfl,s5,hel5,hu05,ho05,hv05,nd0,fu0,fo0,fv0⟩
  have c1:u≠u0∧u≠o0∧u≠v0:=⟨ne_of_none hu4 fu0,ne_of_none hu4 fo0,ne_of_none hu4 fv0⟩
  have c2:o≠u0∧o≠o0∧o≠v0:=⟨ne_of_none ho4 fu0,ne_of_none ho4 fo0,ne_of_none ho4 fv0⟩
  have c3:v≠u0∧v≠o0∧v≠v0:=⟨ne_of_none hv4 fu0,ne_of_none hv4 fo0,ne_of_none hv4 fv0⟩
  have c4:c0≠u0∧c0≠o0∧c0≠v0:=by obtain⟨_,_,hc⟩:=hD4.is;exact⟨ne_of_none hc fu0,ne_of_none hc fo0,ne_of_none hc fv0⟩
  have hD5:=hD4.same s5
  have hu5:=s5 _ _ hu4
  have ho5:=s5 _ _ ho4
  have hv5:=s5 _ _ hv4
  clear hD4 hu4 ho4 hv4 fu0 fo0 fv0 s5
  have ask:Ask slip ns os ms:=⟨sl0,sl1,en.p1,en.l1,en.p2,en.l2,o2⟩
  refine⟨fun σ' H'=>∃(sh p q:Addr) (as:List Int),σ'=[some (.ref a0),some (.ref d),some (.int slip),some (.ref u),some (.ref v),some (.ref o),some (.ref el),some (.ref sh),none,none,none,none]∧LSt slip ⟨d,c0,u,v,o,el,u0,v0,o0,sh,p,q⟩ ns os ms H' ns os ms as 1,?_,?_⟩
  ·walk_at "r"
   refine⟨d,c0,4,6,rfl,hD5,by decide,by decide,by decide,by decide,fun p H6 as hD6 b6 fp hp6 l1 l4 mem=>?_⟩
   have lv:∀{x:Addr} {y:List Int},H5 x=some (.lst (y.map V.int))→H6 x=some (.lst (y.map V.int))∧x≠p:=fun e=>⟨b6 _ _ (hD5.ne_ints e) e,ne_of_none e fp⟩
   have pc:c0≠p:=by obtain⟨_,_,hc⟩:=hD5.is;exact ne_of_none hc fp
   walk_at "r"
   refine⟨by show 1≤sizeLine;decide,fun q hq=>?_⟩
   have s7:=same_upd (o:=.lst [.int 1]) hq
   walk_at "r"
   refine⟨by show 2≤sizeLine;decide,fun sh hsh=>?_⟩
   have s8:=same_upd (o:=.lst [.ref p,.ref q]) hsh
   walk_at "r"
   have s78:=s7.trans s8
   have nq:∀{x:Addr} {o:HO},H6 x=some o→x≠q:=fun e=>ne_of_none e hq
   have qc:c0≠q:=by obtain⟨_,_,hc⟩:=hD6.is;exact ne_of_none hc hq
   refine⟨sh,p,q,as,rfl,hD6.same s78,s78 _ _ (lv hu5).1,s78 _ _ (lv ho5).1,s78 _ _ (lv hv5).1,s78 _ _ (b6 _ _ (hD5.ne_tup hel5) hel5),s78 _ _ (lv hu05).1,s78 _ _ (lv ho05).1,s78 _ _ (lv hv05).1,upd_same,s78 _ _ hp6,s8 _ _ upd_same,ask,o1,ask,?_,?_⟩
   ·unfold flB
    rw[Bool.and_eq_true,inB_iff,List.all_eq_true]
    refine⟨⟨by omega,by omega⟩,fun x hx=>?_⟩
    obtain⟨y,hy,rfl⟩:=List.mem_map.mp hx
    have:=mem y hy
    exact inB_iff.mpr ⟨by omega,by omega⟩
   ·have:=nq hp6
    have h1:=nq (lv hu5).1
    have h2:=nq (lv ho5).1
    have h3:=nq (lv hv5).1
    have h4:=nq (lv hu05).1
    have h5:=nq (lv ho05).1
    have h6:=nq (lv hv05).1
    have g1:=(lv hu5).2
    have g2:=(lv ho5).2
    have g3:=(lv hv5).2
    have g4:=(lv hu05).2
    have g5:=(lv ho05).2
    have g6:=(lv hv05).2
    simp only[List.nodup_cons,List.mem_cons,not_or,List.not_mem_nil,not_false_eq_true,List.nodup_nil,and_true]at nd0⊢
    exact⟨⟨Ne.symm uc,Ne.symm vc,Ne.symm oc,c4.1,c4.2.2,c4.2.1,pc,qc⟩,⟨uv,Ne.symm ou,c1.1,c1.2.2,c1.2.1,g1,h1⟩,⟨Ne.symm ov,c3.1,c3.2.2,c3.2.1,g3,h3⟩,⟨c2.1,c2.2.2,c2.2.1,g2,h2⟩,⟨nd0.1.1,nd0.1.2,g4,h4⟩,⟨nd0.2,g6,h6⟩,⟨g5,h5⟩,this⟩
  rintro σ' H6 ⟨sh,p,q,as,rfl,st⟩
  clear hD5 hu5 ho5 hv5 hel5 hu05 ho05 hv05 nd0 c1 c2 c3 c4 ou ov oc uv uc vc en
  walk_at "r"
  refine⟨4,rfl,by decide,by decide,?_⟩
  refine forW (fun i σ' H'=>∃(ns' os' ms' as':List Int) (b:Int) (x1 x2 x3 x4:Option V),σ'=[some (.ref a0),some (.ref d),some (.int slip),some (.ref u),some (.ref v),some (.ref o),some (.ref el),some (.ref sh),x1,x2,x3,x4]∧LSt slip ⟨d,c0,u,v,o,el,u0,v0,o0,sh,p,q⟩ ns os ms H' ns' os' ms' as' b∧feB as' [b]=true) 4
   ⟨ns,os,ms,as,1,none,none,none,none,rfl,st,?_⟩ ?_ ?_
  ·exact feB_mk st.fl (by decide) (by decide) (sum_pos st.fl).1
  ·rintro σ' H7 ⟨ns',os',ms',as',b,x1,x2,x3,x4,rfl,st7,_⟩
   refine⟨Nat.le_refl _,?_⟩
   walk_at "r"
   refine i_gtup (SqT.of st7.el) rfl ?_
   walk_at "r"
   refine⟨u0,o0,v0,slip,ns,os,ms,rfl,st7.u0,st7.o0,st7.v0,ask,fun v1 H8 R B s8 r1 r2 rp=>?_⟩
   walk_at "r"
   have st8:=st7.same s8
   refine⟨u0,o0,v0,slip,ns,os,ms,rfl,st8.u0,st8.o0,st8.v0,ask,fun v2 H9 R2 B2 s9 r3 r4 rp2=>?_⟩
   rw[r3.eq r1,r4.eq r2]at rp2
   walk_at "r"
   exact⟨v1,v2,_,rfl,rp.mono s9,rp2,dtA_depth _ _ _ _ _ _,dtA_wide ask.fit (len100 ask r1 fun _ h=>h) (len100 ask r2 fun _ h=>h.1),fun H10 _=>k _⟩
  rintro i σ' H7 hi ⟨ns',os',ms',as',b,x1,x2,x3,x4,rfl,st7,fe⟩
  refine⟨hi,?_⟩
  rintro x' G ⟨rfl,rfl⟩
  rw[Int.zero_add]
  walk_at "r"
  refine⟨fun σ' H'=>σ'=[some (.ref a0),some (.ref d),some (.int slip),some (.ref u),some (.ref v),some (.ref o),some (.ref el),some (.ref sh),some (.int i),x2,x3,x4]∧Same G H',?_,?_⟩
  ·walk_at "r"
   refine⟨u,o,v,slip,ns',os',ms',rfl,st7.u,st7.o,st7.v,st7.ask,fun v1 H8 R B s8 r1 r2 rp=>?_⟩
   walk_at "r"
   have st8:=st7.same s8
   refine⟨u,o,v,slip,ns',os',ms',rfl,st8.u,st8.o,st8.v,st7.ask,fun v2 H9 R2 B2 s9 r3 r4 rp2=>?_⟩
   rw[r3.eq r1,r4.eq r2]at rp2
   walk_at "r"
   refine⟨v1,v2,_,rfl,rp.mono s9,rp2,dtA_depth _ _ _ _ _ _,dtA_wide st7.ask.fit (len100 st7.ask r1 fun _ h=>h) (len100 st7.ask r2 fun _ h=>h.1),fun H10 s10=>?_⟩
   walk_at "r"
   refine iteF ?_
   walk_at "r"
   exact⟨rfl,(s8.trans s9).trans s10⟩
  rintro σ' H8 ⟨rfl,s8⟩
  have st8:=st7.same s8
  have hsh8:H8 sh=some (.lst [.ref p,.ref q]):=st8.sh
  have hp8:H8 p=some (.lst (as'.map V.int)):=st8.p
  have hq8:H8 q=some (.lst ([b].map V.int)):=st8.q
  clear st7 s8 st
  obtain⟨b1,b2,b3⟩:=feB_b fe
  obtain⟨p1,p2,p3,p4⟩:=sum_pos st8.fl
  obtain⟨e0,v1,v2,v3,v4⟩:=fl_at st8.fl (i:=0) (by omega)
  refine⟨fun σ' H'=>∃t:Addr,σ'=[some (.ref a0),some (.ref d),some (.int slip),some (.ref u),some (.ref v),some (.ref o),some (.ref el),some (.ref sh),some (.int i),some (.ref t),x3,x4]∧Same H8 H'∧H' t=some (.tup [.int (gO as' [b] 0).1,.int (gO as' [b] 0).2]),?_,?_⟩
  ·walk_at "r"
   refine⟨q,rfl,⟨_,SqL.of hq8⟩,?_⟩
   refine collP (Rl:=fun H'=>Same H8 H') (g:=gA as' [b] 0) 1 (by decide) (Same.refl _) (fun H' s=>⟨_,SqL.of (s _ _ hq8),Nat.le_refl _⟩) (fun j H' hj s=>⟨_,.int b,SqL.of (s _ _ hq8),by obtain rfl:j=0:=(by omega);rfl⟩) ?_ ?_
   ·rintro j x' H' G R hj sj ⟨rfl,hy⟩ q'
    obtain rfl:j=0:=by omega
    have ex:=hy _ (SqL.of (sj _ _ hq8))
    cases ex
    have hsh':=sj _ _ hsh8
    have hp':=sj _ _ hp8
    walk_at "r"
    refine i_sum (SqL.of hp') ?_
    walk_at "r"
    refine i_ixL (SqL.of hp') (ix_of e0) ?_
    walk_at "r"
    exact⟨_,_,_,0,0,rfl,v2,v4,b1,b2,b3,by omega,by omega,by omega,by omega,by omega,by omega,fun t H3 s3 ht=>q' t H3 (sj.trans s3) s3 ht⟩
   ·rintro ts H3 s3 hts D hD
    have s4:=same_upd (o:=.lst (ts.map V.ref)) hD
    walk_at "r"
    refine⟨D,ts,_,96,96,rfl,upd_same,by rw[hts.len];simp,by decide,by decide,hts.mono s4,fun z hz=>?_,fun t H5 s5 ht=>?_⟩
    ·obtain⟨j,hj,rfl⟩:=List.mem_map.mp hz
     exact gA_le fe (by omega) (List.mem_range.mp hj)
    ·walk_at "r"
     exact⟨t,rfl,(s3.trans s4).trans s5,ht⟩
  rintro σ' H9 ⟨t,rfl,s9,ht9⟩
  have hsh9:=s9 _ _ hsh8
  have hp9:=s9 _ _ hp8
  have hq9:=s9 _ _ hq8
  refine⟨fun σ' H'=>σ'=[some (.ref a0),some (.ref d),some (.int slip),some (.ref u),some (.ref v),some (.ref o),some (.ref el),some (.ref sh),some (.int i),some (.ref t),x3,x4]∧Same H9 H',?_,?_⟩
  ·walk_at "r"
   refine⟨p,q,as',[b],0,rfl,hp9,hq9,fe,by omega,fun t2 H10 s10 ht10=>?_⟩
   walk_at "r"
   refine⟨_,_,.tup [.int _,.int _],rfl,rep2 ht10,rep2 (s10 _ _ ht9),small2,wide2,fun H11 s11=>?_⟩
   walk_at "r"
   refine iteF ?_
   walk_at "r"
   exact⟨rfl,s10.trans s11⟩
  rintro σ' H10 ⟨rfl,s10⟩
  have s810:=s9.trans s10
  have hsh10:=s10 _ _ hsh9
  have hp10:=s10 _ _ hp9
  have hq10:=s10 _ _ hq9
  clear ht9 hsh9 hp9 hq9 hsh8 hp8 hq8 s9 s10
  refine⟨fun σ' H'=>∃t2:Addr,σ'=[some (.ref a0),some (.ref d),some (.int slip),some (.ref u),some (.ref v),some (.ref o),some (.ref el),some (.ref sh),some (.int i),some (.ref t),some (.ref t2),x4]∧Same H10 H'∧H' t2=some (.tup [.int (gM as' [b]).1,.int (gM as' [b]).2]),?_,?_⟩
  ·walk_at "r"
   refine⟨p,rfl,⟨_,SqL.of hp10⟩,?_⟩
   refine collP (Rl:=fun H'=>Same H10 H') (g:=gO as' [b]) as'.length (by omega) (Same.refl _) (fun H' s=>⟨_,SqL.of (s _ _ hp10),by rw[List.length_map];exact Nat.le_refl _⟩) (fun j H' hj s=>⟨_,.int as'[j],SqL.of (s _ _ hp10),by rw[List.getElem?_map,List.getElem?_eq_getElem hj];rfl⟩) ?_ ?_
   ·rintro j x' H' G R hj sj ⟨rfl,hy⟩ q'
    have ex:=hy _ (SqL.of (sj _ _ hp10))
    rw[List.getElem?_map,List.getElem?_eq_getElem hj]at ex
    cases ex
    obtain⟨ej,w1,w2,w3,w4⟩:=fl_at st8.fl hj
    have eg:as'.getD j 0=as'[j]:=by rw[List.getElem?_eq_getElem hj]at ej;exact(Option.some.inj ej).symm
    rw[eg]at w1 w2 w3
    have hsh':=sj _ _ hsh10
    have hp':=sj _ _ hp10
    have hq':=sj _ _ hq10
    walk_at "r"
    refine i_sum (SqL.of hp') ?_
    walk_at "r"
    refine⟨_,_,_,0,0,rfl,w2,w4,b1,b2,b3,by omega,by omega,by omega,by omega,by omega,by omega,fun t H3 s3 ht=>q' t H3 (sj.trans s3) s3 ?_⟩
    rw[gO_one b3 (by omega),eg]
    exact ht
   ·rintro ts H3 s3 hts D hD
    have s4:=same_upd (o:=.lst (ts.map V.ref)) hD
    have lt:=hts.len
    rw[List.length_map,List.length_range]at lt
    walk_at "r"
    refine⟨D,ts,_,1544,768,rfl,upd_same,by omega,by decide,by decide,hts.mono s4,fun z hz=>?_,fun t H5 s5 ht=>?_⟩
    ·obtain⟨j,hj,rfl⟩:=List.mem_map.mp hz
     exact gO_le fe (List.mem_range.mp hj)
    ·walk_at "r"
     exact⟨t,rfl,(s3.trans s4).trans s5,ht⟩
  rintro σ' H11 ⟨t2,rfl,s11,ht11⟩
  have hsh11:=s11 _ _ hsh10
  have hp11:=s11 _ _ hp10
  have hq11:=s11 _ _ hq10
  refine⟨fun σ' H'=>σ'=[some (.ref a0),some (.ref d),some (.int slip),some (.ref u),some (.ref v),some (.ref o),some (.ref el),some (.ref sh),some (.int i),some (.ref t),some (.ref t2),x4]∧Same H11 H',?_,?_⟩
  ·walk_at "r"
   refine⟨p,q,as',[b],rfl,hp11,hq11,fe,fun t3 H12 s12 ht12=>?_⟩
   walk_at "r"
   refine⟨_,_,.tup [.int _,.int _],rfl,rep2 ht12,rep2 (s12 _ _ ht11),small2,wide2,fun H13 s13=>?_⟩
   walk_at "r"
   refine iteF ?_
   walk_at "r"
   exact⟨rfl,s12.trans s13⟩
  rintro σ' H12 ⟨rfl,s12⟩
  have st12:=st8.same (s810.trans (s11.trans s12))
  clear st8 s810 s11 s12 ht11 hsh11 hp11 hq11 hsh10 hp10 hq10
  refine⟨fun σ' H'=>∃(ns2 os2 ms2:List Int) (x5:Option V),σ'=[some (.ref a0),some (.ref d),some (.int slip),some (.ref u),some (.ref v),some (.ref o),some (.ref el),some (.ref sh),some (.int i),some (.ref t),some (.ref t2),x5]∧LSt slip ⟨d,c0,u,v,o,el,u0,v0,o0,sh,p,q⟩ ns os ms H' ns2 os2 ms2 as' b,?_,?_⟩
  ·walk_at "r"
   refine⟨by show 3≤sizeLine;decide,fun tp htp=>?_⟩
   have s13:=same_upd (o:=.tup [.ref u,.ref o,.ref v]) htp
   have htp':upd H12 tp (.tup [.ref u,.ref o,.ref v]) tp=some (.tup [.ref u,.ref o,.ref v]):=upd_same
   have st13:=st12.same s13
   generalize upd H12 tp (.tup [.ref u,.ref o,.ref v])=H13 at htp' st13⊢
   clear s13 htp st12
   refine⟨tp,rfl,⟨_,SqT.of htp'⟩,?_⟩
   refine forW (fun j σ' H'=>∃(ns2 os2 ms2:List Int) (x5:Option V),σ'=[some (.ref a0),some (.ref d),some (.int slip),some (.ref u),some (.ref v),some (.ref o),some (.ref el),some (.ref sh),some (.int i),some (.ref t),some (.ref t2),x5]∧LSt slip ⟨d,c0,u,v,o,el,u0,v0,o0,sh,p,q⟩ ns os ms H' ns2 os2 ms2 as' b∧H' tp=some (.tup [.ref u,.ref o,.ref v])) 3
    ⟨ns',os',ms',x4,rfl,st13,htp'⟩ ?_ ?_
   ·rintro σ' H14 ⟨ns2,os2,ms2,x5,rfl,st14,htp14⟩
    exact⟨⟨_,SqT.of htp14,Nat.le_refl _⟩,ns2,os2,ms2,x5,rfl,st14⟩
   rintro j σ' H14 hj ⟨ns2,os2,ms2,x5,rfl,st14,htp14⟩
   have hj':j<[V.ref u,V.ref o,V.ref v].length:=hj
   refine⟨⟨_,_,SqT.of htp14,List.getElem?_eq_getElem hj'⟩,?_⟩
   rintro x' G ⟨rfl,hy⟩
   have ex:=hy _ (SqT.of htp14)
   have nd:=st14.nd
   simp only[List.nodup_cons,List.mem_cons,not_or,List.not_mem_nil,not_false_eq_true]at nd
   obtain⟨n1,n2,n3,n4,n5,n6,n7⟩:=st14.ask
   have o1':=st14.o1
   match j,ex with
   |0,ex=>
    cases ex
    walk_at "r"
    refine⟨d,c0,u,slip,ns2,rfl,st14.dr,st14.u,st14.dr.ne_ints st14.u,Ne.symm nd.1.1,n3,by omega,fun H15 ks hD15 b15 hr15 l15 c15=>?_⟩
    walk_at "r"
    exact⟨ks,os2,ms2,_,rfl,st14.newU hD15 b15 hr15 l15 c15,b15 _ _ (st14.dr.ne_tup htp14) (tup_ne htp14 st14.u) htp14⟩
   |1,ex=>
    cases ex
    walk_at "r"
    refine⟨d,c0,o,slip,os2,rfl,st14.dr,st14.o,st14.dr.ne_ints st14.o,Ne.symm nd.1.2.2.1,o1',by omega,fun H15 ks hD15 b15 hr15 l15 c15=>?_⟩
    walk_at "r"
    exact⟨ns2,ks,ms2,_,rfl,st14.newO hD15 b15 hr15 l15 c15,b15 _ _ (st14.dr.ne_tup htp14) (tup_ne htp14 st14.o) htp14⟩
   |2,ex=>
    cases ex
    walk_at "r"
    refine⟨d,c0,v,slip,ms2,rfl,st14.dr,st14.v,st14.dr.ne_ints st14.v,Ne.symm nd.1.2.1,n5,by omega,fun H15 ks hD15 b15 hr15 l15 c15=>?_⟩
    walk_at "r"
    exact⟨ns2,os2,ks,_,rfl,st14.newV hD15 b15 hr15 l15 c15,b15 _ _ (st14.dr.ne_tup htp14) (tup_ne htp14 st14.v) htp14⟩
  rintro σ' H13 ⟨ns2,os2,ms2,x5,rfl,st13⟩
  clear st12
  have hsh13:H13 sh=some (.lst [.ref p,.ref q]):=st13.sh
  have hp13:H13 p=some (.lst (as'.map V.int)):=st13.p
  refine⟨fun σ' H'=>∃as2:List Int,σ'=[some (.ref a0),some (.ref d),some (.int slip),some (.ref u),some (.ref v),some (.ref o),some (.ref el),some (.ref sh),some (.int i),some (.ref t),some (.ref t2),x5]∧LSt slip ⟨d,c0,u,v,o,el,u0,v0,o0,sh,p,q⟩ ns os ms H' ns2 os2 ms2 as2 b,?_,?_⟩
  ·walk_at "r"
   refine i_ixL (SqL.of hp13) (ix_of e0) ?_
   walk_at "r"
   refine i_setL hp13 (ixN_nat (j:=0) (by rw[List.length_map];omega)) ?_
   refine⟨as'.set 0 (1+as'.getD 0 0 % 12),rfl,?_⟩
   have st14:=st13.newP (ks:=as'.set 0 (1+as'.getD 0 0 % 12)) (fl_set st13.fl (by omega) (by omega))
   rw[List.map_set]at st14
   exact st14
  rintro σ' H14 ⟨as2,rfl,st14⟩
  clear st13 hsh13 hp13 p1 p2 p3 p4 e0 v1 v2 v3 v4
  have hsh14:H14 sh=some (.lst [.ref p,.ref q]):=st14.sh
  have hp14:H14 p=some (.lst (as2.map V.int)):=st14.p
  have hq14:H14 q=some (.lst ([b].map V.int)):=st14.q
  obtain⟨p1,p2,p3,p4⟩:=sum_pos st14.fl
  walk_at "r"
  refine i_sum (SqL.of hp14) ?_
  walk_at "r"
  have em:∃m:Int,(if as2.sum<12 then as2.sum else 12)=m∧1≤m∧m≤12∧m≤as2.sum:=by
   split
   ·exact⟨_,rfl,p1,by omega,by omega⟩
   ·exact⟨_,rfl,by omega,by omega,by omega⟩
  obtain⟨m,em,m1,m2,m3⟩:=em
  rw[em]
  refine⟨d,c0,m,rfl,st14.dr,by omega,small_int (by omega) (by omega),fun x H15 x0 x1' hD15 b15=>?_⟩
  have st15:=st14.but hD15 b15
  have hsh15:H15 sh=some (.lst [.ref p,.ref q]):=st15.sh
  have hq15:H15 q=some (.lst ([b].map V.int)):=st15.q
  walk_at "r"
  exact⟨ns2,os2,ms2,as2,1+x,_,_,_,_,rfl,st15.newQ,feB_mk st15.fl (by omega) (by omega) (by omega)⟩
end
end K57
namespace K57
open PySem L2
structure FnTop(K:W.Frag)(x:Str)(st:Stmt)(f:Addr):Prop where
 a:W.nsIn K mainGlobals x=some (some (.ref f))
 l:∃(oc:Value) (od an:Option Addr) (sl:Array (Option Value)) (kV dc pm cd ct:Value),K.lookup f=some ⟨oc,od,.func (W.fnOf x x (defArgs st) (defBody st) (defScope st) .none kV dc pm an cd ct),sl⟩∧W.codeIn K cd x=true
 k:W.keepIn K (.ref f)=true
theorem FnTop.of{K:W.Frag}{x:Str}{st:Stmt}{f:Addr}{oc:Value}{od an:Option Addr}{sl:Array (Option Value)}{kV dc pm cd ct:Value}(a:W.nsIn K mainGlobals x=some (some (.ref f)))(l:K.lookup f=some ⟨oc,od,.func (W.fnOf x x (defArgs st) (defBody st) (defScope st) .none kV dc pm an cd ct),sl⟩)(c:W.codeIn K cd x=true)(k:W.keepIn K (.ref f)=true):FnTop K x st f:=⟨a,⟨_,_,_,_,_,_,_,_,_,l,c⟩,k⟩
theorem FnTop.cal{P:Program}{w:World}{base:Heap}{K:W.Frag}{h:Heap}{mg:Str→Option Value}{x:Str}{st:Stmt}{f:Addr}{ps:List Str}{j:Nat}{sp:Sp}(X:K.In h)(G:h.Ns mainGlobals mg)(t:FnTop K x st f)(ok:∀{fd},Fun K x x st f fd→mg x=some (.ref f)→Binds K fd ps []→FnOk P w K mg base CX0 j f fd ps sp)
  (b:∀(kV dc pm:Value) (an:Option Addr) (cd ct:Value) (us:List Value),us.length=ps.length→bindArgs (W.fnOf x x (defArgs st) (defBody st) (defScope st) .none kV dc pm an cd ct) {pos:=us}=pure (ps.zip us)):Cal P w K mg base x j ps sp:=by
 obtain⟨a,⟨_,_,_,_,_,_,_,_,_,l,c⟩,k⟩:=t
 have F:=fun_mk (st:=st) l c k
 have m:=W.mg_of X G a
 have B:=F.binds (ps:=ps) b
 exact⟨_,_,ok F m B,m,k,B⟩
theorem len_1{F:Value→Value→Value→Option Addr→Value→Value→FuncData}{ps:List Str}(h:∀a b c d e f a0,bindArgs (F a b c d e f) {pos:=[a0]}=pure (ps.zip [a0]))(a b c:Value)(d:Option Addr)(e f:Value):∀us:List Value,us.length=1→bindArgs (F a b c d e f) {pos:=us}=pure (ps.zip us)
 |[a0],_=>h a b c d e f a0
theorem len_2{F:Value→Value→Value→Option Addr→Value→Value→FuncData}{ps:List Str}(h:∀a b c d e f a0 a1,bindArgs (F a b c d e f) {pos:=[a0,a1]}=pure (ps.zip [a0,a1]))(a b c:Value)(d:Option Addr)(e f:Value):∀us:List Value,us.length=2→bindArgs (F a b c d e f) {pos:=us}=pure (ps.zip us)
 |[a0,a1],_=>h a b c d e f a0 a1
theorem len_3{F:Value→Value→Value→Option Addr→Value→Value→FuncData}{ps:List Str}(h:∀a b c d e f a0 a1 a2,bindArgs (F a b c d e f) {pos:=[a0,a1,a2]}=pure (ps.zip [a0,a1,a2]))(a b c:Value)(d:Option Addr)(e f:Value):∀us:List Value,us.length=3→bindArgs (F a b c d e f) {pos:=us}=pure (ps.zip us)
 |[a0,a1,a2],_=>h a b c d e f a0 a1 a2
theorem len_4{F:Value→Value→Value→Option Addr→Value→Value→FuncData}{ps:List Str}(h:∀a b c d e f a0 a1 a2 a3,bindArgs (F a b c d e f) {pos:=[a0,a1,a2,a3]}=pure (ps.zip [a0,a1,a2,a3]))(a b c:Value)(d:Option Addr)(e f:Value):∀us:List Value,us.length=4→bindArgs (F a b c d e f) {pos:=us}=pure (ps.zip us)
 |[a0,a1,a2,a3],_=>h a b c d e f a0 a1 a2 a3
theorem len_5{F:Value→Value→Value→Option Addr→Value→Value→FuncData}{ps:List Str}(h:∀a b c d e f a0 a1 a2 a3 a4,bindArgs (F a b c d e f) {pos:=[a0,a1,a2,a3,a4]}=pure (ps.zip [a0,a1,a2,a3,a4]))(a b c:Value)(d:Option Addr)(e f:Value):∀us:List Value,us.length=5→bindArgs (F a b c d e f) {pos:=us}=pure (ps.zip us)
 |[a0,a1,a2,a3,a4],_=>h a b c d e f a0 a1 a2 a3 a4
theorem all_mk{l:W.OpenLaw}{w:World}{K:W.Frag}{h:Heap}{mg:Str→Option Value}{fa f0 f1 f2 f3 f4 f5 f6 f7 f8 f9 f10 f11 f12 f13 f14 f15 f16 f17 f18 f19 f20 f21 f22 f23 f24 f25 f26 f27 f28 f29 f30 f31 f32 f33 f34 f35 f36 f37 f38 f39 f40 f41 f42 f43 f44 f45 f46 f47 f48 f49 f50 f51 f52 f53 f54 f55 f56 f57 f58:Addr}(X:K.In h)(G:h.Ns mainGlobals mg)(hfa:mg "law"=some (.ref fa))
  (t0:FnTop K "rising" sRising f0)
  (t1:FnTop K "common" sCommon f1)
  (t2:FnTop K "apart" sApart f2)
  (t3:FnTop K "many_common" sManyCommon f3)
  (t4:FnTop K "is_slip" sIsSlip f4)
  (t5:FnTop K "need_slip" sNeedSlip f5)
  (t6:FnTop K "need_boat" sNeedBoat f6)
  (t7:FnTop K "need_carrying" sNeedCarrying f7)
  (t8:FnTop K "timbers_by_kind" sTimbersByKind f8)
  (t9:FnTop K "stage_of" sStageOf f9)
  (t10:FnTop K "near" sNear f10)
  (t11:FnTop K "stages" sStages f11)
  (t12:FnTop K "first_near" sFirstNear f12)
  (t13:FnTop K "rings" sRings f13)
  (t14:FnTop K "height_of" sHeightOf f14)
  (t15:FnTop K "fewest" sFewest f15)
  (t16:FnTop K "ways" sWays f16)
  (t17:FnTop K "need_choosing" sNeedChoosing f17)
  (t18:FnTop K "groups" sGroups f18)
  (t19:FnTop K "choices" sChoices f19)
  (t20:FnTop K "same" sSame f20)
  (t21:FnTop K "is_fleet" sIsFleet f21)
  (t22:FnTop K "paired" sPaired f22)
  (t23:FnTop K "divisor" sDivisor f23)
  (t24:FnTop K "lowest" sLowest f24)
  (t25:FnTop K "plus" sPlus f25)
  (t26:FnTop K "is_size" sIsSize f26)
  (t27:FnTop K "need_sizes" sNeedSizes f27)
  (t28:FnTop K "need_fleets" sNeedFleets f28)
  (t29:FnTop K "need_place" sNeedPlace f29)
  (t30:FnTop K "reckoned" sReckoned f30)
  (t31:FnTop K "total" sTotal f31)
  (t32:FnTop K "goes_as" sGoesAs f32)
  (t33:FnTop K "goes_on" sGoesOn f33)
  (t34:FnTop K "mean_going" sMeanGoing f34)
  (t35:FnTop K "_law_begin" sLawBegin f35)
  (t36:FnTop K "_law_take" sLawTake f36)
  (t37:FnTop K "_law_same" sLawSame f37)
  (t38:FnTop K "_law_set" sLawSet f38)
  (t39:FnTop K "_law_like" sLawLike f39)
  (t40:FnTop K "_law_some" sLawSome f40)
  (t41:FnTop K "_law_low" sLawLow f41)
  (t42:FnTop K "_law_sum" sLawSum f42)
  (t43:FnTop K "_law_all" sLawAll f43)
  (t44:FnTop K "_law_slip" sLawSlip f44)
  (t45:FnTop K "_law_pairs" sLawPairs f45)
  (t46:FnTop K "_law_ways" sLawWays f46)
  (t47:FnTop K "_law_count" sLawCount f47)
  (t48:FnTop K "_law_ends" sLawEnds f48)
  (t49:FnTop K "_law_kinds" sLawKinds f49)
  (t50:FnTop K "_law_stages" sLawStages f50)
  (t51:FnTop K "_law_near" sLawNear f51)
  (t52:FnTop K "_law_heights" sLawHeights f52)
  (t53:FnTop K "_law_sizes" sLawSizes f53)
  (t54:FnTop K "_law_share" sLawShare f54)
  (t55:FnTop K "_law_answers" sLawAnswers f55)
  (t56:FnTop K "_law_dues" sLawDues f56)
  (t57:FnTop K "_law_change" sLawChange f57)
  (t58:FnTop K "law" sLaw f58)
  {gt0:Tok} (g0:W.nsIn K mainGlobals "MOST_SLIP"=some (some (.int 12 gt0)))
  {gt1:Tok} (g1:W.nsIn K mainGlobals "MOST_BOATS"=some (some (.int 8 gt1)))
  (z0:W.nsIn K mainGlobals "len"=some none) (z1:W.nsIn K mainGlobals "abs"=some none) (z2:W.nsIn K mainGlobals "all"=some none) (z3:W.nsIn K mainGlobals "isinstance"=some none) (z4:W.nsIn K mainGlobals "zip"=some none) (z5:W.nsIn K mainGlobals "list"=some none) (z6:W.nsIn K mainGlobals "tuple"=some none) (z7:W.nsIn K mainGlobals "bool"=some none) (z8:W.nsIn K mainGlobals "int"=some none) (z9:W.nsIn K mainGlobals "str"=some none) (z10:W.nsIn K mainGlobals "range"=some none) (z11:W.nsIn K mainGlobals "sorted"=some none) (z12:W.nsIn K mainGlobals "set"=some none) (z13:W.nsIn K mainGlobals "min"=some none) (z14:W.nsIn K mainGlobals "max"=some none) (z15:W.nsIn K mainGlobals "sum"=some none) (z16:W.nsIn K mainGlobals "enumerate"=some none):
  ∃fd:FuncData,(∀(s:Shared) (v:Value),BindsTo s fd ⟨[v],[]⟩ [("_law_script",v)])∧∀base:Heap,K.In base→base.Ns mainGlobals mg→FnOk l.prog w K mg base CX0 9 fa fd ["_law_script"] (spLaw K):=by
 obtain⟨a,⟨_,_,an,_,kV,dc,pm,cv,ct,lk,cd⟩,kp⟩:=t58
 have e:=hfa.symm.trans (W.mg_of X G a)
 cases e
 have Z:∀{x},W.nsIn K mainGlobals x=some none→mg x=none:=fun z=>W.mg_none_of X G z
 have T:BltM mg:={toBlt:=⟨Z z0,Z z1,Z z2,Z z3,Z z4,Z z5,Z z6,Z z7,Z z8,Z z9,Z z10,Z z11,Z z12⟩,z_min:=Z z13,z_max:=Z z14,z_sum:=Z z15,z_enumerate:=Z z16}
 have C0:=W.mg_of X G g0
 have C1:=W.mg_of X G g1
 refine⟨W.fnOf "law" "law" (defArgs sLaw) (defBody sLaw) (defScope sLaw) .none kV dc pm an cv ct,fun s v=>.of_eq rfl,fun base _ _=>?_⟩
 have U:∀{x st f ps j sp},FnTop K x st f→(∀{fd},Fun K x x st f fd→mg x=some (.ref f)→Binds K fd ps []→FnOk l.prog w K mg base CX0 j f fd ps sp)→(∀(kV dc pm:Value) (an:Option Addr) (cd ct:Value) (us:List Value),us.length=ps.length→bindArgs (W.fnOf x x (defArgs st) (defBody st) (defScope st) .none kV dc pm an cd ct) {pos:=us}=pure (ps.zip us))→Cal l.prog w K mg base x j ps sp:=fun t ok b=>t.cal X G ok b
 have c_rising:=U t0 (fun F _ _=>ok_rising F T) (len_1 fun _ _ _ _ _ _ _=>rfl)
 have c_common:=U t1 (fun F _ _=>ok_common F T) (len_2 fun _ _ _ _ _ _ _ _=>rfl)
 have c_apart:=U t2 (fun F _ _=>ok_apart F T) (len_2 fun _ _ _ _ _ _ _ _=>rfl)
 have c_many_common:=U t3 (fun F _ _=>ok_many F T) (len_2 fun _ _ _ _ _ _ _ _=>rfl)
 have c_is_slip:=U t4 (fun F _ _=>ok_is_slip F T C0) (len_1 fun _ _ _ _ _ _ _=>rfl)
 have c_need_slip:=U t5 (fun F _ _=>ok_need_slip F T c_is_slip) (len_1 fun _ _ _ _ _ _ _=>rfl)
 have c_need_boat:=U t6 (fun F _ _=>ok_need_boat F T c_rising) (len_2 fun _ _ _ _ _ _ _ _=>rfl)
 have c_need_carrying:=U t7 (fun F _ _=>ok_need_carry F T c_need_slip c_need_boat) (len_3 fun _ _ _ _ _ _ _ _ _=>rfl)
 have c_timbers_by_kind:=U t8 (fun F _ _=>ok_kinds F T c_common c_apart) (len_2 fun _ _ _ _ _ _ _ _=>rfl)
 have c_stage_of:=U t9 (fun F _ _=>ok_stage_of F T c_common c_timbers_by_kind) (len_3 fun _ _ _ _ _ _ _ _ _=>rfl)
 have c_near:=U t10 (fun F _ _=>ok_near F T) (len_2 fun _ _ _ _ _ _ _ _=>rfl)
 have c_stages:=U t11 (fun F _ _=>ok_stages F T c_need_carrying c_timbers_by_kind) (len_3 fun _ _ _ _ _ _ _ _ _=>rfl)
 have c_first_near:=U t12 (fun F _ _=>ok_first F T c_near) (len_2 fun _ _ _ _ _ _ _ _=>rfl)
 have c_rings:=U t13 (fun F _ _=>ok_rings F T c_stages c_stage_of c_first_near) (len_3 fun _ _ _ _ _ _ _ _ _=>rfl)
 have c_height_of:=U t14 (fun F _ _=>ok_height_of F T) (len_2 fun _ _ _ _ _ _ _ _=>rfl)
 have c_fewest:=U t15 (fun F _ _=>ok_fewest F T c_rings c_stage_of c_height_of) (len_3 fun _ _ _ _ _ _ _ _ _=>rfl)
 have c_ways:=U t16 (fun F _ _=>ok_ways F T) (len_2 fun _ _ _ _ _ _ _ _=>rfl)
 have c_need_choosing:=U t17 (fun F _ _=>ok_need_ch F T c_need_slip c_need_boat c_many_common) (len_3 fun _ _ _ _ _ _ _ _ _=>rfl)
 have c_groups:=U t18 (fun F _ _=>ok_groups F T c_ways) (len_3 fun _ _ _ _ _ _ _ _ _=>rfl)
 have c_choices:=U t19 (fun F _ _=>ok_choices F T c_need_choosing c_rising c_groups) (len_3 fun _ _ _ _ _ _ _ _ _=>rfl)
 have c_same:=U t20 (fun F _ _=>ok_sameP F T c_many_common c_rising) (len_2 fun _ _ _ _ _ _ _ _=>rfl)
 have c_is_fleet:=U t21 (fun F _ _=>ok_fleet F T c_rising) (len_1 fun _ _ _ _ _ _ _=>rfl)
 have c_paired:=U t22 (fun F _ _=>ok_paired F T c_is_fleet c_same) (len_2 fun _ _ _ _ _ _ _ _=>rfl)
 have c_divisor:=U t23 (fun F _ _=>ok_divisor F) (len_2 fun _ _ _ _ _ _ _ _=>rfl)
 have c_lowest:=U t24 (fun F _ _=>ok_lowest F T c_divisor) (len_2 fun _ _ _ _ _ _ _ _=>rfl)
 have c_plus:=U t25 (fun F _ _=>ok_plus F T c_lowest) (len_2 fun _ _ _ _ _ _ _ _=>rfl)
 have c_is_size:=U t26 (fun F _ _=>ok_is_size F T C0) (len_1 fun _ _ _ _ _ _ _=>rfl)
 have c_need_sizes:=U t27 (fun F _ _=>ok_need_sizes F T C1 c_is_size) (len_1 fun _ _ _ _ _ _ _=>rfl)
 have c_need_fleets:=U t28 (fun F _ _=>ok_need_fleets F T c_need_sizes) (len_2 fun _ _ _ _ _ _ _ _=>rfl)
 have c_need_place:=U t29 (fun F _ _=>ok_need_place F T) (len_2 fun _ _ _ _ _ _ _ _=>rfl)
 have c_reckoned:=U t30 (fun F _ _=>ok_reckoned F T c_ways c_lowest) (len_5 fun _ _ _ _ _ _ _ _ _ _ _=>rfl)
 have c_total:=U t31 (fun F _ _=>ok_total F T c_plus) (len_1 fun _ _ _ _ _ _ _=>rfl)
 have c_goes_as:=U t32 (fun F _ _=>ok_goes_as F T c_need_fleets c_need_place c_reckoned) (len_4 fun _ _ _ _ _ _ _ _ _ _=>rfl)
 have c_goes_on:=U t33 (fun F _ _=>ok_goes_on F T c_need_fleets c_need_place c_goes_as c_total) (len_3 fun _ _ _ _ _ _ _ _ _=>rfl)
 have c_mean_going:=U t34 (fun F _ _=>ok_mean_going F T c_need_fleets c_goes_on c_total) (len_2 fun _ _ _ _ _ _ _ _=>rfl)
 have c_law_begin:=U t35 (fun F _ _=>ok_begin F T.toBlt) (len_1 fun _ _ _ _ _ _ _=>rfl)
 have c_law_take:=U t36 (fun F _ _=>ok_take F T.toBlt) (len_2 fun _ _ _ _ _ _ _ _=>rfl)
 have c_law_same:=U t37 (fun F m b=>ok_same F T.toBlt m b 4) (len_2 fun _ _ _ _ _ _ _ _=>rfl)
 have c_law_set:=U t38 (fun F _ _=>ok_set F T) (len_1 fun _ _ _ _ _ _ _=>rfl)
 have c_law_like:=U t39 (fun F _ _=>ok_like F T c_law_set) (len_2 fun _ _ _ _ _ _ _ _=>rfl)
 have c_law_some:=U t40 (fun F _ _=>ok_some F T c_law_take) (len_3 fun _ _ _ _ _ _ _ _ _=>rfl)
 have c_law_low:=U t41 (fun F _ _=>ok_law_low F T) (len_2 fun _ _ _ _ _ _ _ _=>rfl)
 have c_law_sum:=U t42 (fun F _ _=>ok_law_sum F T c_law_low) (len_2 fun _ _ _ _ _ _ _ _=>rfl)
 have c_law_all:=U t43 (fun F _ _=>ok_law_all F T c_law_sum) (len_1 fun _ _ _ _ _ _ _=>rfl)
 have c_law_slip:=U t44 (fun F _ _=>ok_slip F T c_law_take) (len_1 fun _ _ _ _ _ _ _=>rfl)
 have c_law_pairs:=U t45 (fun F _ _=>ok_pairsL F T c_law_like) (len_2 fun _ _ _ _ _ _ _ _=>rfl)
 have c_law_ways:=U t46 (fun F _ _=>ok_law_ways F T) (len_2 fun _ _ _ _ _ _ _ _=>rfl)
 have c_law_count:=U t47 (fun F _ _=>ok_count F T c_law_ways) (len_3 fun _ _ _ _ _ _ _ _ _=>rfl)
 have c_law_ends:=U t48 (fun F _ _=>ok_ends F T c_law_take c_law_some) (len_2 fun _ _ _ _ _ _ _ _=>rfl)
 have c_law_kinds:=U t49 (fun F _ _=>ok_sorts F T c_law_set) (len_2 fun _ _ _ _ _ _ _ _=>rfl)
 have c_law_stages:=U t50 (fun F _ _=>ok_stagesL F T) (len_2 fun _ _ _ _ _ _ _ _=>rfl)
 have c_law_near:=U t51 (fun F _ _=>ok_nearL F T) (len_2 fun _ _ _ _ _ _ _ _=>rfl)
 have c_law_heights:=U t52 (fun F _ _=>ok_heightsL F T c_law_stages c_law_near) (len_2 fun _ _ _ _ _ _ _ _=>rfl)
 have c_law_sizes:=U t53 (fun F _ _=>ok_sizes F T c_law_take) (len_3 fun _ _ _ _ _ _ _ _ _=>rfl)
 have c_law_share:=U t54 (fun F _ _=>ok_law_share F T c_law_low c_law_ways) (len_5 fun _ _ _ _ _ _ _ _ _ _ _=>rfl)
 have c_law_answers:=U t55 (fun F _ _=>ok_answers F T c_rising c_common c_same c_paired c_choices c_stages c_fewest) (len_4 fun _ _ _ _ _ _ _ _ _ _=>rfl)
 have c_law_dues:=U t56 (fun F _ _=>ok_dues F T c_law_kinds c_law_set c_law_heights c_law_count c_law_like c_law_pairs c_law_stages) (len_4 fun _ _ _ _ _ _ _ _ _ _=>rfl)
 have c_law_change:=U t57 (fun F _ _=>ok_change F T c_law_take) (len_3 fun _ _ _ _ _ _ _ _ _=>rfl)
 exact ok_law (fun_mk (st:=sLaw) lk cd kp) T c_law_begin c_law_take c_law_same c_law_slip c_law_ends c_law_some c_law_sizes c_law_answers c_law_dues c_law_share c_law_all c_goes_on c_mean_going c_law_change
theorem walk{l:W.OpenLaw}{q:Program}{loose:List Str}{XP:(Str→Option Value)→Heap→Prop}{YP:World→Heap→Prop}{d:DefRec}{K:Params→W.Frag}(hn:l.most=some 63)(hdf:d.params.defaults=[])
  (hY:∀(w:World) (h:Heap),YP w h→(K w.params).In h)
  (F:∀(w:World) (mg:Str→Option Value) (fa:Addr) (h:Heap),(K w.params).In h→h.Ns mainGlobals mg→mg d.name=some (.ref fa)→
   ∃fd:FuncData,(∀(s:Shared) (u:Value),BindsTo s fd ⟨[u],[]⟩ [("_law_script",u)])∧∀base:Heap,(K w.params).In base→base.Ns mainGlobals mg→FnOk l.prog w (K w.params) mg base CX0 9 fa fd ["_law_script"] (spLaw (K w.params))):
  W.WalkO q loose XP YP l.row.toRowW d [] (fun f vs=>PySem.call f vs):=
 L2.walk_of (n:=63) (k:=9) (x:="_law_script") (CX:=fun _=>CX0) (sp:=fun w=>spLaw (K w.params)) hn (by decide) hdf ⟨rfl,by decide,by decide⟩ hY F (fun _ _ a ns hl _ hS=>⟨a,ns,rfl,hS,hl,fun _=>rfl⟩) fun _ _ _ _ _ z=>z
end K57
def PySem.W.Fast.tw8967157662134775466:Nat:=0
def PySem.W.Fast.tw7794797876059823587:Nat:=0
def PySem.W.Fast.tw12969005115915693780:Nat:=0
def PySem.W.Fast.tw2259702126984879694:Nat:=0
def PySem.W.Fast.tw9521628548999611038:Nat:=0
def PySem.W.Fast.tw14925564804624098710:Nat:=0
def PySem.W.Fast.tw11687905237695002407:Nat:=0
def PySem.W.Fast.tw9677537574095134466:Nat:=0
def PySem.W.Fast.tw10620750107701882605:Nat:=0
def PySem.W.Fast.tw8299544384937362324:Nat:=0
def PySem.W.Fast.tw13015558751653324861:Nat:=0
def PySem.W.Fast.tw4394330750718128983:Nat:=0
def PySem.W.Fast.tw13179274509332198261:Nat:=0
def PySem.W.Fast.tw9099736903712575747:Nat:=0
def PySem.W.Fast.tw6694945318406702533:Nat:=0
def PySem.W.Fast.tw13670110598617786952:Nat:=0
def PySem.W.Fast.tw13608190466341088506:Nat:=0
def PySem.W.Fast.tw18047646554619959803:Nat:=0
def PySem.W.Fast.tw10912023917629482643:Nat:=0
def PySem.W.Fast.tw10493382770449720201:Nat:=0
def PySem.W.Fast.tw377453304952027013:Nat:=0
def PySem.W.Fast.tw8008287412656943810:Nat:=0
def PySem.W.Fast.tw6490129022661474494:Nat:=0
def PySem.W.Fast.tw5570952491609540389:Nat:=0
def PySem.W.Fast.tw4329206889557917129:Nat:=0
def PySem.W.Fast.tw15582594064875276629:Nat:=0
def PySem.W.Fast.tw3935950301348191822:Nat:=0
def PySem.W.Fast.tw1560790935629232009:Nat:=0
def PySem.W.Fast.tw12081209780240073209:Nat:=0
def PySem.W.Fast.tw8800159222746149511:Nat:=0
def PySem.W.Fast.tw3387782697996120737:Nat:=0
def PySem.W.Fast.tw5251445668975356430:Nat:=0
def PySem.W.Fast.tw1293974086204836673:Nat:=0
def PySem.W.Fast.tw17890128685625429158:Nat:=0
def PySem.W.Fast.tw16665046897654618664:Nat:=0
def PySem.W.Fast.tw5297006738122611792:Nat:=0
def PySem.W.Fast.tw4628811569539453496:Nat:=0
def PySem.W.Fast.tw2276839903044741697:Nat:=0
def PySem.W.Fast.tw6760302762442222471:Nat:=0
def PySem.W.Fast.tw656247334339661654:Nat:=0
def PySem.W.Fast.tw14047598493016838941:Nat:=0
def PySem.W.Fast.tw14676133884447070359:Nat:=0
def PySem.W.Fast.tw4334073059047973279:Nat:=0
def PySem.W.Fast.tw3651625801110358346:Nat:=0
def PySem.W.Fast.tw2622468362635688808:Nat:=0
def PySem.W.Fast.tw17274183447416231855:Nat:=0
def PySem.W.Fast.tw5418005772258990526:Nat:=0
def PySem.W.Fast.tw13223599725786134716:Nat:=0
def PySem.W.Fast.tw4597344012023208995:Nat:=0
def PySem.W.Fast.tw1463966415905105381:Nat:=0
def PySem.W.Fast.tw476654384247715008:Nat:=0
def PySem.W.Fast.tw5416633058934118528:Nat:=0
def PySem.W.Fast.tw6845294540241183879:Nat:=0
def PySem.W.Fast.tw3272015956872137620:Nat:=0
open PySem PySem.W PyProof.Rows
set_option maxRecDepth 100000 in
set_option maxHeartbeats 0 in
theorem PySem.Challenge.cw_argosy_k57_lists_handed_in_may_be_change_holds : PySem.Challenge.rw_argosy_k57_lists_handed_in_may_be_change.Holds := by
 w_on;o_law;k_head;(case hw=>w_witness2)
 k_fill
 refine K57.walk (l:=PySem.Challenge.rw_argosy_k57_lists_handed_in_may_be_change) rfl rfl (fun w h Y=>PySem.W.kIn_of Y) ?F
 case F=>
  intro w mg fa h KX G hmg
  refine' K57.all_mk KX G hmg ?t0 ?t1 ?t2 ?t3 ?t4 ?t5 ?t6 ?t7 ?t8 ?t9 ?t10 ?t11 ?t12 ?t13 ?t14 ?t15 ?t16 ?t17 ?t18 ?t19 ?t20 ?t21 ?t22 ?t23 ?t24 ?t25 ?t26 ?t27 ?t28 ?t29 ?t30 ?t31 ?t32 ?t33 ?t34 ?t35 ?t36 ?t37 ?t38 ?t39 ?t40 ?t41 ?t42 ?t43 ?t44 ?t45 ?t46 ?t47 ?t48 ?t49 ?t50 ?t51 ?t52 ?t53 ?t54 ?t55 ?t56 ?t57 ?t58 ?gcst0 ?gcst1 ?z0 ?z1 ?z2 ?z3 ?z4 ?z5 ?z6 ?z7 ?z8 ?z9 ?z10 ?z11 ?z12 ?z13 ?z14 ?z15 ?z16
  all_goals first|(refine' K57.FnTop.of ?qa ?ql ?qc ?qk;(case qa=>k_is);(case ql=>k_is);(case qc=>k_is);(case qk=>k_is))|k_is|skip
end
