import PyProof.Rows.All
import Wide.All
import OpenK.AllK
import Wide.FinOn
import Lean
import PyProof.EqAt
import PyProof.EqKinds
import PyProof.TupleCall
import PySem.Challenge.RW_argosy_k37_whole_a_plan_done_in_a_yard
import KE.KIntText
import PyProof.StrWalks
import PyProof.MeetsStr
import PyProof.SliceStr2
import PyProof.EnumFor
import PyProof.EnumMake
import PyProof.Rows.SortWalk
import PyProof.RulesFinally
import KE.KTupSum
import PyProof.Rows.SumAny
import PyProof.MaxThree
import PyProof.AutoSeq1
import PyProof.Rows.TupDisplay
import KE.KTabLook
import KE.KDictSum
import PyProof.DictIter
import PyProof.DictWalks
import PyProof.Rows.EqDataRows
import KE.KRevIter
import PyProof.DictCompW
set_option Elab.async false
set_option linter.all false
set_option maxRecDepth 100000
set_option genSizeOf false
set_option compiler.extract_closed false
set_option bootstrap.genMatcherCode false
noncomputable section
def aa := @PySem.wpAny_bind
def ar := @List.length_map
def aN := @List.getElem?_eq_getElem
def aW := @PySem.Heap.get?_push_of_some
def aI := @List.getElem?_map
def ao := @PySem.wpAny_pure
def aG := @Nat.le_refl
def bF := @List.length_append
def cE := @List.mem_cons
def bV := @PySem.Heap.get?_push_size
def bg := @PySem.Heap.lt_size
def lN := @List.mem_singleton
def Qd := @List.mem_map
def cq := @Bool.false_ne_true
def av := @if_neg
def ck := @List.size_toArray
def iu := @List.mem_append
def dY := @List.getElem?_append_right
def cL := @Nat.lt_of_lt_of_le
def cm := @Option.some.inj
def bZ := @decide_eq_true
def eZ := @List.getElem?_append_left
def gk := @List.mem_filter
def cU := @PySem.wpAny_setState_of
def cz := @decide_eq_false
def aH := @if_pos
def bP := @Nat.ne_of_lt
def cM := @List.length_cons
def dE := @List.mem_of_getElem?
def cF := @List.map_append
def dZ := @List.mem_append_right
def d_ := @List.mem_cons_of_mem
def dQ := @decide_eq_true_iff
def dR := @List.mem_cons_self
def dk := @List.not_mem_nil
def cG := @List.map_cons
def b_ := @Nat.zero_le
def eN := @Nat.lt_of_le_of_lt
def gn := @List.take_of_length_le
def cN := @Nat.le_trans
def c_ := @PySem.wpAny_holding
def e9 := @List.length_take
def FW := @List.mem_range
def Qr := @List.getElem?_eq_some_iff
def gq := @Array.length_toList
def dh := @Nat.lt_or_ge
def eB := @PySem.Heap.size_push
def fN := @of_decide_eq_true
def fF := @Bool.and_eq_true
def cV := @PySem.wpAny_mono
def gS := @List.filter_append
def iQ := @List.getElem?_eq_none
def gr := @List.filter_cons
def lO := @List.nodup_cons
def kg := @List.getD_eq_getElem?_getD
def gT := @List.getElem_mem
def j6 := @List.length_filter_le
def iw := @PySem.wpAny_newObj_type
def gU := @PySem.PassesOwn.never
def gW := @List.append_nil
def gu := @List.take_succ
def ix := @PySem.wpAny_call_entry
def iz := @List.lookup_cons
def iR := @List.length_range
def j7 := @PySem.wpAny_setField_rec
def mU := @Array.getD_eq_getD_getElem?
def qS := @PyProof.Rows.F.plain_set_update_loop
def j8 := @PySem.wpAny_truthy_bool
def j9 := @PySem.Heap.SameBut.refl
def ki := @List.mem_append_left
def gv := @Nat.ne_of_gt
def kj := @List.map_congr_left
def ou := @PyProof.Rows.callWith_type1
def jx := @Nat.lt_succ_of_lt
def qT := @List.nodup_append
def gX := @List.map_map
def iS := @List.Perm.refl
def iA := @Bool.true_and
def jy := @List.take_length
def mV := @PySem.Heap.get?_update_other
def ox := @Array.getElem?_eq_getElem
def lP := @PySem.Heap.SameBut.update
def km := @List.append_assoc
def i8 := @PySem.wpAny_field
def oy := @PySem.wpAny_callSpecial?_slot
def eO := @or_false
def lQ := @PySem.fits_of_scanBound
def jz := @Bool.false_and
def mW := @List.flatten_append
def ko := @List.range_succ
def oz := @List.length_singleton
def i9 := @PySem.wpAny_rule
def gw := @PySem.wpAny_ite
def lT := @Nat.lt_succ_self
def lU := @List.length_drop
def jA := @Nat.lt_irrefl
def eG := @Iff.rfl
def ku := @PySem.wpAny_seqItems
def oA := @PySem.Around.under_plainId
def mX := @decide_eq_true_eq
def lV := @PySem.codeAny_builtin
def zH := @PyProof.Rows.F.entry_set_update_loop
def kz := @PySem.wpAny_standAt
def oB := @Option.toList_some
def uy := @List.length_eraseIdx_of_lt
def oC := @PySem.Calls.spliced_cons
def mY := @Nat.not_lt_zero
def oE := @PySem.wpAny_storeSet_of
def uz := @List.filterMap_cons_some
def uA := @List.filterMap_cons_none
def oF := @PySem.wpAny_askSetting
def uB := @decide_eq_false_iff_not
def mZ := @List.nodup_nil
def zI := @List.all_eq_true
def qU := @PySem.wpAny_Call_Name_kw
def lW := @PySem.codeAny_mono
def qV := @Bool.false_eq_true
def oG := @PySem.wpAny_passesOwn
def oH := @List.find?_cons
def zJ := @List.countP_eq_length_filter
def Qs := @List.mem_iff_getElem
def oI := @PyProof.Rows.IntsAre.length
def zK := @PySem.F.slot_tuple_iterator_next
def jB := @PySem.W.kia_one
def uC := @List.getElem?_range
def qW := @Nat.min_eq_left
def uD := @PySem.wpAny_pyIter_tuple
def uE := @PySem.tupleKind_room_in1
def uF := @List.getElem?_drop
def FX := @List.find?_eq_none
def m_ := @PySem.sizeLine_eq
def n0 := @Nat.le_succ
def Qt := @List.length_eq_zero_iff
def zL := @List.getElem?_replicate
def uG := @PySem.wpAny_pyIter_list
def uH := @not_false_eq_true
def oJ := @Nat.lt_trans
def zM := @PySem.Calls.callWith_builtin
def zN := @Array.getElem?_eq_none
def zO := @PySem.Heap.get?_update_self
def zP := @Array.getElem?_toList
def uI := @PySem.wpAny_isInstance
def Qu := @List.mem_flatten
def qX := @List.any_cons
def qY := @List.all_cons
def kA := @if_false
def zQ := @PySem.Calls.evalArgs_plain
def FY := @PySem.F.slot_dict_setdefault
def uJ := @List.forIn_cons
def uK := @Int.emod_nonneg
def zR := @Bool.eq_iff_iff
def zS := @List.length_flatten
def jC := @if_true
def qZ := @PySem.call_meetsIn
def q_ := @Nat.add_comm
def r8 := @List.all_map
def zT := @Nat.eq_zero_or_pos
def uL := @List.take_zero
def FZ := @List.pairwise_cons
def zU := @Int.emod_lt_of_pos
def Qv := @List.pairwise_iff_getElem
def F_ := @List.getLast?_eq_getElem?
def zV := @List.flatten_cons
def zW := @PySem.Calls.spliced_nil
def zX := @Bool.not_eq_true'
def Qe := @Bool.eq_false_iff
def G0 := @PySem.wpAny_comprehension_free
def uM := @PySem.plainId_quiet
def uN := @List.sum_cons
def zY := @PySem.wpAny_pyIter_zip
def zZ := @beq_self_eq_true
def G4 := @PySem.F.plainAttrs_list
def G5 := @PySem.F.plainAttrs_dict
def Qw := @List.mem_flatMap
def z_ := @List.flatten_nil
def A0 := @List.cons_append
def G6 := @PySem.wpAny_pyNext_list_item
def jD := @not_or
def rh := @PySem.intKind_is
def G7 := @Option.map_eq_none_iff
def uO := @Nat.le_of_lt
def uP := @Nat.le_of_eq
def uQ := @Int.zero_add
def A1 := @PySem.wpAny_specialOf
def A2 := @PySem.wpAny_execs_nil
def A3 := @PyProof.Rows.get?_update_seq
def A4 := @PySem.codeAny_of_tree
def A5 := @Option.map_some
def A6 := @PySem.F.slot_zip_next
def G8 := @PySem.wpAny_pyNext_list_end
def G9 := @PySem.builtinLookup_eq_fast
def Ga := @PySem.F.slot_dict_pop
def Gb := @PySem.F.slot_dict_get
def Gc := @List.take_append_drop
def Qx := @List.pairwise_flatten
def Gd := @List.length_replicate
def Ge := @PySem.wpAny_updateSeq_pair
def A7 := @PySem.isSubtype_type
def A8 := @PySem.entryFor_alias
def Gf := @List.mem_of_mem_take
def A9 := @List.forIn_nil
def Aa := @List.drop_zero
def Gg := @List.Pairwise.filter
def Ab := @Array.size_map
def Qy := @List.length_pos_iff
def Gh := @List.getElem_of_mem
def Gi := @List.flatMap_append
def Gj := @List.filterMap_cons
def Ac := @PySem.wpAny_onRaise
def Gk := @PyProof.Rows.assignInOrder_cons
def Gm := @Array.forIn_toList
namespace L2
open PySem PySem.Spec PyProof.Rows
abbrev aT:=Sum Int Str
noncomputable def jG:aT->Value->Bool
 |.inl k,v=>Value.isInt k v
 |.inr x,v=>Value.isStrOf x v
noncomputable def Gr(w:World):aT->Int
 |.inl k=>hashInt k
 |.inr x=>hashStr w x
theorem jH:∀{k:aT} {v:Value},jG k v=true->(∃i t,k=Sum.inl i/\v=Value.int i t)\/(∃x t,k=Sum.inr x/\v=Value.str x t)
 |.inl i,v,h=>by
  obtain⟨t,e⟩:=Value.isInt_shape (k:=i) (v:=v) h
  exact .inl ⟨i,t,rfl,e⟩
 |.inr x,v,h=>by
  obtain⟨t,e⟩:=Value.isStrOf_shape (x:=x) (v:=v) h
  exact .inr ⟨x,t,rfl,e⟩
theorem Gs(i:Int)(t:Tok):jG (.inl i) (.int i t)=true:=by simp[jG,Value.isInt]
theorem Gu(x:Str)(t:Tok):jG (.inr x) (.str x t)=true:=by simp[jG,Value.isStrOf]
theorem Gv(a b:Int):decide ((Sum.inl a:aT)=Sum.inl b)=(a==b):=by
 by_cases e:a=b
 ·subst e;simp
 ·have h:¬(Sum.inl a:aT)=Sum.inl b:=fun q=>e (Sum.inl.inj q)
  rw[cz h]
  exact(beq_eq_false_iff_ne.mpr e).symm
theorem Gw(a b:Str):decide ((Sum.inr a:aT)=Sum.inr b)=decide (a=b):=by
 by_cases e:a=b
 ·subst e;simp
 ·have h:¬(Sum.inr a:aT)=Sum.inr b:=fun q=>e (Sum.inr.inj q)
  rw[cz h,cz e]
theorem Gx(a:Int)(b:Str):decide ((Sum.inl a:aT)=Sum.inr b)=false:=cz (fun q=>nomatch q)
theorem Gy(a:Str)(b:Int):decide ((Sum.inr a:aT)=Sum.inl b)=false:=cz (fun q=>nomatch q)
noncomputable def dW(prog:Program)(w:World):PySem.KeyKind prog w aT where
 is:=jG
 hash:=Gr w
 inj:=fun v a b ha hb=>by
  rcases jH ha with⟨i,t,rfl,rfl⟩|⟨x,t,rfl,rfl⟩
  ·rcases jH hb with⟨j,u,rfl,e⟩|⟨y,u,rfl,e⟩
   ·injection e with e1 _;rw[e1]
   ·exact nomatch e
  ·rcases jH hb with⟨j,u,rfl,e⟩|⟨y,u,rfl,e⟩
   ·exact nomatch e
   ·injection e with e1 _;rw[e1]
 byValue:=fun k v h=>by
  rcases jH h with⟨i,t,rfl,rfl⟩|⟨x,t,rfl,rfl⟩<;>rfl
 pyHash:=fun hv h=>by
  rcases jH hv with⟨i,t,rfl,rfl⟩|⟨x,t,rfl,rfl⟩
  ·exact wpAny_pyHash_int h
  ·exact wpAny_pyHash_str h
 eqBool:=fun hu hv h=>by
  rcases jH hu with⟨i,t,rfl,rfl⟩|⟨x,t,rfl,rfl⟩
  ·rcases jH hv with⟨j,u,rfl,rfl⟩|⟨y,u,rfl,rfl⟩
   ·rw[Gv]at h;exact wpAny_eqBool_int h
   ·rw[Gx]at h;exact SeqAt.EqAt.int_str i t y u _ _ _ _ h
  ·rcases jH hv with⟨j,u,rfl,rfl⟩|⟨y,u,rfl,rfl⟩
   ·rw[Gy]at h;exact SeqAt.EqAt.str_int x t j u _ _ _ _ h
   ·rw[Gw]at h;exact wpAny_eqBool_str h
 «strs»:=fun k x t v h=>by
  rcases jH h with⟨i,u,rfl,e⟩|⟨y,u,rfl,e⟩
  ·exact nomatch e
  ·injection e with e1 _
   subst e1
   cases v<;>rfl
theorem Gz(prog:Program)(w:World)(k:aT)(v:Value):(dW prog w).is k v=jG k v:=rfl
theorem GA(prog:Program)(w:World)(i:Int)(t:Tok):(dW prog w).is (.inl i) (.int i t)=true:=Gs i t
theorem GB(prog:Program)(w:World)(x:Str)(t:Tok):(dW prog w).is (.inr x) (.str x t)=true:=Gu x t
inductive V where
 |non|bl (b:Bool)|int (i:Int)|str (x:Str)|byt (b:Array UInt8)|flt (b:UInt64)|ref (a:Addr)|ty (n:String)
 deriving DecidableEq
noncomputable def aO:V->Value->Prop
 |.non,u=>u=Value.none
 |.bl b,u=>u=Value.bool b
 |.int i,u=>∃t,u=Value.int i t
 |.str x,u=>∃t,u=Value.str x t
 |.byt b,u=>∃t,u=Value.bytes b t
 |.flt b,u=>∃t,u=Value.float b t
 |.ref a,u=>u=Value.ref a
 |.ty n,u=>u=Value.type n
abbrev aP:List V->List Value->Prop:=Paired aO
theorem aP.length{xs:List V}{us:List Value}(r:aP xs us):xs.length=us.length:=Paired.length r
theorem aP.get:∀{xs:List V} {us:List Value} {i:Nat} {x:V},aP xs us->xs[i]?=some x->∃u,us[i]?=some u/\aO x u
 |_,_,_,_,.nil,e=>by simp at e
 |_,_,0,_,.cons r _,e=>by simp at e;subst e;exact⟨_,rfl,r⟩
 |_,_,i+1,x,.cons _ t,e=>by
  obtain⟨u,h1,h2⟩:=aP.get (i:=i) (x:=x) t (by simpa using e)
  exact⟨u,by simpa using h1,h2⟩
theorem aP.set{x:V}{u:Value}(r:aO x u):∀{xs:List V} {us:List Value} (i:Nat),aP xs us->aP (xs.set i x) (us.set i u)
 |_,_,_,.nil=>.nil
 |_,_,0,.cons _ t=>.cons r t
 |_,_,i+1,.cons q t=>.cons q (aP.set r i t)
theorem aP.append:∀{xs ys:List V} {us ws:List Value},aP xs us->aP ys ws->aP (xs++ys) (us++ws)
 |_,_,_,_,.nil,s=>s
 |_,_,_,_,.cons r t,s=>.cons r (aP.append t s)
theorem aP.take:∀{xs:List V} {us:List Value} (n:Nat),aP xs us->aP (xs.take n) (us.take n)
 |_,_,0,_=>.nil
 |_,_,_+1,.nil=>.nil
 |_,_,n+1,.cons r t=>.cons r (aP.take n t)
theorem aP.drop:∀{xs:List V} {us:List Value} (n:Nat),aP xs us->aP (xs.drop n) (us.drop n)
 |_,_,0,r=>r
 |_,_,_+1,.nil=>.nil
 |_,_,n+1,.cons _ t=>aP.drop n t
noncomputable def eI:Option V->Option Value->Prop
 |some v,some u=>aO v u
 |none,none=>True
 |_,_=>False
noncomputable def KV{κ:Type}:List (κ×V)->List (κ×Value)->Prop:=Paired fun(p:κ×V) (q:κ×Value)=>p.1=q.1/\aO p.2 q.2
noncomputable def kV:aT->V
 |.inl i=>.int i
 |.inr x=>.str x
set_option genInjectivity false in
inductive HO where
 |lst (xs:List V)
 |tup (xs:List V)
 |dK (ae:List (aT×V))|dT (ae:List (List aT×V))
 |set (S:Int->Bool) (n:Nat)
 |ins (C dx:Addr) (fs:List (Str×V))
 |own (x:Addr)
 |xd (fs:List (Str×V))
 |met (f x:Addr)
 |rng (lo hi:Int)
 |frz (o:Obj) (u:HO)
 |tbl (ps:Array Value)
 |ext (φ:Heap->Prop)
abbrev Hp:=Addr->Option HO
noncomputable def ab(H:Hp)(a:Addr)(o:HO):Hp:=fun b=>if b=a then some o else H b
theorem aq{H:Hp}{a:Addr}{o:HO}:ab H a o a=some o:=by unfold ab;rw[aH rfl]
theorem az{H:Hp}{a b:Addr}{o:HO}(h:b≠a):ab H a o b=H b:=by unfold ab;rw[av h]
theorem uW{H:Hp}{a:Addr}{o u:HO}:ab (ab H a o) a u=ab H a u:=by
 funext b;unfold ab;split<;>rfl
theorem bB{H:Hp}{a b:Addr}{o u:HO}(h:H a=some o)(h':H b=some u)(d:o≠u):a≠b:=by
 intro e;subst e;rw[h]at h';exact d (cm h')
theorem bh{H:Hp}{a b:Addr}{o:HO}(h:H a=some o)(h':H b=none):a≠b:=by
 intro e;subst e;rw[h]at h';cases h'
section
variable(P:Program)(w:World)
noncomputable def cu(H:Hp)(h:Heap)(a:Addr):HO->Prop
 |.lst xs=>xs.length<=sizeLine/\∃(ak:List Value) (n:Nat),aP xs ak/\h.get? a=some {cls:=.type "list",data:=.seq ak.toArray n}
 |.tup xs=>xs.length<=sizeLine/\∃ak:List Value,aP xs ak/\IsTup h a ak.toArray
 |.dK ae=>ae.length<=sizeLine/\(a==sysModules)=false/\∃vs,KV ae vs/\h.DictOf (dW P w) a vs
 |.dT ae=>ae.length<=sizeLine/\(a==sysModules)=false/\∃xs:List (List aT×Addr×Value),
   Paired (fun(p:List aT×V) (q:List aT×Addr×Value)=>p.1=q.1/\H q.2.1=some (.tup (p.1.map kV))/\aO p.2 q.2.2) ae xs/\
   ∃o es ep,h.get? a=some o/\o.ExactDict/\o.data=.dict es ep/\es.toList=xs.map (entryOfKey (tupleKind (dW P w)))/\(xs.map (·.1)).Nodup
 |.set S n=>h.SetOf (intKind P w) a S n
 |.ins C dx fs=>H dx=some (.own a)/\fs.length<=1000/\dx≠a/\h.get? a=some (W.instObj C dx)/\
   ∃mA,h.Ns1 dx mA/\(∀f,eI (fs.lookup f) (mA f))/\PySem.Within mA (fs.map (·.1))
 |.own _=>∃o,h.get? a=some o
 |.xd fs=>∃mA,h.Ns1 a mA/\∀f,eI (fs.lookup f) (mA f)
 |.rng lo hi=>∃t u v,h.get? a=some {cls:=.type "range",data:=.fields #[.int lo t,.int hi u,.int 1 v]}
 |.frz o u=>h.get? a=some o/\cu H h a u
 |.tbl ps=>h.get? a=some {cls:=.none,data:=.fields ps}
 |.met f x=>h.get? a=some (W.methodObj (.ref f) (.ref x))
 |.ext φ=>φ h/\(∃o,h.get? a=some o)/\∀h1 h2:Heap,φ h1->(∀o,h1.get? a=some o->h2.get? a=some o)->φ h2
noncomputable def cA(H:Hp)(h:Heap):Prop:=∀a o,H a=some o->cu P w H h a o
end
section
variable{P:Program}{w:World}{H H':Hp}{h h':Heap}{a:Addr}{o:HO}
theorem cu.lt(x:cu P w H h a o):a<h.objs.size:=by
 cases o with
 |lst xs=>obtain⟨_,_,_,_,e⟩:=x;exact bg e
 |tup xs=>obtain⟨_,_,_,p⟩:=x;exact p.lt
 |dK ae=>obtain⟨_,_,_,_,o,_,_,e,_⟩:=x;exact bg e
 |dT ae=>obtain⟨_,_,_,_,o,_,_,e,_⟩:=x;exact bg e
 |set S n=>obtain⟨o,_,_,_,e,_⟩:=x;exact bg e
 |ins C dx fs=>obtain⟨_,_,_,e,_⟩:=x;exact bg e
 |own y=>obtain⟨_,e⟩:=x;exact bg e
 |xd fs=>obtain⟨_,⟨_,_,_,e,_⟩,_⟩:=x;exact bg e
 |rng lo hi=>obtain⟨_,_,_,e⟩:=x;exact bg e
 |frz ob u=>obtain⟨e,_⟩:=x;exact bg e
 |tbl ps=>exact bg (show h.get? a=some _ from x)
 |met f y=>exact bg (show h.get? a=some _ from x)
 |ext φ=>obtain⟨_,⟨_,e⟩,_⟩:=x;exact bg e
theorem Paired.mapP{α β:Type}{F G:α->β->Prop}:∀{l₁:List α} {l₂:List β},Paired F l₁ l₂->(∀a b,F a b->G a b)->Paired G l₁ l₂
 |_,_,.nil,_=>.nil
 |_,_,.cons r t,f=>.cons (f _ _ r) (Paired.mapP t f)
theorem cu.stay(x:cu P w H h a o)(k:∀b u,(b=a\/H b=some (.own a))->h.get? b=some u->h'.get? b=some u)
  (ho:∀b,H b=some (.own a)->H' b=some (.own a)) (ht:∀b xs,H b=some (.tup xs)->H' b=some (.tup xs)):cu P w H' h' a o:=by
 induction o with
 |lst xs=>obtain⟨z,ak,n,r,e⟩:=x;exact⟨z,ak,n,r,k _ _ (.inl rfl) e⟩
 |tup xs=>obtain⟨z,ak,r,ob,e,c⟩:=x;exact⟨z,ak,r,ob,k _ _ (.inl rfl) e,c⟩
 |dK ae=>obtain⟨z,y,vs,r,ob,es,ep,e,c⟩:=x;exact⟨z,y,vs,r,ob,es,ep,k _ _ (.inl rfl) e,c⟩
 |dT ae=>
  obtain⟨z,y,xs,r,ob,es,ep,e,c⟩:=x
  exact⟨z,y,xs,Paired.mapP r fun p q z=>⟨z.1,ht _ _ z.2.1,z.2.2⟩,ob,es,ep,k _ _ (.inl rfl) e,c⟩
 |set S n=>obtain⟨ob,es,ep,t,e,c⟩:=x;exact⟨ob,es,ep,t,k _ _ (.inl rfl) e,c⟩
 |ins C dx fs=>
  obtain⟨d,z,ne,e,mA,⟨od,es,ep,e2,c⟩,r⟩:=x
  exact⟨ho _ d,z,ne,k _ _ (.inl rfl) e,mA,⟨od,es,ep,k _ _ (.inr d) e2,c⟩,r⟩
 |own y=>obtain⟨ob,e⟩:=x;exact⟨ob,k _ _ (.inl rfl) e⟩
 |xd fs=>obtain⟨mA,⟨od,es,ep,e,c⟩,r⟩:=x;exact⟨mA,⟨od,es,ep,k _ _ (.inl rfl) e,c⟩,r⟩
 |rng lo hi=>obtain⟨t,u,v,e⟩:=x;exact⟨t,u,v,k _ _ (.inl rfl) e⟩
 |frz ob u ih=>obtain⟨e,q⟩:=x;exact⟨k _ _ (.inl rfl) e,ih q⟩
 |tbl ps=>
  have e:h.get? a=some {cls:=.none,data:=.fields ps}:=x
  show h'.get? a=some {cls:=.none,data:=.fields ps}
  exact k a _ (.inl rfl) e
 |met f y=>
  have e:h.get? a=some (W.methodObj (.ref f) (.ref y)):=x
  show h'.get? a=some (W.methodObj (.ref f) (.ref y))
  exact k a _ (.inl rfl) e
 |ext φ=>obtain⟨p,⟨o,e⟩,st⟩:=x;exact⟨st _ _ p fun o q=>k _ _ (.inl rfl) q,⟨o,k _ _ (.inl rfl) e⟩,st⟩
theorem cA.lt(x:cA P w H h)(e:H a=some o):a<h.objs.size:=(x a o e).lt
theorem cA.fresh(x:cA P w H h)(e:h.objs.size<=a):H a=none:=by
 cases q:H a with
 |none=>rfl
 |some u=>exact absurd (cL (x.lt q) e) (jA _)
theorem cA.kept(x:cA P w H h)(k:∀b u,h.get? b=some u->h'.get? b=some u):cA P w H h':=fun a o e=>
 (x a o e).stay (fun b u _ q=>k b u q) (fun _ q=>q) fun _ _ q=>q
theorem cA.laid(x:cA P w H h)(k:∀b u,h.get? b=some u->h'.get? b=some u)(hp:h.objs.size<=a)(new:cu P w (ab H a o) h' a o):cA P w (ab H a o) h':=fun b u e=>by
 have hn:=x.fresh hp
 by_cases hb:b=a
 ·subst hb;rw[aq]at e;cases e;exact new
 ·rw[az hb]at e
  exact(x b u e).stay (fun c v _ q=>k c v q) (fun c q=>by rw[az (bh q hn)];exact q) fun c xs q=>by rw[az (bh q hn)];exact q
end
noncomputable def Rd(H:Hp)(a:Addr)(u:HO):Prop:=H a=some u\/∃o,H a=some (.frz o u)
theorem Rd.of{H:Hp}{a:Addr}{u:HO}(h:H a=some u):Rd H a u:=.inl h
theorem Rd.ok{P:Program}{w:World}{H:Hp}{h:Heap}{a:Addr}{u:HO}(r:Rd H a u)(x:cA P w H h):cu P w H h a u:=by
 rcases r with r|⟨o,r⟩
 ·exact x a u r
 ·obtain⟨_,q⟩:=x a _ r
  exact q
noncomputable def o_:Option HO->Prop
 |some (.lst _)=>True
 |some (.dK _)=>True
 |some (.dT _)=>True
 |some (.set _ _)=>True
 |some (.ins _ _ _)=>True
 |some (.ext _)=>True
 |_=>False
section
variable{P:Program}{w:World}{H:Hp}{h h':Heap}{x e:Addr}{o':HO}
theorem cA.write(ok:cA P w H h)(mu:o_ (H x))(he:e=x\/H e=some (.own x))(k:∀b u,b≠e->h.get? b=some u->h'.get? b=some u)(heo:∃u,h'.get? e=some u)
  (new:cu P w (ab H x o') h' x o'):cA P w (ab H x o') h':=fun b u q=>by
 have nown:∀c y,H c=some (.own y)->c≠x:=fun c y r z=>by subst z;rw[r]at mu;exact mu
 have ntup:∀c xs,H c=some (.tup xs)->c≠x:=fun c xs r z=>by subst z;rw[r]at mu;exact mu
 by_cases hb:b=x
 ·subst hb;rw[aq]at q;cases q;exact new
 ·rw[az hb]at q
  by_cases hbe:b=e
  ·have q':H b=some (.own x):=by
    rcases he with z|z
    ·exact absurd (hbe.trans z) hb
    ·rw[hbe];exact z
   rw[q]at q';cases q'
   obtain⟨v,hv⟩:=heo
   exact⟨v,by rw[hbe];exact hv⟩
  ·refine(ok b u q).stay (fun c v hc r=>k c v ?_ r) (fun c r=>by rw[az (nown c b r)];exact r) fun c xs r=>by rw[az (ntup c xs r)];exact r
   rcases hc with rfl|hc
   ·exact hbe
   ·rintro rfl
    rcases he with z|z
    ·exact nown c b hc z
    ·rw[hc]at z;cases z;exact hb rfl
end
structure Un(fs ex:List Addr)(H H':Hp)(h h':Heap):Prop where
 keep:∀b o,h.get? b=some o->H b=none->b∉fs->b∉ex->h'.get? b=some o
 slot:∀b o,h.get? b=some o->H b=none->b∈fs->b∉ex->∃sl,h'.get? b=some {o with slots:=sl}
 free:∀b o,h.get? b=some o->H b=none->b∉ex->H' b=none
 there:∀b o,h.get? b=some o->b∉ex->∃o',h'.get? b=some o'
 tups:∀b xs,H b=some (.tup xs)->H' b=some (.tup xs)
 frzs:∀b o u,H b=some (.frz o u)->H' b=some (.frz o u)
 tbls:∀b ps,H b=some (.tbl ps)->∃more,H' b=some (.tbl (ps++more))
section
variable{fs fs' ex ex':List Addr}{H H1 H2:Hp}{h h1 h2 h':Heap}{a x e:Addr}{o:HO}
theorem Un.any(u:Un fs ex H H1 h h1){b:Addr}{ob:Obj}(q:h.get? b=some ob)(n:H b=none)(hx:b∉ex):∃sl,h1.get? b=some {ob with slots:=sl}:=by
 by_cases hb:b∈fs
 ·exact u.slot b ob q n hb hx
 ·exact⟨ob.slots,u.keep b ob q n hb hx⟩
theorem Un.kept(k:∀b u,h.get? b=some u->h'.get? b=some u):Un fs ex H H h h':=
 ⟨fun b ob q _ _ _=>k b ob q,fun b ob q _ _ _=>⟨ob.slots,k b ob q⟩,fun _ _ _ n _=>n,fun b ob q _=>⟨ob,k b ob q⟩,fun _ _ q=>q,fun _ _ _ q=>q,fun _ ps q=>⟨#[],by rw[q];simp⟩⟩
theorem Un.refl:Un fs ex H H h h:=Un.kept fun _ _ q=>q
theorem Un.laid(k:∀b u,h.get? b=some u->h'.get? b=some u)(hp:h.objs.size<=a)(hn:H a=none):Un fs ex H (ab H a o) h h' where
 keep:=fun b u q _ _ _=>k b u q
 slot:=fun b u q _ _ _=>⟨u.slots,k b u q⟩
 free:=fun b u q n _=>by rw[az (bP (cL (bg q) hp))];exact n
 there:=fun b u q _=>⟨u,k b u q⟩
 tups:=fun b xs q=>by rw[az (bh q hn)];exact q
 frzs:=fun b u xs q=>by rw[az (bh q hn)];exact q
 tbls:=fun b ps q=>⟨#[],by rw[az (bh q hn),q];simp⟩
theorem Un.write(mu:o_ (H x))(he:e=x\/H e=some (.own x))(k:∀b u,b≠e->h.get? b=some u->h'.get? b=some u)(heo:∃u,h'.get? e=some u):Un fs ex H (ab H x o) h h':=by
 have hx:∀b,H b=none->b≠x:=fun b n z=>by subst z;rw[n]at mu;exact mu
 have hb:∀b,H b=none->b≠e:=fun b n z=>by
  subst z
  rcases he with r|r
  ·exact hx b n r
  ·rw[n]at r;cases r
 have hm:∀b u,H b=some u->¬o_ (some u)->b≠x:=fun b u q nm z=>by subst z;rw[q]at mu;exact nm mu
 refine⟨fun b u q n _ _=>k b u (hb b n) q,fun b u q n _ _=>⟨u.slots,k b u (hb b n) q⟩,fun b u q n _=>by rw[az (hx b n)];exact n,fun b u q _=>?_,
  fun b xs q=>by rw[az (hm b _ q fun z=>z)];exact q,fun b u xs q=>by rw[az (hm b _ q fun z=>z)];exact q,fun b ps q=>⟨#[],by rw[az (hm b _ q fun z=>z),q];simp⟩⟩
 by_cases hbe:b=e
 ·subst hbe;exact heo
 ·exact⟨u,k b u hbe q⟩
end
noncomputable def rj(h:Heap)(H:Hp):List Addr:=(List.range h.objs.size).filter fun a=>(H a).isSome
noncomputable def jI(h:Heap)(H:Hp):Heap:=W.hideAll h (rj h H)
theorem GC(h:Heap)(H:Hp):(jI h H).objs.size=h.objs.size:=W.hideAll_size _ _
theorem GD{h:Heap}{H:Hp}{b:Addr}{o:Obj}(e:h.get? b=some o)(n:H b=none):(jI h H).get? b=some o:=
 W.hideAll_get _ e fun hm=>by
  have q:(H b).isSome=true:=(gk.mp hm).2
  rw[n]at q;simp at q
theorem GE{h:Heap}{H:Hp}{b:Addr}{o:Obj}(e:(jI h H).get? b=some o):h.get? b=some o/\H b=none:=by
 have e':h.get? b=some o:=W.of_hideAll (rj h H) e
 refine⟨e',?_⟩
 cases q:H b with
 |none=>rfl
 |some x=>
  have hm:b∈rj h H:=gk.mpr ⟨FW.mpr (bg e'),by simp[q]⟩
  have z:(jI h H).get? b=none:=W.hideAll_none (rj h H) hm
  rw[z]at e;cases e
structure Mod(K:W.Frag)(mg:Str->Option Value)(base:Heap):Prop where
 kin:K.In base
 glob:base.Ns mainGlobals mg
 blt:∃mb,base.Ns builtinsNs mb/\∀x:Str,x≠"__name__"->mb x=bootBuiltins x
 nolimit:base.NoLimit
set_option genInjectivity false in
structure Cx where
 prog:Program
 w:World
 K:W.Frag
 mg:Str->Option Value
 base:Heap
 A:Around
 N:List Str
 s₀:Shared
 H₀:Hp
 env:Env
 outer:List Env
 stack:List Env
 ex:List Addr
 fn:Str->Bool
 calm:Bool
 pn:List (Addr×Obj)
 xe:Value->Shared->Prop
noncomputable def gy(l:List Env):List Addr:=l.filterMap (·.frame)
abbrev Cx.fs(X:Cx):List Addr:=gy X.outer
noncomputable def rk(sc:Scope)(x:Str):Prop:=sc.names.lookup x=some .local \/sc.names.lookup x=some .cell\/sc.names.lookup x=some .free
noncomputable def p6(sc:Scope)(x:Str):Prop:=sc.names.lookup x=some .local \/sc.names.lookup x=some .cell
noncomputable def GF(env:Env)(h:Heap)(m:Str->Option Value)(x:Str)(u:Value):Prop:=
 (env.kindOf x=some .local /\m x=some u)\/((env.kindOf x=some .cell\/env.kindOf x=some .free)/\∃c,env.cells.lookup x=some c/\h.IsCell c (some u))
structure Cx.Ok(X:Cx):Prop where
 mod:Mod X.K X.mg X.base
 kind:X.env.scope.kind=.function
 glob:X.env.globals=mainGlobals
 blt:X.env.builtins=builtinsNs
 above:X.s₀.heap.objs.size<=X.env.locals
 inj:∀x y c,X.env.cells.lookup x=some c->X.env.cells.lookup y=some c->x=y
 has:∀x,(X.env.kindOf x=some .cell\/X.env.kindOf x=some .free)->∃c,X.env.cells.lookup x=some c
 cab:∀x c,X.fn x=true->X.env.cells.lookup x=some c->X.s₀.heap.objs.size<=c
 hd:X.calm=true->X.A.handled=none
 frames:X.A.frames=some X.stack
 stk:X.stack=X.outer\/(X.stack=X.env::X.outer/\X.env.frame=some X.env.locals)
 exf:∀b∈X.ex,b≠X.env.locals/\∀x c,X.env.cells.lookup x=some c->c≠b
 bs:∀b o,X.base.get? b=some o->X.s₀.heap.get? b=some o/\X.H₀ b=none
 bsz:X.base.objs.size<=X.s₀.heap.objs.size
 noex:∀b o,X.base.get? b=some o->b∉X.ex
 exfs:∀b∈X.ex,b∉X.fs
 funs:X.s₀.heap.FunFrames X.base X.outer
 frf:∀b∈X.fs,X.H₀ b=none
structure ah(X:Cx)(a8:List (Addr×Obj))(σ:List (Option V))(H:Hp)(s:Shared):Prop where
 ok:X.Ok
 os:s.os=X.s₀.os
 bare:AllBare s.gens
 base:Un X.fs X.ex X.H₀ H X.s₀.heap s.heap
 loc:∃m,s.heap.Ns X.env.locals m/\∀(i:Nat) (x:Str) (v:V),X.N[i]?=some x->σ[i]?=some (some v)->rk X.env.scope x->∃u,aO v u/\GF X.env s.heap m x u
 cell:∀x c,X.env.cells.lookup x=some c->∃v,s.heap.IsCell c v
 free:H X.env.locals=none
 freeC:∀x c,X.env.cells.lookup x=some c->H c=none
 pin:∀p∈X.pn++a8,s.heap.get? p.1=some p.2/\H p.1=none/\p.1≠X.env.locals/\p.1∉X.fs/\∀v,p.2.data≠ .cell v
 hok:cA X.prog X.w H s.heap
 len:σ.length=X.N.length
section
variable{X:Cx}{a8:List (Addr×Obj)}{σ:List (Option V)}{H H':Hp}{s:Shared}{h':Heap}
theorem Cx.Ok.nofr(ok:X.Ok){b:Addr}{o:Obj}(e:X.base.get? b=some o):b∉X.fs:=fun hb=>by
 have:=(ok.funs.mem hb).1
 rw[e]at this;cases this
theorem ah.bs(I:ah X a8 σ H s):∀b o,X.base.get? b=some o->s.heap.get? b=some o/\H b=none:=fun b o e=>
 ⟨I.base.keep b o (I.ok.bs b o e).1 (I.ok.bs b o e).2 (I.ok.nofr e) (I.ok.noex b o e),I.base.free b o (I.ok.bs b o e).1 (I.ok.bs b o e).2 (I.ok.noex b o e)⟩
theorem ah.bk(I:ah X a8 σ H s):∀b o,X.base.get? b=some o->s.heap.get? b=some o:=fun b o e=>(I.bs b o e).1
theorem ah.mod(I:ah X a8 σ H s):Mod X.K X.mg X.base:=I.ok.mod
theorem ah.kIn(I:ah X a8 σ H s):X.K.In s.heap:=I.ok.mod.kin.keeps I.bk
theorem ah.lt(I:ah X a8 σ H s):X.env.locals<s.heap.objs.size:=let⟨_,hn,_⟩:=I.loc;hn.lt
theorem ah.sz(I:ah X a8 σ H s):X.s₀.heap.objs.size<=s.heap.objs.size:=cN I.ok.above (uO I.lt)
theorem ah.nofs(I:ah X a8 σ H s){a:Addr}(h:s.heap.objs.size<=a):a∉X.fs:=fun hb=>by
 obtain⟨_,o,ho,_⟩:=I.ok.funs.mem hb
 exact absurd (cL (bg ho) (cN I.sz h)) (jA _)
theorem ah.cne(I:ah X a8 σ H s):∀x c,X.env.cells.lookup x=some c->c≠X.env.locals:=fun x c e z=>by
 obtain⟨v,o,ho,hd⟩:=I.cell x c e
 obtain⟨m,⟨o',es,ep,ho',hd',_⟩,_⟩:=I.loc
 rw[z,ho']at ho;cases ho;rw[hd']at hd;cases hd
theorem ah.funs(I:ah X a8 σ H s):s.heap.FunFrames X.base X.outer:=by
 have all:∀(l:List Env),(∀b∈gy l,b∈X.fs)->X.s₀.heap.FunFrames X.base l->s.heap.FunFrames X.base l:=by
  intro l
  induction l with
  |nil=>intro _ _;trivial
  |cons env r ih=>
   intro hs hl
   obtain⟨hk,⟨L,o,hf,hn,ho,hd⟩,hr⟩:=hl
   have hL:L∈X.fs:=hs L (by unfold gy;rw[Gj,hf];exact dR)
   obtain⟨sl,e⟩:=I.base.slot L o ho (I.ok.frf L hL) hL fun z=>I.ok.exfs L z hL
   exact⟨hk,⟨L,_,hf,hn,e,hd⟩,ih (fun b hb=>hs b (by unfold gy;rw[Gj,hf];exact d_ _ hb)) hr⟩
 exact all X.outer (fun _ hb=>hb) I.ok.funs
theorem ah.stack(I:ah X a8 σ H s):s.heap.FunFrames X.base X.stack:=by
 rcases I.ok.stk with e|⟨e,hf⟩
 ·rw[e];exact I.funs
 ·rw[e]
  obtain⟨m,hn,_⟩:=I.loc
  refine .cons (by rw[I.ok.kind];decide) hf hn ?_ I.funs
  exact Heap.get?_none_of_le (cN I.ok.bsz I.ok.above)
theorem ah.stkSub(I:ah X a8 σ H s):∀b∈gy X.stack,b∈X.env.locals::X.fs:=fun b hb=>by
 rcases I.ok.stk with e|⟨e,hf⟩
 ·rw[e]at hb;exact d_ _ hb
 ·rw[e]at hb
  unfold gy at hb
  rw[Gj,hf]at hb
  exact hb
theorem ah.stkFree(I:ah X a8 σ H s):∀b∈gy X.stack,H b=none:=fun b hb=>by
 rcases cE.mp (I.stkSub b hb)with e|hb
 ·rw[e];exact I.free
 ·obtain⟨_,o,ho,_⟩:=I.ok.funs.mem hb
  exact I.base.free b o ho (I.ok.frf b hb) fun z=>I.ok.exfs b z hb
theorem ah.step{g':Array GenState}{t':Nat}{d':Drawn}{ch:List Addr}(I:ah X a8 σ H s)
  (hch:∀b∈ch,(b∈X.ex\/X.s₀.heap.objs.size<=b)/\b≠X.env.locals/\(∀x c,X.env.cells.lookup x=some c->c≠b)/\∀p∈X.pn++a8,p.1≠b)
  (keep:∀b o,b≠X.env.locals->b∉X.fs->b∉ch->s.heap.get? b=some o->H b=none->h'.get? b=some o)
  (slot:∀b o,b≠X.env.locals->b∈X.fs->b∉ch->s.heap.get? b=some o->H b=none->∃sl,h'.get? b=some {o with slots:=sl}) (free:∀b o,b∉ch->s.heap.get? b=some o->H b=none->H' b=none)
  (there:∀b o,b∉ch->s.heap.get? b=some o->∃o',h'.get? b=some o')
  (tups:∀b xs,H b=some (.tup xs)->H' b=some (.tup xs)) (frzs:∀b o u,H b=some (.frz o u)->H' b=some (.frz o u)) (tbls:∀b ps,H b=some (.tbl ps)->∃more,H' b=some (.tbl (ps++more)))
  (ns:∀m,s.heap.Ns X.env.locals m->h'.Ns X.env.locals m) (hok:cA X.prog X.w H' h') (hg:AllBare g'):
  ah X a8 σ H' {s with heap:=h',gens:=g',drawn:=d',toks:=t'}:=by
 have neL:∀b o,X.s₀.heap.get? b=some o->b≠X.env.locals:=fun b o e=>bP (cL (bg e) I.ok.above)
 have neC:∀b o,X.s₀.heap.get? b=some o->b∉X.ex->b∉ch:=fun b o e hx hb=>by
  rcases(hch b hb).1 with z|z
  ·exact hx z
  ·exact absurd (cL (bg e) z) (jA _)
 have cellK:∀x c,X.env.cells.lookup x=some c->∀v,s.heap.IsCell c v->h'.IsCell c v:=fun x c e v ⟨o,ho,hd⟩=>by
  have nch:c∉ch:=fun z=>(hch c z).2.2.1 x c e rfl
  by_cases hc:c∈X.fs
  ·obtain⟨sl,q⟩:=slot c o (I.cne x c e) hc nch ho (I.freeC x c e)
   exact⟨_,q,hd⟩
  ·exact⟨o,keep c o (I.cne x c e) hc nch ho (I.freeC x c e),hd⟩
 refine⟨I.ok,I.os,hg,⟨fun b o e n hb hx=>?_,fun b o e n hb hx=>?_,fun b o e n hx=>?_,fun b o e hx=>?_,fun b xs e=>tups b xs (I.base.tups b xs e),fun b o xs e=>frzs b o xs (I.base.frzs b o xs e),fun b ps e=>?_⟩,?_,fun x c e=>?_,?_,fun x c e=>?_,fun p hp=>?_,hok,I.len⟩
 ·exact keep b o (neL b o e) hb (neC b o e hx) (I.base.keep b o e n hb hx) (I.base.free b o e n hx)
 ·obtain⟨sl,e1⟩:=I.base.slot b o e n hb hx
  obtain⟨sl',e2⟩:=slot b _ (neL b o e) hb (neC b o e hx) e1 (I.base.free b o e n hx)
  exact⟨sl',e2⟩
 ·obtain⟨o',e1⟩:=I.base.there b o e hx
  exact free b o' (neC b o e hx) e1 (I.base.free b o e n hx)
 ·obtain⟨o',e1⟩:=I.base.there b o e hx
  exact there b o' (neC b o e hx) e1
 ·obtain⟨m1,e1⟩:=I.base.tbls b ps e
  obtain⟨m2,e2⟩:=tbls b _ e1
  exact⟨m1++m2,by rw[e2,Array.append_assoc]⟩
 ·obtain⟨m,hn,hl⟩:=I.loc
  refine⟨m,ns m hn,fun i x v e1 e2 e3=>?_⟩
  obtain⟨u,r,l⟩:=hl i x v e1 e2 e3
  refine⟨u,r,?_⟩
  rcases l with l|⟨k,c,e,z⟩
  ·exact .inl l
  ·exact .inr ⟨k,c,e,cellK x c e _ z⟩
 ·obtain⟨v,z⟩:=I.cell x c e
  exact⟨v,cellK x c e v z⟩
 ·obtain⟨m,⟨o,_,_,ho,_⟩,_⟩:=I.loc
  exact free _ o (fun z=>(hch _ z).2.1 rfl) ho I.free
 ·obtain⟨v,o,ho,hd⟩:=I.cell x c e
  exact free c o (fun z=>(hch c z).2.2.1 x c e rfl) ho (I.freeC x c e)
 ·obtain⟨e,n,ne,nf,d⟩:=I.pin p hp
  have nch:p.1∉ch:=fun z=>(hch p.1 z).2.2.2 p hp rfl
  exact⟨keep p.1 p.2 ne nf nch e n,free p.1 p.2 nch e n,ne,nf,d⟩
theorem ah.un{t':Nat}(I:ah X a8 σ H s)(u:Un X.fs [] H H' s.heap h')(hok:cA X.prog X.w H' h'):ah X a8 σ H' {s with heap:=h',toks:=t'}:=by
 obtain⟨m,⟨o,es,ep,ho,r⟩,_⟩:=id I.loc
 obtain⟨sl,hL⟩:=u.any ho I.free (by simp)
 exact I.step (g':=s.gens) (d':=s.drawn) (ch:=[]) (fun _ z=>nomatch z) (fun b o _ hb _ e n=>u.keep b o e n hb (by simp)) (fun b o _ hb _ e n=>u.slot b o e n hb (by simp)) (fun b o _ e n=>u.free b o e n (by simp)) (fun b o _ e=>u.there b o e (by simp)) u.tups u.frzs u.tbls (fun m' hm=>by
  obtain⟨o',es',ep',ho',r'⟩:=hm
  rw[ho]at ho';cases ho'
  exact⟨_,es',ep',hL,r'⟩) hok I.bare
theorem ah.call{g':Array GenState}{t':Nat}{d':Drawn}{ch:List Addr}(I:ah X a8 σ H s)(u:Un (gy X.stack) ch H H' s.heap h')(hok:cA X.prog X.w H' h')(hg:AllBare g')
  (hch:∀b∈ch,(b∈X.ex\/X.s₀.heap.objs.size<=b)/\b≠X.env.locals/\(∀x c,X.env.cells.lookup x=some c->c≠b)/\∀p∈X.pn++a8,p.1≠b):
  ah X a8 σ H' {s with heap:=h',gens:=g',drawn:=d',toks:=t'}:=by
 obtain⟨m,⟨o,es,ep,ho,r⟩,_⟩:=id I.loc
 obtain⟨sl,hL⟩:=u.any ho I.free fun z=>(hch _ z).2.1 rfl
 exact I.step (ch:=ch) hch (fun b o hL hb hc e n=>u.keep b o e n (fun z=>(cE.mp (I.stkSub b z)).elim hL hb) hc) (fun b o _ _ hc e n=>u.any e n hc) (fun b o hc e n=>u.free b o e n hc) (fun b o hc e=>u.there b o e hc) u.tups u.frzs u.tbls (fun m' hm=>by
  obtain⟨o',es',ep',ho',r'⟩:=hm
  rw[ho]at ho';cases ho'
  exact⟨_,es',ep',hL,r'⟩) hok hg
theorem ah.turned{t':Nat}{it:Addr}(I:ah X a8 σ H s)(k:∀b o,b≠it->s.heap.get? b=some o->h'.get? b=some o)(hn:H it=none)(hL:it≠X.env.locals)
  (h1:it∈X.ex\/X.s₀.heap.objs.size<=it) (h2:∀x c,X.env.cells.lookup x=some c->c≠it) (h3:∀p∈X.pn++a8,p.1≠it):ah X a8 σ H {s with heap:=h',toks:=t'}:=by
 have nit:∀b u,H b=some u->b≠it:=fun b u e z=>by rw[z,hn]at e;cases e
 refine I.step (g':=s.gens) (d':=s.drawn) (ch:=[it]) (fun b hb=>?_) (fun b o _ _ hc e _=>k b o (fun z=>hc (by simp[z])) e) (fun b o _ _ hc e _=>⟨o.slots,k b o (fun z=>hc (by simp[z])) e⟩) (fun _ _ _ _ n=>n)
  (fun b o hc e=>⟨o,k b o (fun z=>hc (by simp[z])) e⟩) (fun _ _ e=>e) (fun _ _ _ e=>e) (fun b ps e=>⟨#[],by rw[e];simp⟩) (fun m hm=>?_) (fun b u e=>?_) I.bare
 ·have e:b=it:=by simpa using hb
  subst e
  exact⟨h1,hL,h2,h3⟩
 ·obtain⟨o,es,ep,ho,r⟩:=hm
  exact⟨o,es,ep,k _ o (Ne.symm hL) ho,r⟩
 ·refine(I.hok b u e).stay (fun c v hc q=>k c v ?_ q) (fun _ q=>q) fun _ _ q=>q
  rcases hc with z|z
  ·rw[z];exact nit b u e
  ·exact nit c _ z
theorem ah.tok(I:ah X a8 σ H s)(t:Nat):ah X a8 σ H {s with toks:=t}:=I.un (h':=s.heap) (t':=t) Un.refl I.hok
theorem ah.kept{t':Nat}(I:ah X a8 σ H s)(k:∀b u,s.heap.get? b=some u->h'.get? b=some u):ah X a8 σ H {s with heap:=h',toks:=t'}:=I.un (Un.kept k) (I.hok.kept k)
theorem ah.laid{a:Addr}{o:HO}{t':Nat}(I:ah X a8 σ H s)(k:∀b u,s.heap.get? b=some u->h'.get? b=some u)(hp:s.heap.objs.size<=a)(new:cu X.prog X.w (ab H a o) h' a o):
  ah X a8 σ (ab H a o) {s with heap:=h',toks:=t'}:=I.un (Un.laid k hp (I.hok.fresh hp)) (I.hok.laid k hp new)
theorem ah.write{x e:Addr}{o:HO}{t':Nat}(I:ah X a8 σ H s)(mu:o_ (H x))(he:e=x\/H e=some (.own x))(k:∀b u,b≠e->s.heap.get? b=some u->h'.get? b=some u)(heo:∃u,h'.get? e=some u)
  (new:cu X.prog X.w (ab H x o) h' x o):ah X a8 σ (ab H x o) {s with heap:=h',toks:=t'}:=I.un (Un.write mu he k heo) (I.hok.write mu he k heo new)
theorem ah.pins_of{pins':List (Addr×Obj)}(I:ah X a8 σ H s)(h:∀p∈pins',s.heap.get? p.1=some p.2/\H p.1=none/\p.1≠X.env.locals/\p.1∉X.fs/\∀v,p.2.data≠ .cell v):ah X pins' σ H s:=
 ⟨I.ok,I.os,I.bare,I.base,I.loc,I.cell,I.free,I.freeC,fun p hp=>(iu.mp hp).elim (fun z=>I.pin p (ki _ z)) (h p),I.hok,I.len⟩
theorem AN{N:List Str}(hN:N.Nodup){i j:Nat}{x:Str}(a:N[i]?=some x)(b:N[j]?=some x):i=j:=by
 obtain⟨h1,e1⟩:=Qr.mp a
 obtain⟨h2,e2⟩:=Qr.mp b
 exact(List.getElem_inj hN).mp (e1.trans e2.symm)
theorem AO{M:Model}{A:Around}{E:Value->Shared->Prop}{i:Nat}{x:Str}{v:V}{u:Value}{Q:Unit->Shared->Prop}(I:ah X a8 σ H s)(hN:X.N.Nodup)(hi:X.N[i]?=some x)(hx:p6 X.env.scope x)(r:aO v u)
  (h:∀s',ah X a8 (σ.set i (some v)) H s'->(∃a,Heap.SameBut a s.heap s'.heap/\(a=X.env.locals\/X.env.cells.lookup x=some a))->Q () s') (hf:X.fn x=true\/X.env.scope.names.lookup x=some .local :=by first|exact .inl rfl|exact .inr rfl|assumption):wpAny M A (storeName X.env x u) Q E s:=by
 obtain⟨m,hn,hl⟩:=id I.loc
 have hcls:(X.env.scope.kind==.class||(X.env.scope.kind==.module && X.env.locals !=X.env.globals))=false:=by rw[I.ok.kind];rfl
 have hiσ:i<σ.length:=by rw[I.len];exact(Qr.mp hi).1
 have cne:=I.cne
 have tracked:∀{a:Addr} {h':Heap},(∃o,s.heap.get? a=some o/\H a=none)->Heap.SameBut a s.heap h'->cA X.prog X.w H h':=fun{a h'} ha hs b ob e=>by
  obtain⟨_,_,hfree⟩:=ha
  refine(I.hok b ob e).stay (fun c w' hc q=>(hs.2 c ?_).trans q) (fun _ q=>q) fun _ _ q=>q
  rintro rfl
  rcases hc with rfl|hc
  ·rw[hfree]at e;cases e
  ·rw[hfree]at hc;cases hc
 rcases hx with hk|hk
 ·refine wpAny_storeName_local hk hn (fun h' hn' hs=>?_) hcls
  obtain⟨oL,_,_,hoL,_⟩:=id hn
  refine h _ ⟨I.ok,I.os,I.bare,⟨fun b o e n hb hx=>?_,fun b o e n hb hx=>?_,I.base.free,fun b o e hx=>?_,I.base.tups,I.base.frzs,I.base.tbls⟩,⟨_,hn',fun j y v' e1 e2 e3=>?_⟩,fun y c e=>?_,I.free,I.freeC,fun p hp=>?_,tracked ⟨oL,hoL,I.free⟩ hs,by simpa using I.len⟩ ⟨_,hs,.inl rfl⟩
  ·exact(hs.2 b (bP (cL (bg e) I.ok.above))).trans (I.base.keep b o e n hb hx)
  ·obtain⟨sl,e1⟩:=I.base.slot b o e n hb hx
   exact⟨sl,(hs.2 b (bP (cL (bg e) I.ok.above))).trans e1⟩
  ·obtain⟨o',e1⟩:=I.base.there b o e hx
   exact⟨o',(hs.2 b (bP (cL (bg e) I.ok.above))).trans e1⟩
  ·by_cases hj:j=i
   ·subst hj
    rw[hi]at e1;cases e1
    rw[List.getElem?_set_self hiσ]at e2
    cases e2
    exact⟨u,r,.inl ⟨hk,by simp⟩⟩
   ·rw[List.getElem?_set_ne (Ne.symm hj)]at e2
    obtain⟨u',r',q⟩:=hl j y v' e1 e2 e3
    refine⟨u',r',?_⟩
    rcases q with⟨k,e⟩|⟨k,c,e,z⟩
    ·refine .inl ⟨k,?_⟩
     have:y≠x:=fun e=>hj (AN hN e1 (e▸hi))
     simp[this,e]
    ·exact .inr ⟨k,c,e,z.sameBut hs (cne y c e)⟩
  ·obtain⟨w',z⟩:=I.cell y c e
   exact⟨w',z.sameBut hs (cne y c e)⟩
  ·obtain⟨e,n,ne,nf,d⟩:=I.pin p hp
   exact⟨(hs.2 p.1 ne).trans e,n,ne,nf,d⟩
 ·have hfn:X.fn x=true:=by
   rcases hf with z|z
   ·exact z
   ·rw[z]at hk;cases hk
  obtain⟨c,hc⟩:=I.ok.has x (.inl hk)
  obtain⟨w',z⟩:=I.cell x c hc
  refine wpAny_storeName_cell I.ok.kind hk hc z (fun h' hc' hs=>?_)
  obtain⟨oc,hoc,hocd⟩:=id z
  refine h {s with heap:=h'} ⟨I.ok,I.os,I.bare,⟨fun b o e n hb hx=>?_,fun b o e n hb hx=>?_,I.base.free,fun b o e hx=>?_,I.base.tups,I.base.frzs,I.base.tbls⟩,⟨m,hn.sameBut hs (Ne.symm (cne x c hc)),fun j y v' e1 e2 e3=>?_⟩,fun y c' e=>?_,I.free,I.freeC,fun p hp=>?_,tracked ⟨oc,hoc,I.freeC x c hc⟩ hs,by simpa using I.len⟩ ⟨c,hs,.inr hc⟩
  ·exact(hs.2 b (bP (cL (bg e) (I.ok.cab x c hfn hc)))).trans (I.base.keep b o e n hb hx)
  ·obtain⟨sl,e1⟩:=I.base.slot b o e n hb hx
   exact⟨sl,(hs.2 b (bP (cL (bg e) (I.ok.cab x c hfn hc)))).trans e1⟩
  ·obtain⟨o',e1⟩:=I.base.there b o e hx
   exact⟨o',(hs.2 b (bP (cL (bg e) (I.ok.cab x c hfn hc)))).trans e1⟩
  ·by_cases hj:j=i
   ·subst hj
    rw[hi]at e1;cases e1
    rw[List.getElem?_set_self hiσ]at e2
    cases e2
    exact⟨u,r,.inr ⟨.inl hk,c,hc,hc'⟩⟩
   ·rw[List.getElem?_set_ne (Ne.symm hj)]at e2
    obtain⟨u',r',q⟩:=hl j y v' e1 e2 e3
    refine⟨u',r',?_⟩
    rcases q with q|⟨k,c',e,z'⟩
    ·exact .inl q
    ·refine .inr ⟨k,c',e,z'.sameBut hs ?_⟩
     rintro rfl
     exact hj (AN hN e1 (I.ok.inj _ _ _ e hc▸hi))
  ·by_cases hcc:c'=c
   ·subst hcc;exact⟨_,hc'⟩
   ·obtain⟨w2,z2⟩:=I.cell y c' e
    exact⟨w2,z2.sameBut hs hcc⟩
  ·obtain⟨e,n,ne,nf,d⟩:=I.pin p hp
   refine⟨(hs.2 p.1 ?_).trans e,n,ne,nf,d⟩
   intro q
   rw[q,hoc]at e
   have q':oc=p.2:=cm e
   exact d w' (by rw[<-q'];exact hocd)
theorem pd{M:Model}{A:Around}{E:Value->Shared->Prop}{i:Nat}{x:Str}{v:V}{u:Value}{Q:Unit->Shared->Prop}(I:ah X a8 σ H s)(hN:X.N.Nodup)(hi:X.N[i]?=some x)(hx:p6 X.env.scope x)(r:aO v u)
  (h:∀s',ah X a8 (σ.set i (some v)) H s'->Q () s') (hf:X.fn x=true\/X.env.scope.names.lookup x=some .local :=by first|exact .inl rfl|exact .inr rfl|assumption):wpAny M A (storeName X.env x u) Q E s:=
 AO I hN hi hx r (fun s' I' _=>h s' I') hf
theorem ah.call'{s':Shared}{ch:List Addr}(I:ah X a8 σ H s)(ho:s'.os=s.os)(u:Un (gy X.stack) ch H H' s.heap s'.heap)(hok:cA X.prog X.w H' s'.heap)(hg:AllBare s'.gens)
  (hch:∀b∈ch,(b∈X.ex\/X.s₀.heap.objs.size<=b)/\b≠X.env.locals/\(∀x c,X.env.cells.lookup x=some c->c≠b)/\∀p∈X.pn++a8,p.1≠b):ah X a8 σ H' s':=by
 obtain⟨h',g',d',t',o'⟩:=s'
 have e:o'=s.os:=ho
 subst e
 exact I.call (g':=g') (t':=t') (d':=d') u hok hg hch
end
abbrev XK:=Value->Option Addr->Hp->Prop
abbrev St:=List (Option V)
abbrev VK:=V->Hp->Prop
abbrev TE:=St->Hp->VK->Prop
abbrev TT:=St->Hp->(Bool->Hp->Prop)->Prop
abbrev TA:=St->Hp->(List V->Hp->Prop)->Prop
set_option genInjectivity false in
structure gY where
 nx:St->Hp->Prop
 rt:VK
 bk:St->Hp->Prop:=fun _ _=>False
 ct:St->Hp->Prop:=fun _ _=>False
abbrev TS:=gY->St->Hp->Prop
noncomputable def EP(X:Cx)(a8:List (Addr×Obj))(σ:St)(Q:VK)(u:Value)(s':Shared):Prop:=∃v H',ah X a8 σ H' s'/\aO v u/\Q v H'
noncomputable def TP(X:Cx)(a8:List (Addr×Obj))(σ:St)(Q:Bool->Hp->Prop)(b:Bool)(s':Shared):Prop:=∃H',ah X a8 σ H' s'/\Q b H'
noncomputable def AP(X:Cx)(a8:List (Addr×Obj))(σ:St)(Q:List V->Hp->Prop)(us:List Value)(s':Shared):Prop:=∃vs H',ah X a8 σ H' s'/\aP vs us/\Q vs H'
noncomputable def SP(X:Cx)(a8:List (Addr×Obj))(D:gY)(f:Flow)(s':Shared):Prop:=
 match f with
 |.next=>∃σ' H',ah X a8 σ' H' s'/\D.nx σ' H'
 |.brk=>∃σ' H',ah X a8 σ' H' s'/\D.bk σ' H'
 |.cont=>∃σ' H',ah X a8 σ' H' s'/\D.ct σ' H'
 |.ret u=>∃v σ' H',ah X a8 σ' H' s'/\aO v u/\D.rt v H'
noncomputable def PE(X:Cx)(e:Expr)(t:TE):Prop:=
 ∀(a8:List (Addr×Obj)) (s:Shared) (σ:St) (H:Hp) (Q:VK),ah X a8 σ H s->t σ H Q->wpAny (model X.prog X.w) X.A (eval e X.env) (EP X a8 σ Q) X.xe s
noncomputable def PT(X:Cx)(e:Expr)(t:TT):Prop:=
 ∀(a8:List (Addr×Obj)) (s:Shared) (σ:St) (H:Hp) (Q:Bool->Hp->Prop),ah X a8 σ H s->t σ H Q->wpAny (model X.prog X.w) X.A (isTrue e X.env (eval e X.env)) (TP X a8 σ Q) X.xe s
noncomputable def PW(X:Cx)(e:Expr)(t:TT):Prop:=
 ∀(whole:Sem Value) (a8:List (Addr×Obj)) (s:Shared) (σ:St) (H:Hp) (Q:Bool->Hp->Prop),ah X a8 σ H s->t σ H Q->wpAny (model X.prog X.w) X.A (isTrue e X.env whole) (TP X a8 σ Q) X.xe s
theorem PW.pt{X:Cx}{e:Expr}{t:TT}(h:PW X e t):PT X e t:=h _
noncomputable def PA(X:Cx)(es:List Expr)(t:TA):Prop:=
 ∀(pos:Pos) (a8:List (Addr×Obj)) (s:Shared) (σ:St) (H:Hp) (Q:List V->Hp->Prop),ah X a8 σ H s->t σ H Q->wpAny (model X.prog X.w) X.A (spliced (backTo pos (starEach es X.env))) (AP X a8 σ Q) X.xe s
noncomputable def PS(X:Cx)(st:Stmt)(t:TS):Prop:=
 ∀(a8:List (Addr×Obj)) (s:Shared) (σ:St) (H:Hp) (D:gY),ah X a8 σ H s->t D σ H->wpAny (model X.prog X.w) X.A (exec st X.env) (SP X a8 D) X.xe s
noncomputable def gz(X:Cx)(st:List Stmt)(t:TS):Prop:=
 ∀(a8:List (Addr×Obj)) (s:Shared) (σ:St) (H:Hp) (D:gY),ah X a8 σ H s->t D σ H->wpAny (model X.prog X.w) X.A (execs st X.env) (SP X a8 D) X.xe s
theorem aD{α:Type}{t:Sem α}{Q Q':α->Shared->Prop}{M:Model}{A:Around}{E:Value->Shared->Prop}{s:Shared}(h:wpAny M A t Q E s)(hQ:∀a s,Q a s->Q' a s):wpAny M A t Q' E s:=cV h hQ fun _ _ x=>x
section
variable{X:Cx}
noncomputable def dq(i:Nat):TE:=fun σ H Q=>∃v,σ[i]?=some (some v)/\Q v H
noncomputable def tC(v:V):TE:=fun _ H Q=>Q v H
theorem GG{i:Nat}{x:Str}{pos:Pos}(hN:X.N[i]?=some x)(hv:rk X.env.scope x)(hd:(x==("__debug__":Str))=false:=by decide)(hcd:(x==("__classdict__":Str))=false:=by decide):PE X (.Name x pos) (dq i):=by
 intro a8 s σ H Q I h
 obtain⟨v,e,h⟩:=h
 obtain⟨m,hn,hl⟩:=I.loc
 obtain⟨u,r,l⟩:=hl i x v hN e hv
 have fin:EP X a8 σ Q u s:=⟨v,H,I,r,h⟩
 rcases l with⟨hk,hm⟩|⟨hk,c,hc,hcell⟩
 ·exact wpAny_Name (wpAny_loadName_local I.ok.kind hk hn hm fin) hd
 ·rcases hk with hk|hk
  ·exact wpAny_Name (wpAny_loadName_cell I.ok.kind hk hc hcell fin) hd
  ·exact wpAny_Name (wpAny_loadName_free I.ok.kind hk hc hcell fin hcd) hd
theorem ay{i j pos}:PE X (.Constant (.int i) j pos) (tC (.int i)):=fun _ _ _ H _ I h=>wpAny_Constant_int ⟨.int i,H,I.tok _,⟨_,rfl⟩,h⟩
theorem gA{b j pos}:PE X (.Constant (.bool b) j pos) (tC (.bl b)):=fun _ _ _ H _ I h=>Constant_bool ⟨.bl b,H,I,rfl,h⟩
theorem pf{j pos}:PE X (.Constant .none j pos) (tC .non):=fun _ _ _ H _ I h=>Constant_none ⟨.non,H,I,rfl,h⟩
theorem fO{x j pos}:PE X (.Constant (.str x) j pos) (tC (.str x)):=fun _ _ _ H _ I h=>Calls.Constant_str ⟨.str x,H,I.tok _,⟨_,rfl⟩,h⟩
noncomputable def Gl(X:Cx)(x:Str):Prop:=X.env.kindOf x=some .globalImplicit
theorem rm{E:Value->Shared->Prop}{a8:List (Addr×Obj)}{s:Shared}{σ:St}{H:Hp}{x:Str}{u:Value}{pos:Pos}{Q:Value->Shared->Prop}(I:ah X a8 σ H s)(hg:Gl X x)(hm:X.mg x=some u)(h:Q u s)
  (hd:(x==("__debug__":Str))=false:=by decide):wpAny (model X.prog X.w) X.A (eval (.Name x pos) X.env) Q E s:=
 Calls.Name_function_global I.ok.kind hg (Calls.loadGlobal_global (by rw[I.ok.glob];exact I.mod.glob.keeps I.bk) hm h) hd
theorem jJ{E:Value->Shared->Prop}{a8:List (Addr×Obj)}{s:Shared}{σ:St}{H:Hp}{x:Str}{u:Value}{pos:Pos}{Q:Value->Shared->Prop}(I:ah X a8 σ H s)(hg:Gl X x)(hm:X.mg x=none)(hv:bootBuiltins x=some u)(h:Q u s)
  (hn:x≠"__name__":=by decide) (hd:(x==("__debug__":Str))=false:=by decide):wpAny (model X.prog X.w) X.A (eval (.Name x pos) X.env) Q E s:=by
 obtain⟨mb,h1,h2⟩:=I.mod.blt
 exact Calls.Name_function_global I.ok.kind hg (Calls.loadGlobal_builtin (by rw[I.ok.glob];exact I.mod.glob.keeps I.bk) hm (by rw[I.ok.blt];exact h1.keeps I.bk) ((h2 x hn).trans hv) h) hd
theorem fG{x:Str}{v:V}{u:Value}{pos:Pos}(hg:Gl X x)(hm:X.mg x=some u)(r:aO v u)(hd:(x==("__debug__":Str))=false:=by decide):PE X (.Name x pos) (tC v):=
 fun _ _ _ H _ I h=>rm I hg hm ⟨v,H,I,r,h⟩ hd
theorem rn{x:Str}{v:V}{u:Value}{pos:Pos}(hg:Gl X x)(hm:X.mg x=none)(hv:bootBuiltins x=some u)(r:aO v u)(hn:x≠"__name__":=by decide)(hd:(x==("__debug__":Str))=false:=by decide):PE X (.Name x pos) (tC v):=
 fun _ _ _ H _ I h=>jJ I hg hm hv ⟨v,H,I,r,h⟩ hn hd
variable{a b:Expr}{ta tb:TE}{pos:Pos}
noncomputable def PC(X:Cx)(op:CmpOp)(a b:Expr)(t:TE):Prop:=
 ∀(a8:List (Addr×Obj)) (s:Shared) (σ:St) (H:Hp) (Q:VK),ah X a8 σ H s->t σ H Q->
  wpAny (model X.prog X.w) X.A (eval a X.env) (fun v s₁=>wpAny (model X.prog X.w) X.A (eval b X.env) (fun u s₂=>wpAny (model X.prog X.w) X.A (compareOp op v u) (EP X a8 σ Q) X.xe s₂) X.xe s₁) X.xe s
theorem AQ(b:Expr){op:CmpOp}(h:op≠ .In)(h2:op≠ .NotIn):behindInMarks op b=false:=by
 have e1:(op==CmpOp.In)=false:=by cases op<;>first|rfl|exact absurd rfl h
 have e2:(op==CmpOp.NotIn)=false:=by cases op<;>first|rfl|exact absurd rfl h2
 cases b<;>simp[behindInMarks,e1,e2]
noncomputable def AR(ta:TE):TE:=fun σ H Q=>ta σ H fun x H1=>Q (.bl (decide (x=.non))) H1
noncomputable def AS(ta:TE):TE:=fun σ H Q=>ta σ H fun x H1=>Q (.bl (!decide (x=.non))) H1
theorem aO.none_iff{x:V}{v:Value}(r:aO x v):(v==Value.none)=decide (x=.non):=by
 cases x with
 |non=>cases r;rfl
 |bl _=>cases r;rfl
 |int _=>obtain⟨t,rfl⟩:=r;rfl
 |str _=>obtain⟨t,rfl⟩:=r;rfl
 |byt _=>obtain⟨t,rfl⟩:=r;rfl
 |flt _=>obtain⟨t,rfl⟩:=r;rfl
 |ref _=>cases r;rfl
 |ty _=>cases r;rfl
theorem rq{j pos'}(ha:PE X a ta):PC X .Is a (.Constant .none j pos') (AR ta):=by
 intro a8 s σ H Q I h
 refine aD (ha a8 s σ H _ I h) fun v s1 ⟨x,H1,I1,r1,q1⟩=>?_
 exact Constant_none (is_none_gen ⟨.bl _,H1,I1,by rw[r1.none_iff];rfl,q1⟩)
theorem GH{j pos'}(ha:PE X a ta):PC X .IsNot a (.Constant .none j pos') (AS ta):=by
 intro a8 s σ H Q I h
 refine aD (ha a8 s σ H _ I h) fun v s1 ⟨x,H1,I1,r1,q1⟩=>?_
 exact Constant_none (isnot_none_gen ⟨.bl _,H1,I1,by rw[r1.none_iff];rfl,q1⟩)
noncomputable def tB(t:TE):TT:=fun σ H Q=>t σ H fun x H1=>∃c,x=.bl c/\Q c H1
theorem AU{op:CmpOp}{t:TE}(h:PC X op a b t)(h1:behindInMarks op b=false:=by first|exact AQ _ (by decide) (by decide)|rfl):PE X (.Compare a [op] [b] pos) t:=fun a8 s σ H Q I hw=>wpAny_Compare1 (h a8 s σ H Q I hw) h1
theorem jK{op:CmpOp}{t:TE}(h:PC X op a b t)(h1:behindInMarks op b=false:=by first|exact AQ _ (by decide) (by decide)|rfl):PT X (.Compare a [op] [b] pos) (tB t):=by
 intro a8 s σ H Q I hw
 refine wpAny_isTrue_Compare1 (aD (h a8 s σ H _ I hw) fun v s1 h1=>aD h1 fun u s2 h2=>aD h2 fun c s3 ⟨x,H1,I1,r1,q1⟩=>?_) h1
 obtain⟨d,rfl,q⟩:=q1
 cases r1
 exact j8 ⟨H1,I1,q⟩
theorem dX{e:Expr}{t:TE}(h:PE X e t)(he:∀whole,isTrue e X.env whole=(do let v<-whole;standAt e.pos;holding [v] (truthy v)):=by intro _;rfl):PT X e (tB t):=by
 intro a8 s σ H Q I hw
 refine isTrue_plain (aD (h a8 s σ H _ I hw) fun v s1 ⟨x,H1,I1,r1,q1⟩=>?_) (he _)
 obtain⟨d,rfl,q⟩:=q1
 cases r1
 exact j8 ⟨H1,I1,q⟩
variable{tA tB':TT}{dS:List Expr}
noncomputable def AV(t u:TT):TT:=fun σ H Q=>t σ H fun c H1=>if c=true then u σ H1 Q else Q false H1
noncomputable def AW(t u:TT):TT:=fun σ H Q=>t σ H fun c H1=>if c=true then Q true H1 else u σ H1 Q
noncomputable def AX(t:TT):TT:=fun σ H Q=>t σ H fun c H1=>Q (!c) H1
theorem AY(ha:PT X a tA):PW X (.BoolOp .And [a] pos) tA:=by
 intro wh a8 s σ H Q I h
 refine isTrue_and (aD (ha a8 s σ H Q I h) fun c s1 e=>?_)
 cases c with
 |true=>exact isTrue_and_nil e
 |false=>exact e
theorem iT(ha:PT X a tA):PW X (.BoolOp .Or [a] pos) tA:=by
 intro wh a8 s σ H Q I h
 refine isTrue_or (aD (ha a8 s σ H Q I h) fun c s1 e=>?_)
 cases c with
 |false=>exact isTrue_or_nil e
 |true=>exact e
theorem AZ(ha:PT X a tA)(hb:PW X (.BoolOp .And (b::dS) pos) tB'):PW X (.BoolOp .And (a::b::dS) pos) (AV tA tB'):=by
 intro wh a8 s σ H Q I h
 refine isTrue_and (aD (ha a8 s σ H _ I h) fun c s1 ⟨H1,I1,q1⟩=>?_)
 cases c with
 |true=>exact hb wh a8 s1 σ H1 Q I1 q1
 |false=>exact⟨H1,I1,q1⟩
theorem gZ(ha:PT X a tA)(hb:PW X (.BoolOp .Or (b::dS) pos) tB'):PW X (.BoolOp .Or (a::b::dS) pos) (AW tA tB'):=by
 intro wh a8 s σ H Q I h
 refine isTrue_or (aD (ha a8 s σ H _ I h) fun c s1 ⟨H1,I1,q1⟩=>?_)
 cases c with
 |true=>exact⟨H1,I1,q1⟩
 |false=>exact hb wh a8 s1 σ H1 Q I1 q1
theorem eJ(ha:PT X a tA):PT X (.UnaryOp .Not a pos) (AX tA):=by
 intro a8 s σ H Q I h
 exact isTrue_not (ha a8 s σ H (fun c H1=>Q (!c) H1) I h)
noncomputable def A_(ta tb:TE):TE:=fun σ H Q=>ta σ H fun x H1=>∃c,x=.bl c/\if c=true then tb σ H1 Q else Q (.bl false) H1
noncomputable def B0(ta tb:TE):TE:=fun σ H Q=>ta σ H fun x H1=>∃c,x=.bl c/\if c=true then Q (.bl true) H1 else tb σ H1 Q
noncomputable def B1(ta:TE):TE:=fun σ H Q=>ta σ H fun x H1=>∃c,x=.bl c/\Q (.bl (!c)) H1
theorem iB{op}{t:TE}(h:PE X a t):PE X (.BoolOp op [a] pos) t:=fun a8 s σ H Q I hw=>BoolOp_one (h a8 s σ H Q I hw)
theorem g_(ha:PE X a ta)(hb:PE X (.BoolOp .And (b::dS) pos) tb):PE X (.BoolOp .And (a::b::dS) pos) (A_ ta tb):=by
 intro a8 s σ H Q I h
 refine BoolOp_and (aD (ha a8 s σ H _ I h) fun v s1 ⟨x,H1,I1,r1,q1⟩=>?_)
 obtain⟨c,rfl,q1⟩:=q1
 cases r1
 refine j8 ?_
 cases c with
 |true=>exact hb a8 s1 σ H1 Q I1 q1
 |false=>exact⟨.bl false,H1,I1,rfl,q1⟩
theorem GI(ha:PE X a ta)(hb:PE X (.BoolOp .Or (b::dS) pos) tb):PE X (.BoolOp .Or (a::b::dS) pos) (B0 ta tb):=by
 intro a8 s σ H Q I h
 refine BoolOp_or (aD (ha a8 s σ H _ I h) fun v s1 ⟨x,H1,I1,r1,q1⟩=>?_)
 obtain⟨c,rfl,q1⟩:=q1
 cases r1
 refine j8 ?_
 cases c with
 |false=>exact hb a8 s1 σ H1 Q I1 q1
 |true=>exact⟨.bl true,H1,I1,rfl,q1⟩
theorem GJ(ha:PE X a ta):PE X (.UnaryOp .Not a pos) (B1 ta):=by
 intro a8 s σ H Q I h
 refine UnaryOp_ (aD (ha a8 s σ H _ I h) fun v s1 ⟨x,H1,I1,r1,q1⟩=>?_)
 obtain⟨c,rfl,q1⟩:=q1
 cases r1
 exact not_of (j8 ⟨.bl (!c),H1,I1,rfl,q1⟩)
end
noncomputable def ai(K:W.Frag)(H:Hp)(a:Addr)(xs:List V):Prop:=
 Rd H a (.lst xs)\/
  ∃(o:Obj) (ak:Array Value) (n:Nat),K.lookup a=some o/\o.cls=.type "list"/\o.dict=none/\o.data=.seq ak n/\ak.size<=sizeLine/\aP xs ak.toList
noncomputable def ax(K:W.Frag)(H:Hp)(a:Addr)(xs:List V):Prop:=
 Rd H a (.tup xs)\/
  ∃(o:Obj) (ak:Array Value) (n:Nat),K.lookup a=some o/\o.cls=.type "tuple"/\o.data=.seq ak n/\ak.size<=sizeLine/\aP xs ak.toList
noncomputable def GK:Value->Option V
 |.none=>some .non
 |.bool b=>some (.bl b)
 |.int i _=>some (.int i)
 |.str x _=>some (.str x)
 |.bytes b _=>some (.byt b)
 |.float b _=>some (.flt b)
 |.ref a=>some (.ref a)
 |.type n=>some (.ty n)
 |_=>none
theorem aO.abs{x:V}{u:Value}(r:aO x u):GK u=some x:=by
 cases x with
 |non=>cases r;rfl
 |bl _=>cases r;rfl
 |int _=>obtain⟨t,rfl⟩:=r;rfl
 |str _=>obtain⟨t,rfl⟩:=r;rfl
 |byt _=>obtain⟨t,rfl⟩:=r;rfl
 |flt _=>obtain⟨t,rfl⟩:=r;rfl
 |ref _=>cases r;rfl
 |ty _=>cases r;rfl
theorem aO.inj{x y:V}{u:Value}(r:aO x u)(q:aO y u):x=y:=cm (r.abs.symm.trans q.abs)
theorem aP.inj:∀{xs ys:List V} {us:List Value},aP xs us->aP ys us->xs=ys
 |_,_,_,.nil,.nil=>rfl
 |_,_,_,.cons r t,.cons r' t'=>by rw[r.inj r',aP.inj t t']
section
variable{X:Cx}{a8:List (Addr×Obj)}{σ:St}{H:Hp}{s:Shared}{a:Addr}{xs ys:List V}
theorem ai.of{K:W.Frag}(h:H a=some (.lst xs)):ai K H a xs:=.inl (.inl h)
theorem ax.of{K:W.Frag}(h:H a=some (.tup xs)):ax K H a xs:=.inl (.inl h)
theorem ah.list(I:ah X a8 σ H s)(h:ai X.K H a xs):∃ak:List Value,aP xs ak/\PlainL s.heap a ak.toArray/\xs.length<=sizeLine:=by
 rcases h with h|⟨o,ak,n,hk,hc,hd,hs,hz,r⟩
 ·obtain⟨z,ak,n,r,e⟩:=h.ok I.hok
  exact⟨ak,r,⟨_,n,e,rfl,rfl,rfl⟩,z⟩
 ·refine⟨ak.toList,r,⟨o,n,I.kIn a o hk,hc,hd,by simpa using hs⟩,?_⟩
  have e:=r.length
  simp only[gq]at e
  omega
theorem ah.tuple(I:ah X a8 σ H s)(h:ax X.K H a xs):∃ak:List Value,aP xs ak/\IsTup s.heap a ak.toArray/\xs.length<=sizeLine:=by
 rcases h with h|⟨o,ak,n,hk,hc,hs,hz,r⟩
 ·obtain⟨z,ak,r,p⟩:=h.ok I.hok
  exact⟨ak,r,p,z⟩
 ·refine⟨ak.toList,r,⟨o,I.kIn a o hk,hc,n,by simpa using hs⟩,?_⟩
  have e:=r.length
  simp only[gq]at e
  omega
theorem ah.list_inj(I:ah X a8 σ H s)(h:ai X.K H a xs)(h':ai X.K H a ys):xs=ys:=by
 obtain⟨ak,r,⟨o,n,e,_,_,d⟩,_⟩:=I.list h
 obtain⟨its',r',⟨o',n',e',_,_,d'⟩,_⟩:=I.list h'
 rw[e]at e';cases e'
 rw[d]at d'
 injection d' with d1 _
 have:ak=its':=by simpa using congrArg Array.toList d1
 subst this
 exact r.inj r'
theorem ah.tuple_inj(I:ah X a8 σ H s)(h:ax X.K H a xs)(h':ax X.K H a ys):xs=ys:=by
 obtain⟨ak,r,⟨o,e,_,n,d⟩,_⟩:=I.tuple h
 obtain⟨its',r',⟨o',e',_,n',d'⟩,_⟩:=I.tuple h'
 rw[e]at e';cases e'
 rw[d]at d'
 injection d' with d1 _
 have:ak=its':=by simpa using congrArg Array.toList d1
 subst this
 exact r.inj r'
end
abbrev Cx.wish(X:Cx)(E:Value->Shared->Prop):Cx:={X with xe:=E}
abbrev Cx.nox(X:Cx):Cx:=X.wish fun _ _=>False
theorem Cx.Ok.wish{X:Cx}(ok:X.Ok)(E:Value->Shared->Prop):(X.wish E).Ok:=
 ⟨ok.mod,ok.kind,ok.glob,ok.blt,ok.above,ok.inj,ok.has,ok.cab,ok.hd,ok.frames,ok.stk,ok.exf,ok.bs,ok.bsz,ok.noex,ok.exfs,ok.funs,ok.frf⟩
theorem Cx.Ok.unwish{X:Cx}{E:Value->Shared->Prop}(ok:(X.wish E).Ok):X.Ok:=
 ⟨ok.mod,ok.kind,ok.glob,ok.blt,ok.above,ok.inj,ok.has,ok.cab,ok.hd,ok.frames,ok.stk,ok.exf,ok.bs,ok.bsz,ok.noex,ok.exfs,ok.funs,ok.frf⟩
section
variable{X:Cx}{a8:List (Addr×Obj)}{σ:St}{H:Hp}{s:Shared}{E:Value->Shared->Prop}
theorem ah.wish(I:ah X a8 σ H s)(E:Value->Shared->Prop):ah (X.wish E) a8 σ H s:=⟨I.ok.wish E,I.os,I.bare,I.base,I.loc,I.cell,I.free,I.freeC,I.pin,I.hok,I.len⟩
theorem ah.unwish(I:ah (X.wish E) a8 σ H s):ah X a8 σ H s:=⟨I.ok.unwish,I.os,I.bare,I.base,I.loc,I.cell,I.free,I.freeC,I.pin,I.hok,I.len⟩
theorem SP.unwish{D:gY}{f:Flow}{s':Shared}(h:SP (X.wish E) a8 D f s'):SP X a8 D f s':=by
 cases f with
 |next=>obtain⟨σ',H',I,q⟩:=h;exact⟨σ',H',I.unwish,q⟩
 |brk=>obtain⟨σ',H',I,q⟩:=h;exact⟨σ',H',I.unwish,q⟩
 |cont=>obtain⟨σ',H',I,q⟩:=h;exact⟨σ',H',I.unwish,q⟩
 |ret u=>obtain⟨v,σ',H',I,r,q⟩:=h;exact⟨v,σ',H',I.unwish,r,q⟩
theorem gz.nox{st:List Stmt}{t:TS}(h:gz X.nox st t):gz X st t:=fun a8 s σ H D I hw=>
 cV (h a8 s σ H D (I.wish _) hw) (fun _ _ q=>q.unwish) fun _ _ z=>False.elim z
end
section
variable{X:Cx}{st:Stmt}{dS:List Stmt}{t u:TS}{e:Expr}{te:TE}{pos:Pos}
noncomputable def B2:TS:=fun D σ H=>D.nx σ H
noncomputable def B3(t u:TS):TS:=fun D σ H=>t {D with nx:=u D} σ H
theorem bU:gz X [] B2:=fun _ _ σ H _ I h=>A2 ⟨σ,H,I,h⟩
theorem aF(h1:PS X st t)(h2:gz X dS u):gz X (st::dS) (B3 t u):=by
 intro a8 s σ H D I h
 refine wpAny_execs_cons (aD (h1 a8 s σ H {D with nx:=u D} I h) fun f s1 q=>?_)
 cases f with
 |next=>
  obtain⟨σ',H',I',q⟩:=q
  exact h2 a8 s1 σ' H' D I' q
 |ret v=>exact q
 |brk=>exact q
 |cont=>exact q
theorem aA(h1:PS X st t):gz X [st] t:=by
 intro a8 s σ H D I h
 refine wpAny_execs_cons (aD (h1 a8 s σ H D I h) fun f s1 q=>?_)
 cases f with
 |next=>exact A2 q
 |ret v=>exact q
 |brk=>exact q
 |cont=>exact q
theorem ah.quiet{a8:List (Addr×Obj)}{σ:St}{H:Hp}{s:Shared}(I:ah X a8 σ H s):interactive X.env=false:=by simp[interactive,I.ok.kind]
noncomputable def B4(te:TE):TS:=fun D σ H=>te σ H fun _ H1=>D.nx σ H1
theorem dG(he:PE X e te)(hs:swapsWith e none pos.line X.env=pure false:=by rfl):PS X (.Expr e pos) (B4 te):=by
 intro a8 s σ H D I h
 exact wpAny_Expr_any (aD (he a8 s σ H _ I h) fun v s1 ⟨x,H1,I1,r1,q1⟩=>⟨σ,H1,I1,q1⟩) I.quiet hs
noncomputable def B5(te:TE):TS:=fun D σ H=>te σ H D.rt
theorem aU(he:PE X e te):PS X (.Return (some e) pos) (B5 te):=by
 intro a8 s σ H D I h
 exact wpAny_Return_some (aD (he a8 s σ H _ I h) fun v s1 ⟨x,H1,I1,r1,q1⟩=>⟨x,σ,H1,I1,r1,q1⟩)
noncomputable def B6(c:TT)(t u:TS):TS:=fun D σ H=>c σ H fun b H1=>if b=true then t D σ H1 else u D σ H1
theorem bQ{c:Expr}{a b:List Stmt}{tc:TT}(hc:PT X c tc)(ha:gz X a t)(hb:gz X b u):PS X (.If c a b pos) (B6 tc t u):=by
 intro a8 s σ H D I h
 refine wpAny_If (aD (hc a8 s σ H _ I h) fun d s1 ⟨H1,I1,q1⟩=>?_)
 cases d with
 |true=>exact ha a8 s1 σ H1 D I1 q1
 |false=>exact hb a8 s1 σ H1 D I1 q1
end
abbrev TG:=V->St->Hp->(St->Hp->Prop)->Prop
abbrev hJ:=List V->St->Hp->(St->Hp->Prop)->Prop
noncomputable def PG(X:Cx)(target:Expr)(t:TG):Prop:=
 ∀(a8:List (Addr×Obj)) (s:Shared) (σ:St) (H:Hp) (v:V) (u:Value) (Q:St->Hp->Prop),ah X a8 σ H s->aO v u->t v σ H Q->
  wpAny (model X.prog X.w) X.A (assign target X.env u) (fun _ s'=>∃σ' H',ah X a8 σ' H' s'/\Q σ' H') X.xe s
noncomputable def lZ(X:Cx)(ts:List Expr)(t:hJ):Prop:=
 ∀(a8:List (Addr×Obj)) (s:Shared) (σ:St) (H:Hp) (vs:List V) (us:List Value) (Q:St->Hp->Prop),ah X a8 σ H s->aP vs us->t vs σ H Q->
  wpAny (model X.prog X.w) X.A (assignInOrder ((assignEach ts X.env).map (·.2)) us) (fun _ s'=>∃σ' H',ah X a8 σ' H' s'/\Q σ' H') X.xe s
abbrev rA:=V->V->V->Hp->(Hp->Prop)->Prop
noncomputable def B7(X:Cx)(t:rA):Prop:=
 ∀(a8:List (Addr×Obj)) (s:Shared) (σ:St) (H:Hp) (o i v:V) (ov iv u:Value) (Q:Hp->Prop),ah X a8 σ H s->aO o ov->aO i iv->aO v u->t o i v H Q->
  wpAny (model X.prog X.w) X.A (setItem ov iv u) (fun _ s'=>∃H',ah X a8 σ H' s'/\Q H') X.xe s
abbrev ph:=V->V->Hp->VK->Prop
noncomputable def B8(X:Cx)(op:Operator)(t:ph):Prop:=
 ∀(a8:List (Addr×Obj)) (s:Shared) (σ:St) (H:Hp) (x y:V) (v u:Value) (Q:VK),ah X a8 σ H s->aO x v->aO y u->t x y H Q->
  wpAny (model X.prog X.w) X.A (inplaceOp op v u) (EP X a8 σ Q) X.xe s
section
variable{X:Cx}{pos:Pos}
noncomputable def dH(i:Nat):TG:=fun v σ H Q=>Q (σ.set i (some v)) H
theorem aR{i:Nat}{x:Str}(hN:X.N.Nodup)(hi:X.N[i]?=some x)(hx:p6 X.env.scope x)(hf:X.fn x=true\/X.env.scope.names.lookup x=some .local :=by first|exact .inl rfl|exact .inr rfl|assumption):PG X (.Name x pos) (dH i):=by
 intro a8 s σ H v u Q I r h
 exact wpAny_assign_Name (pd I hN hi hx r (fun s' I'=>⟨_,H,I',h⟩) hf)
noncomputable def rB:hJ:=fun vs σ H Q=>vs=[]/\Q σ H
noncomputable def ng(t:TG)(u:hJ):hJ:=fun vs σ H Q=>∃v r,vs=v::r/\t v σ H fun σ' H'=>u r σ' H' Q
theorem fw:lZ X [] rB:=by
 intro a8 s σ H vs us Q I r h
 obtain⟨e,h⟩:=h
 subst e
 cases r
 exact assignInOrder_nil ⟨σ,H,I,h⟩
theorem bW{e:Expr}{es:List Expr}{t:TG}{u:hJ}(h1:PG X e t)(h2:lZ X es u)
  (hs:(assignEach (e::es) X.env).map (·.2)=assign e X.env::(assignEach es X.env).map (·.2):=by rfl):lZ X (e::es) (ng t u):=by
 intro a8 s σ H vs us Q I r h
 obtain⟨v,vr,e1,h⟩:=h
 subst e1
 cases r with
 |cons r rr=>
  rw[hs]
  refine Gk (aD (h1 a8 s σ H _ _ _ I r h) fun _ s1 ⟨σ1,H1,I1,q1⟩=>?_)
  exact h2 a8 s1 σ1 H1 _ _ Q I1 rr q1
noncomputable def pj(K:W.Frag)(n:Nat)(t:hJ):TG:=fun v σ H Q=>∃a xs,v=.ref a/\ax K H a xs/\xs.length=n/\t xs σ H Q
theorem GL{es:List Expr}{k:Nat}{t:hJ}{n:Nat}(hc:X.calm=true)(h:lZ X es t)
  (hn:(assignEach es X.env).length=n:=by rfl) (hst:(assignEach es X.env).findIdx? (·.1)=none:=by rfl):PG X (.Tuple es k pos) (pj X.K n t):=by
 intro a8 s σ H v u Q I r hw
 obtain⟨a,xs,e1,hq,hl,hw⟩:=hw
 subst e1
 cases r
 obtain⟨ak,rv,ht,hz⟩:=I.tuple hq
 refine assign_Tuple_tuple (I.ok.hd hc) ht (by simp[hn,<-hl,rv.length]) hst fun h' hx=>?_
 have I1:ah X a8 σ H {s with heap:=h'}:=I.kept (t':=s.toks) fun b o e=>hx b o (bP (bg e)) e
 exact h a8 _ σ H xs _ Q I1 (by simpa using rv) hw
noncomputable def B9(to ti:TE)(t:rA):TG:=fun v σ H Q=>to σ H fun o H1=>ti σ H1 fun i H2=>t o i v H2 fun H3=>Q σ H3
theorem nh{o i:Expr}{to ti:TE}{t:rA}(ho:PE X o to)(hi:PE X i ti)(hs:B7 X t)
  (ha:∀v,assign (.Subscript o i pos) X.env v=(do
   let ov<-holding [v] (eval o X.env)
   let iv<-holding [v,ov] (eval i X.env)
   standAt pos
   holding [v,ov,iv] (setItem ov iv v)
   release [v,ov,iv] []):=by intro _;rfl):PG X (.Subscript o i pos) (B9 to ti t):=by
 intro a8 s σ H v u Q I r h
 rw[ha]
 refine aa (c_ (aD (ho a8 s σ H _ I h) fun ov s1 ⟨x,H1,I1,r1,q1⟩=>?_))
 refine aa (c_ (aD (hi a8 s1 σ H1 _ I1 q1) fun iv s2 ⟨y,H2,I2,r2,q2⟩=>?_))
 refine aa (kz (aa (c_ (aD (hs a8 s2 σ H2 x y v ov iv u _ I2 r1 r2 r q2) fun _ s3 ⟨H3,I3,q3⟩=>?_))))
 exact wpAny_release ⟨σ,H3,I3,q3⟩
noncomputable def ni(te:TE)(g:TG):TS:=fun D σ H=>te σ H fun x H1=>g x σ H1 D.nx
theorem iU{tg e:Expr}{te:TE}{g:TG}(he:PE X e te)(hg:PG X tg g)(hs:swapsWithSole [tg] e pos.line X.env=pure false:=by rfl)(hw:swappedStores [tg] e X.env=pure none:=by rfl)
  (h1:(assignEach [tg] X.env).map (·.2)=[assign tg X.env]:=by rfl):PS X (.Assign [tg] e pos) (ni te g):=by
 intro a8 s σ H D I h
 refine wpAny_Assign_stores (aD (he a8 s σ H _ I h) fun v s1 ⟨x,H1,I1,r1,q1⟩=>?_) hs hw
 rw[h1]
 exact aD (hg a8 s1 σ H1 x v _ I1 r1 q1) fun _ s2 q=>q
theorem bR{i:Nat}{x:Str}{e:Expr}{te:TE}{pos':Pos}(hN:X.N.Nodup)(hi:X.N[i]?=some x)(hx:p6 X.env.scope x)(he:PE X e te)(hs:swapsWith e (some (.Name x pos')) pos.line X.env=pure false:=by rfl)(hf:X.fn x=true\/X.env.scope.names.lookup x=some .local :=by first|exact .inl rfl|exact .inr rfl|assumption):
  PS X (.Assign [.Name x pos'] e pos) (ni te (dH i)):=by
 intro a8 s σ H D I h
 refine wpAny_Assign_Name (aD (he a8 s σ H _ I h) fun v s1 ⟨y,H1,I1,r1,q1⟩=>?_) hs
 exact pd I1 hN hi hx r1 (fun s2 I2=>⟨_,H1,I2,q1⟩) hf
noncomputable def GM(i j:Nat)(ta:TA):TS:=fun D σ H=>ta σ H fun vs H1=>∃v w,vs=[v,w]/\D.nx ((σ.set i (some v)).set j (some w)) H1
theorem GN{i j:Nat}{x y:Str}{a b:Expr}{ta:TA}{px py pt:Pos}{kt k2 pt2}(hc:X.calm=true)(hN:X.N.Nodup)(hi:X.N[i]?=some x)(hj:X.N[j]?=some y)(hij:i≠j)
  (hx:X.env.scope.names.lookup x=some .local) (hy:X.env.scope.names.lookup y=some .local) (ha:PA X [a,b] ta)
  (hw:swappedStores [.Tuple [.Name x px,.Name y py] kt pt] (.Tuple [a,b] k2 pt2) X.env=pure (some [x,y]))
  (hs:swapsWithSole [.Tuple [.Name x px,.Name y py] kt pt] (.Tuple [a,b] k2 pt2) pos.line X.env=pure false:=by rfl):
  PS X (.Assign [.Tuple [.Name x px,.Name y py] kt pt] (.Tuple [a,b] k2 pt2) pos) (GM i j ta):=by
 intro a8 s σ H D I h
 rw[exec_Assign_arm]
 refine aa (kz ?_)
 rw[hs]
 refine aa (ao ?_)
 rw[av (by decide)]
 refine aa (Tuple_ (aD (ha _ a8 s σ H _ I h) fun us s1 ⟨vs,H1,I1,r1,q1⟩=>?_))
 obtain⟨v,w,e1,q1⟩:=q1
 subst e1
 obtain⟨u1,u2,rfl,rv,rw'⟩:∃u1 u2,us=[u1,u2]/\aO v u1/\aO w u2:=by
  cases r1 with
  |cons p q=>
   cases q with
   |cons p' q'=>
    cases q'
    exact⟨_,_,rfl,p,p'⟩
 refine iw ?_ (by show 2<=sizeLine;decide)
 have I2:ah X a8 σ H1 {s1 with heap:=s1.heap.push {cls:=.type "tuple",data:=.seq [u1,u2].toArray}}:=I1.kept (t':=s1.toks) fun b o e=>aW _ e
 rw[hw]
 refine aa (ao ?_)
 show wpAny (model X.prog X.w) X.A (do rule "assign.swapped-stores";let items<-unpackItems (.ref s1.heap.objs.size) 2 none;assignInOrder [fun v=>bindName X.env y v,fun v=>bindName X.env x v] items.reverse;pure Flow.next) _ _ _
 refine aa (i9 (aa (unpackItems_tuple (items:= #[u1,u2]) (I.ok.hd hc) (IsTup.new s1.heap _) fun h' hx'=>?_)))
 have I3:=I2.kept (h':=h') (t':=s1.toks) fun b o e=>hx' b o (bP (bg e)) e
 show wpAny _ _ (assignInOrder [fun v=>bindName X.env y v,fun v=>bindName X.env x v] [u2,u1] >>=fun _=>pure Flow.next) _ _ _
 refine aa (Gk (wpAny_bindName (pd I3 hN hj (.inl hy) rw' (fun s2 I4=>?_) (.inr hy))))
 refine Gk (wpAny_bindName (pd I4 hN hi (.inl hx) rv (fun s3 I5=>assignInOrder_nil (ao ?_)) (.inr hx)))
 rw[List.set_comm _ _ (Ne.symm hij)]at I5
 exact⟨_,H1,I5,q1⟩
noncomputable def Ba(i:Nat)(te:TE)(ti:ph):TS:=fun D σ H=>∃x,σ[i]?=some (some x)/\te σ H fun y H1=>ti x y H1 fun z H2=>D.nx (σ.set i (some z)) H2
theorem GO{i:Nat}{x:Str}{e:Expr}{te:TE}{op:Operator}{ti:ph}{pos':Pos}(hN:X.N.Nodup)(hi:X.N[i]?=some x)(hx:p6 X.env.scope x)(he:PE X e te)(ho:B8 X op ti)(hf:X.fn x=true\/X.env.scope.names.lookup x=some .local :=by first|exact .inl rfl|exact .inr rfl|assumption):
  PS X (.AugAssign (.Name x pos') op e pos) (Ba i te ti):=by
 intro a8 s σ H D I h
 obtain⟨v,e1,h⟩:=h
 obtain⟨m,hn,hl⟩:=I.loc
 have vis:rk X.env.scope x:=by rcases hx with k|k;exact .inl k;exact .inr (.inl k)
 obtain⟨u,r,l⟩:=hl i x v hi e1 vis
 refine wpAny_AugAssign_Name ?_
 have go:wpAny (model X.prog X.w) X.A (eval e X.env) (fun w s₂=>wpAny (model X.prog X.w) X.A (inplaceOp op u w) (fun r s₃=>wpAny (model X.prog X.w) X.A (storeName X.env x r) (fun _=>SP X a8 D .next) X.xe s₃) X.xe s₂) X.xe s:=by
  refine aD (he a8 s σ H _ I h) fun w s1 ⟨y,H1,I1,r1,q1⟩=>?_
  refine aD (ho a8 s1 σ H1 v y u w _ I1 r r1 q1) fun z s2 ⟨zv,H2,I2,r2,q2⟩=>?_
  exact pd I2 hN hi hx r2 (fun s3 I3=>⟨_,H2,I3,q2⟩) hf
 rcases l with⟨hk,hm⟩|⟨hk,c,hc,hcell⟩
 ·exact wpAny_loadName_local I.ok.kind hk hn hm go
 ·rcases hk with hk|hk
  ·exact wpAny_loadName_cell I.ok.kind hk hc hcell go
  ·rcases hx with k|k
   ·have:X.env.scope.names.lookup x=some .free:=hk
    rw[k]at this;cases this
   ·have:X.env.scope.names.lookup x=some .free:=hk
    rw[k]at this;cases this
noncomputable def Bb(f:Int->Int->Int):ph:=fun x y H Q=>∃i j,x=.int i/\y=.int j/\Q (.int (f i j)) H
theorem Bc:B8 X .Add (Bb fun i j=>i+j):=by
 intro a8 s σ H x y v u Q I r1 r2 h
 obtain⟨i,j,e1,e2,q⟩:=h
 subst e1;subst e2
 obtain⟨t,rfl⟩:=r1
 obtain⟨t',rfl⟩:=r2
 exact iadd_int ⟨.int _,H,I.tok _,⟨_,rfl⟩,q⟩
end
section
variable{X:Cx}{pos:Pos}
noncomputable def Be(c:TT)(tb:TS):TS:=fun D σ H=>∃W:Nat->St->Hp->Prop,(∃m,W m σ H)/\∀m σ H,W m σ H->
 c σ H fun b H1=>if b=true then ∃N:St->Hp->Prop,(∀σ' H',N σ' H'->∃m',m'<m/\W m' σ' H')/\tb {D with nx:=N,ct:=N,bk:=D.nx} σ H1 else D.nx σ H1
theorem Bf{c:Expr}{body:List Stmt}{tc:TT}{tb:TS}(hp:PassesOwn (model X.prog X.w) X.A X.env X.xe)(hc:PT X c tc)(hb:gz X body tb):PS X (.While c body [] pos) (Be tc tb):=by
 intro a8 s σ H D I h
 obtain⟨W,⟨m0,w0⟩,turn⟩:=h
 refine wpAny_While (codeAny_whileLoop (fun n s'=>∃σ' H',ah X a8 σ' H' s'/\W n σ' H') ?_ m0 ⟨σ,H,I,w0⟩)
 rintro n s1 ⟨σ1,H1,I1,w1⟩
 refine oG hp (aD (hc a8 s1 σ1 H1 _ I1 (turn n σ1 H1 w1)) fun b s2 ⟨H2,I2,q2⟩=>?_)
 cases b with
 |true=>
  obtain⟨N,hN,q2⟩:=q2
  rw[aH rfl]
  refine oG hp (aD (hb a8 s2 σ1 H2 _ I2 q2) fun f s3 q3=>?_)
  cases f with
  |next=>
   obtain⟨σ3,H3,I3,n3⟩:=q3
   obtain⟨m',hm,w3⟩:=hN σ3 H3 n3
   exact⟨m',hm,σ3,H3,I3,w3⟩
  |cont=>
   obtain⟨σ3,H3,I3,n3⟩:=q3
   obtain⟨m',hm,w3⟩:=hN σ3 H3 n3
   exact⟨m',hm,σ3,H3,I3,w3⟩
  |brk=>exact q3
  |ret v=>exact q3
 |false=>
  rw[av cq]
  exact A2 ⟨σ1,H2,I2,q2⟩
end
set_option genInjectivity false in
structure It where
 go:Nat->Hp->Prop
 yld:Nat->Hp->V->Hp->Prop
 stop:Nat->Hp->Prop
noncomputable def cJ(X:Cx)(a8:List (Addr×Obj))(H:Hp)(b:Addr):Prop:=
 H b=none/\b≠X.env.locals/\b∉X.fs/\(b∈X.ex\/X.s₀.heap.objs.size<=b)/\(∀x c,X.env.cells.lookup x=some c->c≠b)/\∀p∈X.pn++a8,p.1≠b
theorem ah.fpOk{X:Cx}{a8:List (Addr×Obj)}{σ:St}{H H':Hp}{s:Shared}{b:Addr}(I:ah X a8 σ H s)(hb:s.heap.objs.size<=b)(hn:H' b=none):cJ X a8 H' b:=by
 refine⟨hn,gv (cL I.lt hb),I.nofs hb,.inr (cN I.sz hb),fun x c e z=>?_,fun p hp z=>?_⟩
 ·obtain⟨v,q⟩:=I.cell x c e
  exact absurd (cL q.lt (by rw[z];exact hb)) (jA _)
 ·exact absurd (cL (bg (I.pin p hp).1) (by rw[z];exact hb)) (jA _)
structure iC(P:Program)(w:World)(K:W.Frag)(tg:Expr)(J:It)(fp:List Addr)(it:Addr)(tn:Nat->Heap->Prop):Prop where
 mem:it∈fp
 obj:∀i h,tn i h->∀b∈fp,∃o,h.get? b=some o/\∀v,o.data≠ .cell v
 keep:∀i h h',tn i h->(∀b∈fp,∀o,h.get? b=some o->h'.get? b=some o)->tn i h'
 item:∀(X:Cx),X.prog=P->X.w=w->X.K=K->X.calm=true->∀(i:Nat) (a8:List (Addr×Obj)) (s:Shared) (σ:St) (H:Hp) (E:Value->Shared->Prop),ah X a8 σ H s->(∀b∈fp,cJ X a8 H b)->tn i s.heap->J.go i H->
  wpAny (model P w) X.A (pyNext (.ref it)) (fun r s1=>∃u,r=some u/\
   wpAny (model P w) X.A (letOwnedTupleGo tg (.ref it) u) (fun _ s2=>∃x H',ah X a8 σ H' s2/\aO x u/\J.yld i H x H'/\tn (i+1) s2.heap/\∀b∈fp,H' b=none) E s1) E s
 done:∀(X:Cx),X.prog=P->X.w=w->X.K=K->X.calm=true->∀(i:Nat) (a8:List (Addr×Obj)) (s:Shared) (σ:St) (H:Hp) (E:Value->Shared->Prop),ah X a8 σ H s->(∀b∈fp,cJ X a8 H b)->tn i s.heap->J.stop i H->
  wpAny (model P w) X.A (pyNext (.ref it)) (fun r s1=>r=none/\ah X a8 σ H s1) E s
 self:∀(A:Around) (i:Nat) (s:Shared) (Q:Value->Shared->Prop) (E:Value->Shared->Prop),tn i s.heap->Q (.ref it) s->wpAny (model P w) A (pyIter (.ref it)) Q E s
abbrev TI:=St->Hp->(It->Hp->Prop)->Prop
noncomputable def Bg(X:Cx)(a8:List (Addr×Obj))(σ:St)(tg:Expr)(R:It->Hp->Prop)(itv:Value)(s2:Shared):Prop:=
 ∃(it:Addr) (fp:List Addr) (tn:Nat->Heap->Prop) (J:It) (H':Hp),itv=.ref it/\ah X a8 σ H' s2/\iC X.prog X.w X.K tg J fp it tn/\tn 0 s2.heap/\(∀b∈fp,cJ X a8 H' b)/\R J H'
noncomputable def PI(X:Cx)(tg iter:Expr)(wi:TI):Prop:=
 ∀(a8:List (Addr×Obj)) (s:Shared) (σ:St) (H:Hp) (R:It->Hp->Prop),ah X a8 σ H s->wi σ H R->
  wpAny (model X.prog X.w) X.A (eval iter X.env) (fun v s1=>wpAny (model X.prog X.w) X.A (pyIter v) (Bg X a8 σ tg R) X.xe s1) X.xe s
theorem pq{M:Model}{A:Around}{E:Value->Shared->Prop}{s:Shared}{tg:Expr}{it:Addr}{u:Value}{o:Obj}{n:String}{vs:Array Value}{Q:Unit->Shared->Prop}(ho:s.heap.get? it=some o)(hc:o.cls=.type n)(hd:o.data=.fields vs)
  (hn:["enumerate","zip","dict_itemiterator","dict_reverseitemiterator","odict_iterator","itertools.zip_longest","itertools.pairwise"].contains n=false) (hQ:Q () s):wpAny M A (letOwnedTupleGo tg (.ref it) u) Q E s:=by
 unfold letOwnedTupleGo
 cases tg<;>first
  |exact ao hQ
  |(cases u<;>first
    |exact ao hQ
    |(refine aa (wpAny_load ho ?_)
      rw[hc,hd]
      show wpAny M A (if(["enumerate","zip","dict_itemiterator","dict_reverseitemiterator","odict_iterator","itertools.zip_longest","itertools.pairwise"].contains n && vs[0]?==some (rawInt _))=true then _ else _) Q E s
      rw[av (by intro h;rw[hn,jz]at h;cases h)]
      exact ao hQ))
noncomputable def kE(K:W.Frag)(a:Addr):It:=
 ⟨fun i H=>∃xs x,ai K H a xs/\xs[i]?=some x,fun i H x H'=>H'=H/\∀xs,ai K H a xs->xs[i]?=some x,fun i H=>∃xs,ai K H a xs/\xs.length<=i⟩
noncomputable def kH(K:W.Frag)(a:Addr):It:=
 ⟨fun i H=>∃xs x,ax K H a xs/\xs[i]?=some x,fun i H x H'=>H'=H/\∀xs,ax K H a xs->xs[i]?=some x,fun i H=>∃xs,ax K H a xs/\xs.length<=i⟩
noncomputable def l_(lo:Int)(n:Nat):It:=⟨fun i _=>i<n,fun i H x H'=>H'=H/\x=.int (lo+i),fun i _=>n<=i⟩
theorem GP{P:Program}{w:World}{K:W.Frag}{tg:Expr}(a it:Addr):iC P w K tg (kE K a) [it] it (fun i h=>h.IsListIter it a i) where
 mem:=by simp
 obj:=fun i h st b hb=>by
  have e:b=it:=by simpa using hb
  subst e
  obtain⟨o,e,c,d⟩:=st
  exact⟨o,e,fun v z=>by rw[d]at z;cases z⟩
 keep:=fun i h h' st k=>st.at fun o e=>k it (by simp) o e
 item:=by
  intro X hP hw hK hc i a8 s σ H E I hf st hg
  subst hP hw hK
  obtain⟨xs,x,hq,hx⟩:=hg
  obtain⟨ak,rv,p,hz⟩:=I.list hq
  obtain⟨u,hu,ru⟩:=rv.get hx
  obtain⟨f0,f1,f2,f3,f4,f5⟩:=hf it (by simp)
  refine G6 st p.isList (x:=u) (by simpa using hu) fun h' st' sb=>?_
  have I1:ah X a8 σ H {s with heap:=h'}:=I.turned (t':=s.toks) (fun b o hb e=>(sb.2 b hb).trans e) f0 f1 f3 f4 f5
  obtain⟨o,e,c,d⟩:=id st'
  exact⟨u,rfl,pq (s:={s with heap:=h'}) e c d (by decide) ⟨x,H,I1,ru,⟨rfl,fun ys hy=>by rw[I.list_inj hy hq];exact hx⟩,st',fun b hb=>(hf b hb).1⟩⟩
 done:=by
  intro X hP hw hK hc i a8 s σ H E I hf st hg
  subst hP hw hK
  obtain⟨xs,hq,hx⟩:=hg
  obtain⟨ak,rv,p,hz⟩:=I.list hq
  obtain⟨f0,f1,f2,f3,f4,f5⟩:=hf it (by simp)
  have hl:=rv.length
  exact G8 (I.ok.hd hc) st p.isList (by simp;omega) fun h' eb=>⟨rfl,I.turned (t':=s.toks) (fun b o hb e=>eb b o hb e) f0 f1 f3 f4 f5⟩
 self:=fun _ _ _ _ _ st h=>wpAny_pyIter_listiter st h
theorem GQ{P:Program}{w:World}{K:W.Frag}{tg:Expr}(a it:Addr):iC P w K tg (kH K a) [it] it (fun i h=>h.IsTupleIter it a i) where
 mem:=by simp
 obj:=fun i h st b hb=>by
  have e:b=it:=by simpa using hb
  subst e
  obtain⟨o,e,c,d⟩:=st
  exact⟨o,e,fun v z=>by rw[d]at z;cases z⟩
 keep:=fun i h h' st k=>st.at fun o e=>k it (by simp) o e
 item:=by
  intro X hP hw hK hc i a8 s σ H E I hf st hg
  subst hP hw hK
  obtain⟨xs,x,hq,hx⟩:=hg
  obtain⟨ak,rv,p,hz⟩:=I.tuple hq
  obtain⟨u,hu,ru⟩:=rv.get hx
  obtain⟨f0,f1,f2,f3,f4,f5⟩:=hf it (by simp)
  refine wpAny_pyNext_tuple_item st (show s.heap.IsTuple a ak.toArray from p) (x:=u) (by simpa using hu) fun h' st' sb=>?_
  have I1:ah X a8 σ H {s with heap:=h'}:=I.turned (t':=s.toks) (fun b o hb e=>(sb.2 b hb).trans e) f0 f1 f3 f4 f5
  obtain⟨o,e,c,d⟩:=id st'
  exact⟨u,rfl,pq (s:={s with heap:=h'}) e c d (by decide) ⟨x,H,I1,ru,⟨rfl,fun ys hy=>by rw[I.tuple_inj hy hq];exact hx⟩,st',fun b hb=>(hf b hb).1⟩⟩
 done:=by
  intro X hP hw hK hc i a8 s σ H E I hf st hg
  subst hP hw hK
  obtain⟨xs,hq,hx⟩:=hg
  obtain⟨ak,rv,p,hz⟩:=I.tuple hq
  obtain⟨f0,f1,f2,f3,f4,f5⟩:=hf it (by simp)
  have hl:=rv.length
  exact wpAny_pyNext_tuple_end (I.ok.hd hc) st (show s.heap.IsTuple a ak.toArray from p) (by simp;omega) fun h' eb=>⟨rfl,I.turned (t':=s.toks) (fun b o hb e=>eb b o hb e) f0 f1 f3 f4 f5⟩
 self:=fun _ _ _ _ _ st h=>wpAny_pyIter_tupleiter st h
theorem GR{P:Program}{w:World}{K:W.Frag}{tg:Expr}(it:Addr)(lo:Int)(n:Nat):iC P w K tg (l_ lo n) [it] it (fun i h=>IsRangeIter h it (lo+(i:Nat)*1) ((n:Int) - (i:Nat)) 1) where
 mem:=by simp
 obj:=fun i h st b hb=>by
  have e:b=it:=by simpa using hb
  subst e
  exact⟨_,st,fun v z=>by
   have z':Data.fields _=Data.cell v:=z
   cases z'⟩
 keep:=fun i h h' st k=>k it (by simp) _ st
 item:=by
  intro X hP hw hK hc i a8 s σ H E I hf st hg
  subst hP hw hK
  obtain⟨f0,f1,f2,f3,f4,f5⟩:=hf it (by simp)
  have W:=Walks.range (prog:=X.prog) (w:=X.w) (I.ok.hd hc) it lo 1 n
  refine W.item i s _ _ hg st fun v h' tk hv st' kk=>?_
  obtain⟨t,rfl⟩:=hv
  have I1:ah X a8 σ H {s with heap:=h',toks:=tk}:=I.turned (fun b o hb e=>kk b o (by simpa using hb) e) f0 f1 f3 f4 f5
  refine⟨_,rfl,pq (s:={s with heap:=h',toks:=tk}) (n:="range_iterator") st' rfl rfl (by decide) ⟨.int (lo+i),H,I1,⟨t,?_⟩,⟨rfl,rfl⟩,st',fun b hb=>(hf b hb).1⟩⟩
  rw[Int.mul_one]
 done:=by
  intro X hP hw hK hc i a8 s σ H E I hf st hg
  subst hP hw hK
  obtain⟨f0,f1,f2,f3,f4,f5⟩:=hf it (by simp)
  exact wpAny_pyNext_range_end (I.ok.hd hc) st (by have:n<=i:=hg;omega) fun h' eb=>⟨rfl,I.turned (t':=s.toks) (fun b o hb e=>eb b o hb e) f0 f1 f3 f4 f5⟩
 self:=fun _ _ _ _ _ st h=>wpAny_pyIter_rangeiter st h
section
variable{X:Cx}{tg:Expr}
noncomputable def rC(K:W.Frag)(tl:TE):TI:=fun σ H R=>tl σ H fun x H1=>∃a,x=.ref a/\(∃xs,ai K H1 a xs)/\R (kE K a) H1
noncomputable def pz(K:W.Frag)(tl:TE):TI:=fun σ H R=>tl σ H fun x H1=>∃a,x=.ref a/\(∃xs,ax K H1 a xs)/\R (kH K a) H1
theorem GS{l:Expr}{tl:TE}(hl:PE X l tl):PI X tg l (rC X.K tl):=by
 intro a8 s σ H R I h
 refine aD (hl a8 s σ H _ I h) fun v s1 ⟨x,H1,I1,r1,q1⟩=>?_
 obtain⟨a,e,⟨xs,hq⟩,q⟩:=q1
 subst e
 cases r1
 obtain⟨ak,rv,p,hz⟩:=I1.list hq
 refine uG p.isList ?_
 refine⟨s1.heap.objs.size,[s1.heap.objs.size],_,_,H1,rfl,I1.kept (t':=s1.toks) fun b o e=>aW _ e,GP a _,⟨_,bV _ rfl,rfl,rfl⟩,fun b hb=>?_,q⟩
 have e:b=s1.heap.objs.size:=by simpa using hb
 subst e
 exact I1.fpOk (aG _) (I1.hok.fresh (aG _))
theorem GT{l:Expr}{tl:TE}(hl:PE X l tl):PI X tg l (pz X.K tl):=by
 intro a8 s σ H R I h
 refine aD (hl a8 s σ H _ I h) fun v s1 ⟨x,H1,I1,r1,q1⟩=>?_
 obtain⟨a,e,⟨xs,hq⟩,q⟩:=q1
 subst e
 cases r1
 obtain⟨ak,rv,p,hz⟩:=I1.tuple hq
 refine uD (show s1.heap.IsTuple a ak.toArray from p) ?_
 refine⟨s1.heap.objs.size,[s1.heap.objs.size],_,_,H1,rfl,I1.kept (t':=s1.toks) fun b o e=>aW _ e,GQ a _,⟨_,bV _ rfl,rfl,rfl⟩,fun b hb=>?_,q⟩
 have e:b=s1.heap.objs.size:=by simpa using hb
 subst e
 exact I1.fpOk (aG _) (I1.hok.fresh (aG _))
theorem Bh{a8:List (Addr×Obj)}{σ:St}{H:Hp}{s:Shared}{R:It->Hp->Prop}{E:Value->Shared->Prop}{lo hi:Int}{t u v:Tok}{tk:Nat}(I:ah X a8 σ H s)(h1: -(2 ^ 62)<=lo)(h2:lo<2 ^ 62)(h3: -(2 ^ 62)<=hi)(h4:hi<2 ^ 62)
  (q:R (l_ lo (hi - lo).toNat) H):wpAny (model X.prog X.w) X.A (pyIter (.ref s.heap.objs.size)) (Bg X a8 σ tg R) E {s with heap:=s.heap.push {cls:=.type "range",data:=.fields #[.int lo t,.int hi u,.int 1 v]},toks:=tk}:=by
 refine wpAny_pyIter_range (IsRange.new ..) (small_one h1 h2 h3 h4) ?_
 have I1:ah X a8 σ H {s with heap:=s.heap.push {cls:=.type "range",data:=.fields #[.int lo t,.int hi u,.int 1 v]},toks:=tk}:=I.kept fun b o e=>aW _ e
 refine⟨(s.heap.push {cls:=.type "range",data:=.fields #[.int lo t,.int hi u,.int 1 v]}).objs.size,[(s.heap.push {cls:=.type "range",data:=.fields #[.int lo t,.int hi u,.int 1 v]}).objs.size],_,_,H,rfl,
  I1.kept (t':=tk) fun b o e=>aW _ e,GR _ lo (hi - lo).toNat,?_,fun b hb=>?_,q⟩
 ·have e1:lo+((0:Nat):Int)*1=lo:=by simp
  have e2:(((hi - lo).toNat:Nat):Int) - ((0:Nat):Int)=Builtin.Range.rangeSize lo hi 1:=by rw[rangeSize_one];split<;>omega
  show IsRangeIter _ _ (lo+((0:Nat):Int)*1) ((((hi - lo).toNat:Nat):Int) - ((0:Nat):Int)) 1
  rw[e1,e2]
  exact bV _ rfl
 ·have e:b=(s.heap.push {cls:=.type "range",data:=.fields #[.int lo t,.int hi u,.int 1 v]}).objs.size:=by simpa using hb
  subst e
  exact I1.fpOk (aG _) (I1.hok.fresh (aG _))
noncomputable def Bi(ta:TA):TI:=fun σ H R=>ta σ H fun vs H1=>∃j:Int,vs=[.int j]/\ -(2 ^ 62)<=j/\j<2 ^ 62/\R (l_ 0 j.toNat) H1
noncomputable def Bj(ta:TA):TI:=fun σ H R=>ta σ H fun vs H1=>∃i j:Int,vs=[.int i,.int j]/\(-(2 ^ 62)<=i/\i<2 ^ 62/\ -(2 ^ 62)<=j/\j<2 ^ 62)/\R (l_ i (j - i).toNat) H1
theorem nj{a:Expr}{ta:TA}{p pos:Pos}(hg:Gl X "range")(hm:X.mg "range"=none)(ha:PA X [a] ta)(hs:starEach [a] X.env=[(false,eval a X.env)]:=by rfl):PI X tg (.Call (.Name "range" p) [a] [] pos) (Bi ta):=by
 intro a8 s σ H R I h
 refine Call_ (jJ I hg hm boot_range (ou (aD (ha pos a8 s σ H _ I h) fun us s1 ⟨vs,H1,I1,r1,q1⟩=>?_) hs rfl))
 obtain⟨j,e,q1,q2,q⟩:=q1
 subst e
 cases r1 with
 |cons r rr=>
  cases rr
  obtain⟨t,rfl⟩:=r
  exact call_range_1 (Bh I1 (by omega) (by omega) q1 q2 (by simpa using q))
theorem uX{a b:Expr}{ta:TA}{p pos:Pos}(hg:Gl X "range")(hm:X.mg "range"=none)(ha:PA X [a,b] ta)(hs:starEach [a,b] X.env=[(false,eval a X.env),(false,eval b X.env)]:=by rfl)(hs2:starEach [b] X.env=[(false,eval b X.env)]:=by rfl):
  PI X tg (.Call (.Name "range" p) [a,b] [] pos) (Bj ta):=by
 intro a8 s σ H R I h
 refine Call_ (jJ I hg hm boot_range (ou (aD (ha pos a8 s σ H _ I h) fun us s1 ⟨vs,H1,I1,r1,q1⟩=>?_) (by rw[hs,hs2]) (by rw[hs2];rfl)))
 obtain⟨i,j,e,⟨q1,q2,q3,q4⟩,q⟩:=q1
 subst e
 cases r1 with
 |cons r rr=>
  cases rr with
  |cons r' rr=>
   cases rr
   obtain⟨t,rfl⟩:=r
   obtain⟨t',rfl⟩:=r'
   exact call_range_2 (Bh I1 q1 q2 q3 q4 q)
noncomputable def Bk(wi:TI)(g:TG)(tb:TS):TS:=fun D σ H=>wi σ H fun J H1=>∃W:Nat->Nat->St->Hp->Prop,(∃m,W 0 m σ H1)/\∀i m σ H,W i m σ H->
 (J.stop i H/\D.nx σ H)\/(J.go i H/\∃N:St->Hp->Prop,(∀σ' H',N σ' H'->∃m',m'<m/\W (i+1) m' σ' H')/\∀x H',J.yld i H x H'->g x σ H' fun σ2 H2=>tb {D with nx:=N,ct:=N,bk:=D.nx} σ2 H2)
noncomputable def m5(fp:List Addr)(h:Heap):List (Addr×Obj):=fp.filterMap fun b=>(h.get? b).map fun o=>(b,o)
theorem kI{fp:List Addr}{h:Heap}{b:Addr}{o:Obj}(hb:b∈fp)(e:h.get? b=some o):(b,o)∈m5 fp h:=List.mem_filterMap.mpr ⟨b,hb,by rw[e];rfl⟩
theorem Bm{fp:List Addr}{h:Heap}{p:Addr×Obj}(hp:p∈m5 fp h):p.1∈fp/\h.get? p.1=some p.2:=by
 obtain⟨b,hb,e⟩:=List.mem_filterMap.mp hp
 cases q:h.get? b with
 |none=>rw[q]at e;cases e
 |some o=>
  rw[q]at e
  have e':(b,o)=p:=cm e
  subst e'
  exact⟨hb,q⟩
theorem ah.pinned{a8:List (Addr×Obj)}{σ:St}{H:Hp}{s:Shared}{fp:List Addr}(I:ah X a8 σ H s)(hf:∀b∈fp,cJ X a8 H b)(ho:∀b∈fp,∃o,s.heap.get? b=some o/\∀v,o.data≠ .cell v):ah X (a8++m5 fp s.heap) σ H s:=
 I.pins_of fun p hp=>(iu.mp hp).elim (fun z=>I.pin p (dZ _ z)) fun z=>by
  obtain⟨hb,e⟩:=Bm z
  obtain⟨f0,f1,f2,_⟩:=hf p.1 hb
  obtain⟨o,e',d⟩:=ho p.1 hb
  rw[e]at e';cases e'
  exact⟨e,f0,f1,f2,d⟩
theorem ah.unpinned{a8 pl:List (Addr×Obj)}{σ:St}{H:Hp}{s:Shared}(I:ah X (a8++pl) σ H s):ah X a8 σ H s:=I.pins_of fun p hp=>I.pin p (dZ _ (ki _ hp))
theorem hU{iter:Expr}{body:List Stmt}{wi:TI}{g:TG}{tb:TS}{pos:Pos}(hp:PassesOwn (model X.prog X.w) X.A X.env X.xe)(hc:X.calm=true)(hi:PI X tg iter wi)(hg:PG X tg g)(hb:gz X body tb)
  (hs:∀x,foldedSetIterable iter X.env x=pure x:=by intro _;rfl):PS X (.For tg iter body [] pos) (Bk wi g tb):=by
 intro a8 s σ H D I h
 refine wpAny_For (aD (hi a8 s σ H _ I h) fun v s1 h1=>aD h1 fun itv s2 h2=>?_) hs
 obtain⟨it,fp,tn,J,H2,e,I2,T,st2,f2,W,⟨m0,w0⟩,turn⟩:=h2
 subst e
 have stat:∀{H':Hp},(∀b∈fp,H' b=none)->∀b∈fp,cJ X a8 H' b:=fun hn b hb=>⟨hn b hb,(f2 b hb).2⟩
 refine codeAny_forLoop_any (fun n s'=>∃i σ' H',ah X a8 σ' H' s'/\tn i s'.heap/\(∀b∈fp,H' b=none)/\W i n σ' H') ?_ m0 ⟨0,σ,H2,I2,st2,fun b hb=>(f2 b hb).1,w0⟩
 rintro n s3 ⟨i,σ3,H3,I3,st3,fr3,w3⟩
 rcases turn i n σ3 H3 w3 with⟨stop,qn⟩|⟨go,N,hN,step⟩
 ·refine oG hp (aD (T.done X rfl rfl rfl hc i a8 s3 σ3 H3 X.xe I3 (stat fr3) st3 stop) fun r s4 ⟨hr,I4⟩=>?_)
  subst hr
  exact A2 ⟨σ3,H3,I4,qn⟩
 ·refine oG hp (aD (T.item X rfl rfl rfl hc i a8 s3 σ3 H3 X.xe I3 (stat fr3) st3 go) fun r s4 ⟨u,hr,h4⟩=>?_)
  subst hr
  refine oG hp (aD h4 fun _ s5 ⟨x,H5,I5,r5,y5,st5,fr5⟩=>?_)
  have I5':=I5.pinned (stat fr5) (T.obj _ _ st5)
  refine oG hp (aD (hg _ s5 σ3 H5 x u _ I5' r5 (step x H5 y5)) fun _ s6 ⟨σ6,H6,I6,q6⟩=>?_)
  refine oG hp (aD (hb _ s6 σ6 H6 _ I6 q6) fun f s7 q7=>?_)
  have again:∀{σ7:St} {H7:Hp},ah X (a8++m5 fp s5.heap) σ7 H7 s7->N σ7 H7->∃m,m<n/\∃i σ' H',ah X a8 σ' H' s7/\tn i s7.heap/\(∀b∈fp,H' b=none)/\W i m σ' H':=fun{σ7 H7} I7 n7=>by
   obtain⟨m',hm,w7⟩:=hN σ7 H7 n7
   refine⟨m',hm,i+1,σ7,H7,I7.unpinned,T.keep _ _ _ st5 fun b hb o e=>(I7.pin (b,o) (dZ _ (dZ _ (kI hb e)))).1,fun b hb=>?_,w7⟩
   obtain⟨o,e,d⟩:=T.obj _ _ st5 b hb
   exact(I7.pin (b,o) (dZ _ (dZ _ (kI hb e)))).2.1
  cases f with
  |next=>obtain⟨σ7,H7,I7,n7⟩:=q7;exact again I7 n7
  |cont=>obtain⟨σ7,H7,I7,n7⟩:=q7;exact again I7 n7
  |brk=>obtain⟨σ7,H7,I7,q7⟩:=q7;exact⟨σ7,H7,I7.unpinned,q7⟩
  |ret v=>obtain⟨x7,σ7,H7,I7,r7,q7⟩:=q7;exact⟨x7,σ7,H7,I7.unpinned,r7,q7⟩
end
theorem GU{c:TT}{tb:TS}{D:gY}{σ:St}{H:Hp}(Pv:St->Hp->Prop)(μ:St->Hp->Nat)(h0:Pv σ H)
  (hs:∀σ H,Pv σ H->c σ H fun b H1=>if b=true then tb {D with nx:=fun σ' H'=>Pv σ' H'/\μ σ' H'<μ σ H,ct:=fun σ' H'=>Pv σ' H'/\μ σ' H'<μ σ H,bk:=D.nx} σ H1 else D.nx σ H1)
  (mono:∀σ H Q Q',(∀b H1,Q b H1->Q' b H1)->c σ H Q->c σ H Q'):Be c tb D σ H:=by
 refine⟨fun m σ H=>m=μ σ H/\Pv σ H,⟨_,rfl,h0⟩,?_⟩
 rintro m σ H ⟨rfl,p⟩
 refine mono σ H _ _ (fun b H1 q=>?_) (hs σ H p)
 cases b with
 |true=>exact⟨_,fun σ' H' ⟨p',l⟩=>⟨_,l,rfl,p'⟩,q⟩
 |false=>exact q
abbrev R2:=V->V->Hp->VK->Prop
noncomputable def bJ(X:Cx)(f:Value->Value->Sem Value)(r:R2):Prop:=
 ∀(a8:List (Addr×Obj)) (s:Shared) (σ:St) (H:Hp) (x y:V) (v u:Value) (Q:VK),ah X a8 σ H s->aO x v->aO y u->r x y H Q->
  wpAny (model X.prog X.w) X.A (f v u) (EP X a8 σ Q) X.xe s
noncomputable def uY(X:Cx)(f:Value->Sem Value)(r:V->Hp->VK->Prop):Prop:=
 ∀(a8:List (Addr×Obj)) (s:Shared) (σ:St) (H:Hp) (x:V) (v:Value) (Q:VK),ah X a8 σ H s->aO x v->r x H Q->
  wpAny (model X.prog X.w) X.A (f v) (EP X a8 σ Q) X.xe s
noncomputable def cO(X:Cx)(f:Value)(r:List V->Hp->VK->Prop):Prop:=
 ∀(a8:List (Addr×Obj)) (s:Shared) (σ:St) (H:Hp) (xs:List V) (us:List Value) (Q:VK),ah X a8 σ H s->aP xs us->r xs H Q->
  wpAny (model X.prog X.w) X.A (call f us) (EP X a8 σ Q) X.xe s
noncomputable def kJ(r:R2)(ta tb:TE):TE:=fun σ H Q=>ta σ H fun x H1=>tb σ H1 fun y H2=>r x y H2 Q
noncomputable def Bn(r:V->Hp->VK->Prop)(ta:TE):TE:=fun σ H Q=>ta σ H fun x H1=>r x H1 Q
noncomputable def rI(C:Int->Int->Prop)(g:Int->Int->V):R2:=fun x y H Q=>∃i j,x=.int i/\y=.int j/\C i j/\Q (g i j) H
noncomputable def iD(g:Int->Int->V):R2:=fun x y H Q=>∃i j,x=.int i/\y=.int j/\Q (g i j) H
noncomputable def rU(g:Int->V):V->Hp->VK->Prop:=fun x H Q=>∃i,x=.int i/\Q (g i) H
section
variable{X:Cx}{a b c:Expr}{ta tb tc:TE}{pos:Pos}
theorem uZ(ha:PE X a ta)(hb:PE X b tb){a8:List (Addr×Obj)}{s:Shared}{σ:St}{H:Hp}{R:V->V->Hp->Prop}(I:ah X a8 σ H s)
  (h:ta σ H fun x H1=>tb σ H1 fun y H2=>R x y H2) {Q:Value->Shared->Prop} {f:Value->Value->Sem Value}
  (hf:∀v u s2 x y H2,ah X a8 σ H2 s2->aO x v->aO y u->R x y H2->wpAny (model X.prog X.w) X.A (f v u) Q X.xe s2):
  wpAny (model X.prog X.w) X.A (eval a X.env) (fun v s₁=>wpAny (model X.prog X.w) X.A (eval b X.env) (fun u s₂=>wpAny (model X.prog X.w) X.A (f v u) Q X.xe s₂) X.xe s₁) X.xe s:=by
 refine aD (ha a8 s σ H _ I h) fun v s1 ⟨x,H1,I1,r1,q1⟩=>?_
 refine aD (hb a8 s1 σ H1 _ I1 q1) fun u s2 ⟨y,H2,I2,r2,q2⟩=>?_
 exact hf v u s2 x y H2 I2 r1 r2 q2
theorem bu{op:Operator}{r:R2}(ho:bJ X (binaryOp op) r)(ha:PE X a ta)(hb:PE X b tb):PE X (.BinOp a op b pos) (kJ r ta tb):=by
 intro a8 s σ H Q I h
 exact wpAny_BinOp (uZ ha hb I h fun v u s2 x y H2 I2 rx ry q=>ho a8 s2 σ H2 x y v u Q I2 rx ry q)
theorem u_{op:UnaryOp}{r:V->Hp->VK->Prop}(ho:uY X (unaryOp op) r)(ha:PE X a ta):PE X (.UnaryOp op a pos) (Bn r ta):=by
 intro a8 s σ H Q I h
 exact UnaryOp_ (aD (ha a8 s σ H _ I h) fun v s1 ⟨x,H1,I1,r1,q1⟩=>ho a8 s1 σ H1 x v Q I1 r1 q1)
theorem pA{f:Value->Value->Sem Value}{C:Int->Int->Prop}{g:Int->Int->Int}
  (rule:∀(i j:Int) (t u:Tok) (s:Shared) (Q:Value->Shared->Prop) (E:Value->Shared->Prop),C i j->Q (.int (g i j) s.toks) {s with toks:=s.toks+1}->wpAny (model X.prog X.w) X.A (f (.int i t) (.int j u)) Q E s):
  bJ X f (rI C fun i j=>.int (g i j)):=by
 intro a8 s σ H x y v u Q I rx ry h
 obtain⟨i,j,rfl,rfl,hc,q⟩:=h
 obtain⟨t,rfl⟩:=rx
 obtain⟨t',rfl⟩:=ry
 exact rule i j t t' s _ _ hc ⟨.int (g i j),H,I.tok _,⟨_,rfl⟩,q⟩
theorem Bo{f:Value->Value->Sem Value}{g:Int->Int->Int}
  (rule:∀(i j:Int) (t u:Tok) (s:Shared) (Q:Value->Shared->Prop) (E:Value->Shared->Prop),Q (.int (g i j) s.toks) {s with toks:=s.toks+1}->wpAny (model X.prog X.w) X.A (f (.int i t) (.int j u)) Q E s):
  bJ X f (iD fun i j=>.int (g i j)):=by
 intro a8 s σ H x y v u Q I rx ry h
 obtain⟨i,j,rfl,rfl,q⟩:=h
 obtain⟨t,rfl⟩:=rx
 obtain⟨t',rfl⟩:=ry
 exact rule i j t t' s _ _ ⟨.int (g i j),H,I.tok _,⟨_,rfl⟩,q⟩
theorem rE{f:Value->Value->Sem Value}{g:Int->Int->Bool}
  (rule:∀(i j:Int) (t u:Tok) (s:Shared) (Q:Value->Shared->Prop) (E:Value->Shared->Prop),Q (.bool (g i j)) s->wpAny (model X.prog X.w) X.A (f (.int i t) (.int j u)) Q E s):
  bJ X f (iD fun i j=>.bl (g i j)):=by
 intro a8 s σ H x y v u Q I rx ry h
 obtain⟨i,j,rfl,rfl,q⟩:=h
 obtain⟨t,rfl⟩:=rx
 obtain⟨t',rfl⟩:=ry
 exact rule i j t t' s _ _ ⟨.bl (g i j),H,I,rfl,q⟩
noncomputable def v3(i j:Int):Prop:=0<j/\j<1073741824
noncomputable def Bp(i j:Int):Prop:=0<=j/\j<=1000000/\i.natAbs<2 ^ 64
noncomputable def m6(i j:Int):Prop:=(-(2 ^ 64)<i/\i<2 ^ 64)\/(-(2 ^ 64)<j/\j<2 ^ 64)
theorem m6.ok{i j:Int}(h:m6 i j):IntMulOk i j:=by
 rcases h with⟨h1,h2⟩|⟨h1,h2⟩
 ·exact .of_left (intBits_le_64 h1 h2)
 ·exact .of_right (intBits_le_64 h1 h2)
theorem dI:bJ X (binaryOp .Add) (iD fun i j=>.int (i+j)):=Bo fun _ _ _ _ _ _ _ q=>add_int q
theorem v5:bJ X (binaryOp .Sub) (iD fun i j=>.int (i - j)):=Bo fun _ _ _ _ _ _ _ q=>sub_int q
theorem ja:bJ X (binaryOp .Mult) (rI m6 fun i j=>.int (i*j)):=pA fun _ _ _ _ _ _ _ hc q=>mul_int q hc.ok
theorem GV:bJ X (binaryOp .FloorDiv) (rI v3 fun i j=>.int (i / j)):=pA fun i j _ _ _ _ _ hc q=>by
 have h1:(0:Int)<j:=hc.1
 have h2:j<1073741824:=hc.2
 exact floordiv_int (by omega) (by rw[Int.fdiv_eq_ediv_of_nonneg i (by omega)];exact q) (.inl (PyProof.noPylong_small (by omega)))
theorem nk:bJ X (binaryOp .Mod) (rI (fun _ j=>0<j) fun i j=>.int (i % j)):=pA fun i j _ _ _ _ _ hc q=>by
 have h1:(0:Int)<j:=hc
 exact mod_int' (by omega) (by rw[Int.fmod_eq_emod_of_nonneg i (by omega)];exact q)
theorem Bq:bJ X (binaryOp .Pow) (rI Bp fun i j=>.int (i ^ j.toNat)):=pA fun _ _ _ _ _ _ _ hc q=>pow_int_small hc.1 hc.2.1 hc.2.2 q
theorem GW{f:Value->Sem Value}{g:Int->Int}
  (rule:∀(i:Int) (t:Tok) (s:Shared) (Q:Value->Shared->Prop) (E:Value->Shared->Prop),Q (.int (g i) s.toks) {s with toks:=s.toks+1}->wpAny (model X.prog X.w) X.A (f (.int i t)) Q E s):
  uY X f (rU fun i=>.int (g i)):=by
 intro a8 s σ H x v Q I rx h
 obtain⟨i,rfl,q⟩:=h
 obtain⟨t,rfl⟩:=rx
 exact rule i t s _ _ ⟨.int (g i),H,I.tok _,⟨_,rfl⟩,q⟩
theorem v7:uY X (unaryOp .USub) (rU fun i=>.int (-i)):=GW fun _ _ _ _ _ q=>neg_int q
end
noncomputable def rF:V->V->Bool
 |.non,.non=>true|.non,.int _=>true|.int _,.non=>true|.non,.bl _=>true|.bl _,.non=>true|.non,.str _=>true|.str _,.non=>true
 |.int _,.int _=>true|.bl _,.bl _=>true|.str _,.str _=>true|.byt _,.byt _=>true
 |.int _,.str _=>true|.str _,.int _=>true|.bl _,.str _=>true|.str _,.bl _=>true
 |_,_=>false
noncomputable def Br:R2:=fun x y H Q=>rF x y=true/\Q (.bl (decide (x=y))) H
noncomputable def v8:R2:=fun x y H Q=>rF x y=true/\Q (.bl (!decide (x=y))) H
theorem Bu{i j:Int}:decide (V.int i=V.int j)=(i==j):=by
 rw[zR]
 simp
theorem Bv{i j:Bool}:decide (V.bl i=V.bl j)=(i==j):=by
 rw[zR]
 simp
theorem Bw{i j:Str}:decide (V.str i=V.str j)=(i==j):=by
 rw[zR]
 simp
theorem Bx{i j:Array UInt8}:decide (V.byt i=V.byt j)=(i.toList==j.toList):=by
 rw[zR]
 cases i
 cases j
 simp
section
variable{X:Cx}{a b c:Expr}{ta tb tc:TE}{pos:Pos}
theorem cP{a8:List (Addr×Obj)}{σ:St}{H:Hp}{s:Shared}{Q:VK}{k k':Bool}(I:ah X a8 σ H s)(q:Q (.bl k) H)(e:k=k'):EP X a8 σ Q (.bool k') s:=by
 subst e
 exact⟨.bl k,H,I,rfl,q⟩
theorem nu:bJ X (compareOp .Eq) Br:=by
 intro a8 s σ H x y v u Q I rx ry h
 obtain⟨hs,q⟩:=h
 cases x with
 |non=>
  cases rx
  cases y with
  |non=>cases ry;exact EqNone.eq_none_none (cP I q (by simp))
  |bl j=>cases ry;exact EqNone.eq_none_bool (cP I q (by simp))
  |int j=>obtain⟨t',rfl⟩:=ry;exact EqNone.eq_none_int (cP I q (by simp))
  |str j=>obtain⟨t',rfl⟩:=ry;exact EqNone.eq_none_str (cP I q (by simp))
  |_=>exact absurd (show false=true from hs) cq
 |bl i=>
  cases rx
  cases y with
  |non=>cases ry;exact EqNone.eq_bool_none (cP I q (by simp))
  |bl j=>cases ry;exact eq_bool (cP I q Bv)
  |str j=>obtain⟨t',rfl⟩:=ry;exact EqMixed.eq_bool_str (cP I q (by simp))
  |_=>exact absurd (show false=true from hs) cq
 |int i=>
  obtain⟨t,rfl⟩:=rx
  cases y with
  |non=>cases ry;exact EqNone.eq_int_none (cP I q (by simp))
  |int j=>obtain⟨t',rfl⟩:=ry;exact eq_int (cP I q Bu)
  |str j=>obtain⟨t',rfl⟩:=ry;exact EqMixed.eq_int_str (cP I q (by simp))
  |_=>exact absurd (show false=true from hs) cq
 |str i=>
  obtain⟨t,rfl⟩:=rx
  cases y with
  |non=>cases ry;exact EqNone.eq_str_none (cP I q (by simp))
  |bl j=>cases ry;exact EqMixed.eq_str_bool (cP I q (by simp))
  |int j=>obtain⟨t',rfl⟩:=ry;exact EqMixed.eq_str_int (cP I q (by simp))
  |str j=>obtain⟨t',rfl⟩:=ry;exact eq_str (cP I q Bw)
  |_=>exact absurd (show false=true from hs) cq
 |byt i=>
  obtain⟨t,rfl⟩:=rx
  cases y with
  |byt j=>obtain⟨t',rfl⟩:=ry;exact W.eq_bytes (cP I q Bx)
  |_=>exact absurd (show false=true from hs) cq
 |_=>cases y<;>exact absurd (show false=true from hs) cq
theorem ny:bJ X (compareOp .NotEq) v8:=by
 intro a8 s σ H x y v u Q I rx ry h
 obtain⟨hs,q⟩:=h
 cases x with
 |non=>
  cases rx
  cases y with
  |non=>cases ry;exact EqNone.ne_none_none (cP I q (by simp))
  |bl j=>cases ry;exact EqNone.ne_none_bool (cP I q (by simp))
  |int j=>obtain⟨t',rfl⟩:=ry;exact EqNone.ne_none_int (cP I q (by simp))
  |str j=>obtain⟨t',rfl⟩:=ry;exact EqNone.ne_none_str (cP I q (by simp))
  |_=>exact absurd (show false=true from hs) cq
 |bl i=>
  cases rx
  cases y with
  |non=>cases ry;exact EqNone.ne_bool_none (cP I q (by simp))
  |bl j=>cases ry;exact ne_bool (cP I q (congrArg not Bv))
  |str j=>obtain⟨t',rfl⟩:=ry;exact EqMixed.ne_bool_str (cP I q (by simp))
  |_=>exact absurd (show false=true from hs) cq
 |int i=>
  obtain⟨t,rfl⟩:=rx
  cases y with
  |non=>cases ry;exact EqNone.ne_int_none (cP I q (by simp))
  |int j=>obtain⟨t',rfl⟩:=ry;exact ne_int (cP I q (congrArg not Bu))
  |str j=>obtain⟨t',rfl⟩:=ry;exact EqMixed.ne_int_str (cP I q (by simp))
  |_=>exact absurd (show false=true from hs) cq
 |str i=>
  obtain⟨t,rfl⟩:=rx
  cases y with
  |non=>cases ry;exact EqNone.ne_str_none (cP I q (by simp))
  |bl j=>cases ry;exact EqMixed.ne_str_bool (cP I q (by simp))
  |int j=>obtain⟨t',rfl⟩:=ry;exact EqMixed.ne_str_int (cP I q (by simp))
  |str j=>obtain⟨t',rfl⟩:=ry;exact ne_str (cP I q (congrArg not Bw))
  |_=>exact absurd (show false=true from hs) cq
 |byt i=>
  obtain⟨t,rfl⟩:=rx
  cases y with
  |byt j=>obtain⟨t',rfl⟩:=ry;exact W.ne_bytes (cP I q (congrArg not Bx))
  |_=>exact absurd (show false=true from hs) cq
 |_=>cases y<;>exact absurd (show false=true from hs) cq
theorem v9:bJ X (compareOp .Lt) (iD fun i j=>.bl (decide (i<j))):=rE fun _ _ _ _ _ _ _ q=>lt_int q
theorem eR:bJ X (compareOp .LtE) (iD fun i j=>.bl (decide (i<=j))):=rE fun _ _ _ _ _ _ _ q=>le_int q
theorem ia:bJ X (compareOp .Gt) (iD fun i j=>.bl (decide (j<i))):=rE fun _ _ _ _ _ _ _ q=>gt_int q
theorem By:bJ X (compareOp .GtE) (iD fun i j=>.bl (decide (j<=i))):=rE fun _ _ _ _ _ _ _ q=>ge_int q
theorem bJ.or{f:Value->Value->Sem Value}{r r':R2}(h:bJ X f r)(h':bJ X f r'):bJ X f (fun x y H Q=>r x y H Q\/r' x y H Q):=by
 intro a8 s σ H x y v u Q I rx ry q
 rcases q with q|q
 ·exact h a8 s σ H x y v u Q I rx ry q
 ·exact h' a8 s σ H x y v u Q I rx ry q
theorem bO(b:Expr){op:CmpOp}(h:op≠ .In:=by decide)(h2:op≠ .NotIn:=by decide):behindInMarks op b=false:=by
 have e1:(op==CmpOp.In)=false:=by cases op<;>first|rfl|exact absurd rfl h
 have e2:(op==CmpOp.NotIn)=false:=by cases op<;>first|rfl|exact absurd rfl h2
 cases b<;>simp[behindInMarks,e1,e2]
theorem fP{op:CmpOp}{r:R2}(ho:bJ X (compareOp op) r)(ha:PE X a ta)(hb:PE X b tb)(hm:behindInMarks op b=false):PE X (.Compare a [op] [b] pos) (kJ r ta tb):=by
 intro a8 s σ H Q I h
 exact wpAny_Compare1 (uZ ha hb I h fun v u s2 x y H2 I2 rx ry q=>ho a8 s2 σ H2 x y v u Q I2 rx ry q) hm
noncomputable def pB(t:TE):TT:=fun σ H Q=>t σ H fun x H'=>∃k,x=.bl k/\Q k H'
theorem c7{op:CmpOp}{r:R2}(ho:bJ X (compareOp op) r)(ha:PE X a ta)(hb:PE X b tb)(hm:behindInMarks op b=false):PT X (.Compare a [op] [b] pos) (pB (kJ r ta tb)):=by
 intro a8 s σ H Q I h
 refine wpAny_isTrue_Compare1 (aD (ha a8 s σ H _ I h) fun v s1 ⟨x,H1,I1,r1,q1⟩=>aD (hb a8 s1 σ H1 _ I1 q1) fun u s2 ⟨y,H2,I2,r2,q2⟩=>
  aD (ho a8 s2 σ H2 x y v u _ I2 r1 r2 q2) fun c s3 ⟨z,H3,I3,r3,k,e,q3⟩=>?_) hm
 subst e
 cases r3
 exact j8 ⟨H3,I3,q3⟩
noncomputable def rG(r r':R2)(ta tb tc:TE):TE:=fun σ H Q=>ta σ H fun x H1=>tb σ H1 fun y H2=>r x y H2 fun z H3=>∃k,z=.bl k/\
 (if k=true then tc σ H3 fun w' H4=>r' y w' H4 Q else Q (.bl false) H3)
theorem m7{op op':CmpOp}{r r':R2}(ho:bJ X (compareOp op) r)(ho':bJ X (compareOp op') r')(ha:PE X a ta)(hb:PE X b tb)(hc:PE X c tc)
  (hm:lastMarks [op,op'] [b,c]=false:=by with_unfolding_all rfl):PE X (.Compare a [op,op'] [b,c] pos) (rG r r' ta tb tc):=by
 intro a8 s σ H Q I h
 refine Compare_chain (aD (ha a8 s σ H _ I h) fun v s1 ⟨x,H1,I1,r1,q1⟩=>chain_link (aD (hb a8 s1 σ H1 _ I1 q1) fun u s2 ⟨y,H2,I2,r2,q2⟩=>
  aD (ho a8 s2 σ H2 x y v u _ I2 r1 r2 q2) fun d s3 ⟨z,H3,I3,r3,k,e,q3⟩=>?_)) hm
 subst e
 cases r3
 refine j8 ?_
 cases k with
 |false=>exact ite_ff ⟨.bl false,H3,I3,rfl,q3⟩
 |true=>exact ite_tt (chain_last (aD (hc a8 s3 σ H3 _ I3 q3) fun w' s4 ⟨z',H4,I4,r4,q4⟩=>ho' a8 s4 σ H4 y z' u w' Q I4 r2 r4 q4))
theorem Bz{op op':CmpOp}{r r':R2}(ho:bJ X (compareOp op) r)(ho':bJ X (compareOp op') r')(ha:PE X a ta)(hb:PE X b tb)(hc:PE X c tc)
  (hm:lastMarks [op,op'] [b,c]=false:=by with_unfolding_all rfl):PT X (.Compare a [op,op'] [b,c] pos) (pB (rG r r' ta tb tc)):=by
 intro a8 s σ H Q I h
 refine isTrue_chain (aD (ha a8 s σ H _ I h) fun v s1 ⟨x,H1,I1,r1,q1⟩=>test_link (aD (hb a8 s1 σ H1 _ I1 q1) fun u s2 ⟨y,H2,I2,r2,q2⟩=>
  aD (ho a8 s2 σ H2 x y v u _ I2 r1 r2 q2) fun d s3 ⟨z,H3,I3,r3,k,e,q3⟩=>?_)) hm
 subst e
 cases r3
 refine j8 ?_
 cases k with
 |false=>
  obtain⟨k',e',q'⟩:=q3
  cases e'
  exact ite_ff ⟨H3,I3,q'⟩
 |true=>
  refine ite_tt (test_last (aD (hc a8 s3 σ H3 _ I3 q3) fun w' s4 ⟨z',H4,I4,r4,q4⟩=>aD (ho' a8 s4 σ H4 y z' u w' _ I4 r2 r4 q4) fun d' s5 ⟨z2,H5,I5,r5,k2,e2,q5⟩=>?_))
  subst e2
  cases r5
  exact j8 ⟨H5,I5,q5⟩
theorem rH:(sizeLine:Nat)<2 ^ 63:=by rw[m_];decide
theorem fQ{x:V}{us:List Value}(r:aP [x] us):∃u,us=[u]/\aO x u:=by
 cases r with
 |cons r1 r2=>cases r2;exact⟨_,rfl,r1⟩
theorem pD{x y:V}{us:List Value}(r:aP [x,y] us):∃u w',us=[u,w']/\aO x u/\aO y w':=by
 cases r with
 |cons r1 r2=>
  cases r2 with
  |cons r3 r4=>cases r4;exact⟨_,_,rfl,r1,r3⟩
theorem GX:cO X (.builtin "abs") (fun xs H Q=>∃i,xs=[.int i]/\Q (.int (if i<0 then -i else i)) H):=by
 intro a8 s σ H xs us Q I r h
 obtain⟨i,rfl,q⟩:=h
 obtain⟨u,rfl,t,rfl⟩:=fQ r
 exact call_abs_int fun u tk=>⟨.int (if i<0 then -i else i),H,I.tok _,⟨_,rfl⟩,q⟩
theorem GY(hc:X.calm=true):cO X (.builtin "min") (fun xs H Q=>∃i j,xs=[.int i,.int j]/\Q (.int (if j<i then j else i)) H):=by
 intro a8 s σ H xs us Q I r h
 obtain⟨i,j,rfl,q⟩:=h
 obtain⟨u,w',rfl,⟨t,rfl⟩,⟨t',rfl⟩⟩:=pD r
 refine min_two_ints (I.ok.hd hc) fun h' tk k=>⟨_,H,I.kept k,?_,q⟩
 by_cases hj:j<i
 ·rw[aH hj,aH hj];exact⟨_,rfl⟩
 ·rw[av hj,av hj];exact⟨_,rfl⟩
theorem GZ:cO X (.type "int") (fun xs H Q=>(∃i,xs=[.int i]/\Q (.int i) H)\/∃k,xs=[.bl k]/\Q (.int (if k then 1 else 0)) H):=by
 intro a8 s σ H xs us Q I r h
 rcases h with⟨i,rfl,q⟩|⟨k,rfl,q⟩
 ·obtain⟨u,rfl,t,rfl⟩:=fQ r
  exact call_int_int ⟨.int i,H,I,⟨_,rfl⟩,q⟩
 ·obtain⟨u,rfl,r1⟩:=fQ r
  cases r1
  exact call_int_bool ⟨.int (if k then 1 else 0),H,I.tok _,⟨_,rfl⟩,q⟩
end
structure m8(h:Heap)(x dx C:Addr)(mA:Str->Option Value):Prop where
 obj:h.get? x=some (W.instObj C dx)
 ns:h.Ns1 dx mA
 ne:dx≠x
theorem G_{h:Heap}{dx:Addr}{mA:Str->Option Value}(n:h.Ns1 dx mA):∃od,h.get? dx=some od/\∀name,W.lookIn name od=some (mA name):=by
 obtain⟨o,es,ep,ho,hd,hk,_,hm⟩:=n
 refine⟨o,ho,fun name=>?_⟩
 have e:=hm name
 unfold nsFind findBy at e
 rw[<-Array.find?_toList]at e
 unfold W.lookIn
 rw[hd]
 dsimp only
 split
 ·rename_i y q
  rw[q]at e
  exact congrArg some e
 ·rename_i q
  rw[q]at e
  have a:es.toList.any (·.refKey)=false:=by
   rw[List.any_eq_false]
   intro y hy
   obtain⟨z,t,hkey⟩:=hk y (Array.mem_toList_iff.mp hy)
   simp[DictEntry.refKey,hkey]
  have a':¬es.toList.any (·.refKey)=true:=by rw[a];exact cq
  rw[av a']
  exact congrArg some e
theorem m8.look{h:Heap}{x dx C:Addr}{mA:Str->Option Value}(I:m8 h x dx C mA):∃od,W.InstAt h x (W.instObj C dx) C (some od)/\∀name,W.lookIn name od=some (mA name):=
 let⟨od,ho,hl⟩:=G_ I.ns
 ⟨od,⟨I.obj,rfl,rfl,ho⟩,hl⟩
section
variable{prog:Program}{w:World}{A:Around}{E:Value->Shared->Prop}{s:Shared}{K:W.Frag}{x dx C f:Addr}{mA:Str->Option Value}{name:Str}{v:Value}
theorem Ha{expr:Bool}{Q:Value->Shared->Prop}(X:K.In s.heap)(I:m8 s.heap x dx C mA)(hg:W.plainGet K C name=true)(hh:W.hasDictIn K C=true)
  (ha:W.findIn K (.ref C) name=some none) (hv:mA name=some v) (hv':W.handedIn v=true) (h:Q v {s with toks:=s.toks+1}):
  wpAny (model prog w) A (getAttr (.ref x) name expr) Q E s:=by
 obtain⟨od,J,hl⟩:=I.look
 exact W.get_value X J (W.plainGet_of hg).1 (W.findObj_own hh ha rfl (by rw[hl,hv])) hv' h
theorem Hb{pl:Sem Bool}{Q:Value×List Value->Shared->Prop}(X:K.In s.heap)(I:m8 s.heap x dx C mA)(hg:W.plainGet K C name=true)
  (hf:W.findIn K (.ref C) name=some (some (.ref f))) (ht:W.isFn K (.ref f)=true) (hv:mA name=none) (h:Q (.ref f,[.ref x]) s):
  wpAny (model prog w) A (getMethod (.ref x) name pl) Q E s:=by
 obtain⟨od,J,hl⟩:=I.look
 exact W.method_fn X J (W.plainGet_of hg).1 (W.plainGet_of hg).2 hf (beq_iff_eq.mp ht) (by show(W.lookIn name od).map (·.isSome)=some false;rw[hl,hv];rfl) h
theorem Hc{ns:List Str}{Q:Unit->Shared->Prop}(X:K.In s.heap)(I:m8 s.heap x dx C mA)
  (hs:W.findIn K (.ref C) "__setattr__"=some (some (.builtin "object.__setattr__"))) (hp:W.plainOver K C=true) (ht:W.takerIn K C name=some none) (hh:W.hasDictIn K C=true)
  (hw:PySem.Within mA ns) (hsz:ns.length<=sizeLine)
  (h:∀h',m8 h' x dx C (fun y=>if y=name then some v else mA y)->Heap.SameBut dx s.heap h'->Q () {s with heap:=h',toks:=s.toks+2}):
  wpAny (model prog w) A (setAttr (.ref x) name v) Q E s:=by
 obtain⟨od,J,hl⟩:=I.look
 refine W.set_plain X J hs (W.osa_open (s:={s with toks:=s.toks+1}) (r:=none) X J hp ht fun b=>?_)
 obtain⟨cd,hc,hd'⟩:=W.any_some hh
 have hx:s.heap.get? x=some ⟨.ref C,some dx,.plain,#[]⟩:=I.obj
 refine aa (ao (aa (aa (wpAny_loadPart hx (aa (W.Looks.here (s:={s with toks:=s.toks+1}) (W.looks_clsIn X hc) ?_))))))
 rw[hd']
 refine ao (a:=some dx) (aa (ao (aa ?_)))
 refine wpAny_nsSet1 (s:={s with toks:=s.toks+1}) I.ns fun h' hn2 hs2=>?_
 obtain⟨oD,esD,epD,hoD,hdD,hcD⟩:=hn2.count (PySem.Within.cons name v hw)
 refine aa (wpAny_lookBehind hoD (by rw[hdD];exact pastItsLine_dict (cN hcD (by rw[cM];omega))) ?_)
 exact ao (h _ ⟨(hs2.2 _ (Ne.symm I.ne)).trans I.obj,hn2,I.ne⟩ hs2)
theorem Hd{R:Result->Shared->Prop}{vs:List Value}{kw:List (Str×Value)}(X:K.In s.heap)(hm:W.makesIn K C=true)
  (hi:W.findIn K (.ref C) "__init__"=some (some (.ref f))) (hf:W.typeIn K (.ref f)=some (.type "function"))
  (h:codeAny (model prog w) (A.under (.builtin "type.__call__" ⟨.ref C::vs,kw⟩)) (.call (.ref f) ⟨.ref (s.heap.objs.size+1)::vs,kw⟩) (W.InitBack (s.heap.objs.size+1) R)
   {s with heap:=(s.heap.push W.emptyDict).push (W.instObj C s.heap.objs.size)}):
  codeAny (model prog w) A (.call (.ref C) ⟨vs,kw⟩) R s:=by
 obtain⟨hh,g,d,t,os⟩:=s
 exact W.make_core (W.makes_of X hm) (W.looks_findIn X hi) (fun self=>W.bind_fn X self hf) (.inl rfl) h
end
noncomputable def bw(f:Str)(v:V):List (Str×V)->List (Str×V)
 |[]=>[(f,v)]
 |(g,x)::r=>if g=f then(g,v)::r else(g,x)::bw f v r
theorem BA(f g:Str)(v:V):∀fs:List (Str×V),(bw f v fs).lookup g=if g=f then some v else fs.lookup g
 |[]=>by
  show List.lookup g [(f,v)]=_
  by_cases h:g=f
  ·have hb:(g==f)=true:=beq_iff_eq.mpr h
   simp only[List.lookup,hb,aH h]
  ·have hb:(g==f)=false:=beq_eq_false_iff_ne.mpr h
   simp only[List.lookup,hb,av h]
 |(k,x)::r=>by
  have ih:=BA f g v r
  rw[show bw f v ((k,x)::r)=(if k=f then(k,v)::r else(k,x)::bw f v r)from rfl]
  by_cases hk:k=f
  ·rw[aH hk]
   by_cases h:g=k
   ·have hb:(g==k)=true:=beq_iff_eq.mpr h
    simp only[List.lookup,hb,aH (h.trans hk)]
   ·have hb:(g==k)=false:=beq_eq_false_iff_ne.mpr h
    simp only[List.lookup,hb,av (fun e:g=f=>h (e.trans hk.symm))]
  ·rw[av hk]
   by_cases h:g=k
   ·have hb:(g==k)=true:=beq_iff_eq.mpr h
    simp only[List.lookup,hb,av (fun e:g=f=>hk (h.symm.trans e))]
   ·have hb:(g==k)=false:=beq_eq_false_iff_ne.mpr h
    simp only[List.lookup,hb]
    exact ih
theorem va(f:Str)(v:V):∀fs:List (Str×V),f∈(bw f v fs).map (·.1)/\∀g,g∈fs.map (·.1)->g∈(bw f v fs).map (·.1)
 |[]=>⟨by simp[bw],fun g h=>by simp at h⟩
 |(k,x)::r=>by
  obtain⟨i1,i2⟩:=va f v r
  rw[show bw f v ((k,x)::r)=(if k=f then(k,v)::r else(k,x)::bw f v r)from rfl]
  by_cases hk:k=f
  ·rw[aH hk]
   subst hk
   exact⟨by simp,fun g h=>by simpa using h⟩
  ·rw[av hk]
   refine⟨?_,fun g h=>?_⟩
   ·rw[cG]
    exact d_ _ i1
   ·rw[cG]at h⊢
    rcases cE.mp h with e|e
    ·exact cE.mpr (.inl e)
    ·exact d_ _ (i2 g e)
theorem BB(f:Str)(v:V):∀fs:List (Str×V),(bw f v fs).length<=fs.length+1
 |[]=>by simp[bw]
 |(k,x)::r=>by
  have ih:=BB f v r
  rw[show bw f v ((k,x)::r)=(if k=f then(k,v)::r else(k,x)::bw f v r)from rfl]
  by_cases hk:k=f
  ·rw[aH hk,cM,cM];omega
  ·rw[av hk,cM,cM];omega
theorem eI.some_of{v:V}{o:Option Value}(r:eI (some v) o):∃u,o=some u/\aO v u:=by
 cases o with
 |none=>exact(show False from r).elim
 |some u=>exact⟨u,rfl,r⟩
theorem eI.none_of{o:Option Value}(r:eI none o):o=none:=by
 cases o with
 |none=>rfl
 |some u=>exact(show False from r).elim
theorem He{v:V}{u:Value}(r:aO v u):W.handedIn u=true:=by
 cases v with
 |non=>cases(show u=Value.none from r);rfl
 |bl b=>cases(show u=Value.bool b from r);rfl
 |int i=>obtain⟨t,e⟩:=(show ∃t,u=Value.int i t from r);cases e;rfl
 |str x=>obtain⟨t,e⟩:=(show ∃t,u=Value.str x t from r);cases e;rfl
 |byt b=>obtain⟨t,e⟩:=(show ∃t,u=Value.bytes b t from r);cases e;rfl
 |flt b=>obtain⟨t,e⟩:=(show ∃t,u=Value.float b t from r);cases e;rfl
 |ref a=>cases(show u=Value.ref a from r);rfl
 |ty n=>cases(show u=Value.type n from r);rfl
section
variable{P:Program}{w:World}{H H':Hp}{h h':Heap}{a C dx:Addr}{fs fs':List (Str×V)}
theorem rJ(hok:cA P w H h)(e:H a=some (.ins C dx fs)):∃mA,m8 h a dx C mA/\(∀f,eI (fs.lookup f) (mA f))/\PySem.Within mA (fs.map (·.1))/\fs.length<=1000/\H dx=some (.own a):=by
 obtain⟨d,z,ne,ob,mA,n,r,q⟩:=(show cu P w H h a (.ins C dx fs)from hok a _ e)
 exact⟨mA,⟨ob,n,ne⟩,r,q,z,d⟩
end
structure dA(K:W.Frag)(C:Addr):Prop where
 pg:W.plainGet K C Str.empty=true
 hd:W.hasDictIn K C=true
 po:W.plainOver K C=true
 sa:W.findIn K (.ref C) "__setattr__"=some (some (.builtin "object.__setattr__"))
theorem dA.get{K:W.Frag}{C:Addr}(c:dA K C)(f:Str):W.plainGet K C f=true:=c.pg
noncomputable def di(K:W.Frag)(C:Addr)(f:Str):Prop:=W.findIn K (.ref C) f=some none
theorem di.taker{K:W.Frag}{C:Addr}{f:Str}(n:di K C f):W.takerIn K C f=some none:=by
 unfold W.takerIn
 rw[show W.findIn K (.ref C) f=some none from n]
 rfl
structure rK(K:W.Frag)(C:Addr)(m:Str)(f:Addr):Prop where
 at_:W.findIn K (.ref C) m=some (some (.ref f))
 fn:W.isFn K (.ref f)=true
 kp:W.keepIn K (.ref f)=true
section
variable{X:Cx}{a8:List (Addr×Obj)}{σ:St}{H:Hp}{s:Shared}{a C dx:Addr}{fs:List (Str×V)}{f:Str}{v:V}{A:Around}{E:Value->Shared->Prop}
theorem BC{b:Bool}{Q:Value->Shared->Prop}(I:ah X a8 σ H s)(e:H a=some (.ins C dx fs))(c:dA X.K C)(n:di X.K C f)(l:fs.lookup f=some v)
  (h:∀u s',ah X a8 σ H s'->aO v u->Q u s'):wpAny (model X.prog X.w) A (getAttr (.ref a) f b) Q E s:=by
 obtain⟨mA,O,r,_,_,_⟩:=rJ I.hok e
 obtain⟨u,hu,ru⟩:=eI.some_of (v:=v) (o:=mA f) (by rw[<-l];exact r f)
 exact Ha I.kIn O (c.get f) c.hd n hu (He ru) (h u _ (I.tok _) ru)
theorem BD{m:Str}{g:Addr}{pl:Sem Bool}{Q:Value×List Value->Shared->Prop}(I:ah X a8 σ H s)(e:H a=some (.ins C dx fs))(c:dA X.K C)(k:rK X.K C m g)(l:fs.lookup m=none)
  (h:Q (.ref g,[.ref a]) s):wpAny (model X.prog X.w) A (getMethod (.ref a) m pl) Q E s:=by
 obtain⟨mA,O,r,_,_,_⟩:=rJ I.hok e
 have hn:mA m=none:=eI.none_of (by rw[<-l];exact r m)
 exact Hb I.kIn O (c.get m) k.at_ k.fn hn h
theorem BE{y:V}{u:Value}{Q:Unit->Shared->Prop}(I:ah X a8 σ H s)(e:H a=some (.ins C dx fs))(c:dA X.K C)(n:di X.K C f)(hl:fs.length<1000)(ry:aO y u)
  (h:∀s',ah X a8 σ (ab H a (.ins C dx (bw f y fs))) s'->Q () s'):wpAny (model X.prog X.w) A (setAttr (.ref a) f u) Q E s:=by
 obtain⟨mA,O,r,wi,_,ho⟩:=rJ I.hok e
 have hz:(fs.map (·.1)).length<=sizeLine:=by rw[ar,m_];omega
 refine Hc I.kIn O c.sa c.po n.taker c.hd wi hz fun h' O' sb=>h _ ?_
 have hd:∃o,h'.get? dx=some o:=let⟨o,_,_,e',_⟩:=O'.ns;⟨o,e'⟩
 refine I.write (x:=a) (e:=dx) (by rw[e];exact True.intro) (.inr ho) (fun b q hb z=>(sb.2 b hb).trans z) hd ?_
 refine⟨by rw[az O.ne];exact ho,?_,O.ne,O'.obj,_,O'.ns,fun g=>?_,fun g hg=>?_⟩
 ·have:=BB f y fs;omega
 ·show eI ((bw f y fs).lookup g) (if g=f then some u else mA g)
  rw[BA]
  by_cases q:g=f
  ·rw[aH q,aH q];exact ry
  ·rw[av q,av q];exact r g
 ·by_cases q:g=f
  ·rw[q];exact(va f y fs).1
  ·refine(va f y fs).2 g (wi g fun z=>hg ?_)
   show(if g=f then some u else mA g)=none
   rw[av q];exact z
theorem ah.made(I:ah X a8 σ H s):ah X a8 σ (ab (ab H s.heap.objs.size (.own (s.heap.objs.size+1))) (s.heap.objs.size+1) (.ins C s.heap.objs.size []))
  {s with heap:=(s.heap.push W.emptyDict).push (W.instObj C s.heap.objs.size)}:=by
 have e1:(s.heap.push W.emptyDict).get? s.heap.objs.size=some W.emptyDict:=bV s.heap rfl
 have e2:((s.heap.push W.emptyDict).push (W.instObj C s.heap.objs.size)).get? (s.heap.objs.size+1)=some (W.instObj C s.heap.objs.size):=by
  have:=bV (s.heap.push W.emptyDict) (o:=W.instObj C s.heap.objs.size) rfl
  rwa[eB]at this
 have e3:(s.heap.push W.emptyDict).Ns s.heap.objs.size (fun _=>none):=⟨W.emptyDict,#[],_,e1,rfl,(fun e he=>absurd he (by simp)),fun _=>rfl⟩
 have I1:=I.laid (a:=s.heap.objs.size) (o:=.own (s.heap.objs.size+1)) (h':=s.heap.push W.emptyDict) (t':=s.toks) (fun b u q=>aW _ q) (aG _) ⟨_,e1⟩
 refine I1.laid (a:=s.heap.objs.size+1) (o:=.ins C s.heap.objs.size []) (t':=s.toks) (fun b u q=>aW _ q) (uP (eB _ _)) ?_
 have ne:s.heap.objs.size≠s.heap.objs.size+1:=bP (lT _)
 refine⟨by rw[az ne,aq],b_ _,ne,e2,fun _=>none,(Heap.Ns1.of_empty e3).at fun o q=>aW _ q,fun _=>True.intro,fun y hy=>absurd rfl hy⟩
theorem Hg{prog:Program}{w:World}{env:Env}{e:Expr}{f:Str}{pos:Pos}{s:Shared}{Q:Value->Shared->Prop}(hb:attributeBase e f env (eval e env)=eval e env)
  (h:wpAny (model prog w) A (eval e env) (fun o s₁=>wpAny (model prog w) A (getAttr o f true) Q E s₁) E s):wpAny (model prog w) A (eval (.Attribute e f pos) env) Q E s:=
 Attribute_any_ h (by rw[arm_eval_Attribute,hb])
end
noncomputable def vb(K:W.Frag)(ta:TE)(f:Str):TE:=fun σ H Q=>ta σ H fun x H1=>∃a C dx fs v,x=.ref a/\H1 a=some (.ins C dx fs)/\dA K C/\di K C f/\fs.lookup f=some v/\Q v H1
noncomputable def rL(K:W.Frag)(ta tv:TE)(f:Str):TS:=fun D σ H=>tv σ H fun y H1=>ta σ H1 fun x H2=>∃a C dx fs,x=.ref a/\H2 a=some (.ins C dx fs)/\dA K C/\di K C f/\fs.length<1000/\
 D.nx σ (ab H2 a (.ins C dx (bw f y fs)))
noncomputable def BF(X:Cx)(op:Operator)(rd:V->V->Hp->VK->Prop):Prop:=
 ∀(a8:List (Addr×Obj)) (s:Shared) (σ:St) (H:Hp) (x y:V) (u v:Value) (Q:VK),ah X a8 σ H s->aO x u->aO y v->rd x y H Q->wpAny (model X.prog X.w) X.A (inplaceOp op u v) (EP X a8 σ Q) X.xe s
noncomputable def rM(K:W.Frag)(ta tv:TE)(rd:V->V->Hp->VK->Prop)(f:Str):TS:=fun D σ H=>ta σ H fun x H1=>∃a C dx fs v,x=.ref a/\H1 a=some (.ins C dx fs)/\dA K C/\di K C f/\fs.lookup f=some v/\
 tv σ H1 fun y H2=>rd v y H2 fun z H3=>∃dx' fs',H3 a=some (.ins C dx' fs')/\fs'.length<1000/\D.nx σ (ab H3 a (.ins C dx' (bw f z fs')))
section
variable{X:Cx}{o e value:Expr}{f:Str}{pos pos' tpos:Pos}{ta tv:TE}
theorem Hh(he:PE X e ta)(hb:attributeBase e f X.env (eval e X.env)=eval e X.env):PE X (.Attribute e f pos) (vb X.K ta f):=by
 intro a8 s σ H Q I h
 refine Hg hb (aD (he a8 s σ H _ I h) fun u s1 ⟨x,H1,I1,rx,a,C,dx,fs,v,ex,ea,c,n,l,q⟩=>?_)
 subst ex
 obtain rfl:u=Value.ref a:=rx
 exact BC I1 ea c n l fun u' s2 I2 ru=>⟨v,H1,I2,ru,q⟩
theorem Hi(ha:PE X o ta)(hv:PE X value tv)(hs:swapsWith value (some (.Attribute o f pos')) pos.line X.env=pure false):PS X (.Assign [.Attribute o f pos'] value pos) (rL X.K ta tv f):=by
 intro a8 s σ H D I h
 refine plainObj_wpAny_Assign_Attribute (aD (hv a8 s σ H _ I h) fun u s1 ⟨y,H1,I1,ry,q⟩=>aD (ha a8 s1 σ H1 _ I1 q) fun ov s2 ⟨x,H2,I2,rx,a,C,dx,fs,ex,ea,c,n,l,q2⟩=>?_) hs
 subst ex
 obtain rfl:ov=Value.ref a:=rx
 exact BE I2 ea c n l ry fun s3 I3=>⟨σ,_,I3,q2⟩
theorem Hj{op:Operator}{rd:V->V->Hp->VK->Prop}(ha:PE X o ta)(hv:PE X value tv)(hop:BF X op rd):PS X (.AugAssign (.Attribute o f tpos) op value pos) (rM X.K ta tv rd f):=by
 intro a8 s σ H D I h
 refine wpAny_AugAssign_AttributeAny (aD (ha a8 s σ H _ I h) fun ov s1 ⟨x,H1,I1,rx,a,C,dx,fs,v,ex,ea,c,n,l,q⟩=>?_)
 subst ex
 obtain rfl:ov=Value.ref a:=rx
 refine BC I1 ea c n l fun u s2 I2 ru=>aD (hv a8 s2 σ H1 _ I2 q) fun w3 s3 ⟨y,H2,I3,ry,q3⟩=>aD (hop a8 s3 σ H2 v y u w3 _ I3 ru ry q3) fun w4 s4 ⟨z,H3,I4,rz,dx',fs',ea',l',q4⟩=>?_
 exact BE I4 ea' c n l' rz fun s5 I5=>⟨σ,_,I5,q4⟩
end
section
variable{X:Cx}{a8:List (Addr×Obj)}{σ:St}{H:Hp}{s:Shared}{A:Around}{E:Value->Shared->Prop}{Q:Value->Shared->Prop}{c:Value}{b:Bool}
inductive ib(K:W.Frag)(H:Hp):V->Value->Prop where
 |non:ib K H .non (.type "NoneType")
 |bl (x:Bool):ib K H (.bl x) (.type "bool")
 |int (i:Int):ib K H (.int i) (.type "int")
 |str (x:Str):ib K H (.str x) (.type "str")
 |flt (x:UInt64):ib K H (.flt x) (.type "float")
 |lst {a:Addr} {xs:List V} (e:H a=some (.lst xs)):ib K H (.ref a) (.type "list")
 |frz {a:Addr} {o:Obj} {xs:List V} (e:H a=some (.frz o (.lst xs))):ib K H (.ref a) (.type "list")
 |tup {a:Addr} {xs:List V} (e:H a=some (.tup xs)):ib K H (.ref a) (.type "tuple")
 |dK {a:Addr} {ae:List (aT×V)} (e:H a=some (.dK ae)):ib K H (.ref a) (.type "dict")
 |dT {a:Addr} {ae:List (List aT×V)} (e:H a=some (.dT ae)):ib K H (.ref a) (.type "dict")
 |ins {a C dx:Addr} {fs:List (Str×V)} (e:H a=some (.ins C dx fs)) (cl:dA K C) (ha:W.findIn K (.ref C) "__class__"=some (some (.builtin "object.__class__")))
   (hn:W.specialIn K (.builtin "object.__class__") "__get__"=some (some (.builtin "getset_descriptor.__get__"))) (htk:W.takesIn K (.builtin "object.__class__")=some true)
   (hm:W.mroIn K C (.type "object")=some true):ib K H (.ref a) (.ref C)
theorem Hk{x:V}{u t:Value}(I:ah X a8 σ H s)(rx:aO x u)(ty:ib X.K H x t)(e:W.kitOne X.K t c=some b)(h:∀tk,Q (.bool b) {s with toks:=tk}):
  wpAny (model X.prog X.w) A (call (.builtin "isinstance") [u,c]) Q E s:=by
 cases ty with
 |non=>cases(show u=Value.none from rx);exact jB W.kitx_none I.kIn True.intro e (fun z=>nomatch z) h
 |bl y=>cases(show u=Value.bool y from rx);exact jB W.kitx_bool I.kIn True.intro e (fun z=>nomatch z) h
 |int i=>obtain⟨t,q⟩:=(show ∃t,u=Value.int i t from rx);cases q;exact jB W.kitx_int I.kIn True.intro e (fun z=>nomatch z) h
 |str y=>obtain⟨t,q⟩:=(show ∃t,u=Value.str y t from rx);cases q;exact jB W.kitx_str I.kIn True.intro e (fun z=>nomatch z) h
 |flt y=>obtain⟨t,q⟩:=(show ∃t,u=Value.float y t from rx);cases q;exact jB W.kitx_float I.kIn True.intro e (fun z=>nomatch z) h
 |@lst a xs ea=>
  cases(show u=Value.ref a from rx)
  obtain⟨_,_,n,_,h1⟩:=(show cu X.prog X.w H s.heap a (.lst xs)from I.hok a _ ea)
  exact jB W.kitx_list I.kIn ⟨_,h1,rfl⟩ e (fun z=>nomatch z) h
 |@frz a ob xs ea=>
  cases(show u=Value.ref a from rx)
  obtain⟨_,_,_,n,_,h1⟩:=(show cu X.prog X.w H s.heap a (.frz ob (.lst xs))from I.hok a _ ea)
  exact jB W.kitx_list I.kIn ⟨_,h1,rfl⟩ e (fun z=>nomatch z) h
 |@tup a xs ea=>
  cases(show u=Value.ref a from rx)
  obtain⟨_,_,_,p⟩:=(show cu X.prog X.w H s.heap a (.tup xs)from I.hok a _ ea)
  obtain⟨o,h1,h2,_⟩:=p
  exact jB W.kitx_tuple I.kIn ⟨o,h1,h2⟩ e (fun z=>nomatch z) h
 |@dK a ae ea=>
  cases(show u=Value.ref a from rx)
  obtain⟨_,_,vs,_,p⟩:=(show cu X.prog X.w H s.heap a (.dK ae)from I.hok a _ ea)
  obtain⟨o,es,ep,h1,h2,_⟩:=p
  exact jB W.kitx_dict I.kIn ⟨o,h1,h2.1⟩ e (fun z=>nomatch z) h
 |@dT a ae ea=>
  cases(show u=Value.ref a from rx)
  obtain⟨_,_,xs,_,o,es,ep,h1,h2,_⟩:=(show cu X.prog X.w H s.heap a (.dT ae)from I.hok a _ ea)
  exact jB W.kitx_dict I.kIn ⟨o,h1,h2.1⟩ e (fun z=>nomatch z) h
 |@ins a C dx fs ea cl ha hn htk hm=>
  cases(show u=Value.ref a from rx)
  obtain⟨mA,O,_⟩:=rJ I.hok ea
  obtain⟨od,J,_⟩:=O.look
  exact jB (W.kitx_own (cl.get _) cl.hd ha hn htk hm) I.kIn J e (fun z=>nomatch z) h
end
structure cw(k:Nat)(A:Around):Prop where
 hd:A.handled=none
 dp:A.depth+3*k+5<recursionLimit
 un:A.units+16*k+200<cLine
theorem cw.mono{j k:Nat}{A:Around}(r:cw k A)(h:j<=k):cw j A:=⟨r.hd,by have:=r.dp;omega,by have:=r.un;omega⟩
theorem cw.deeper{k:Nat}{A:Around}(r:cw (k+1) A)(env:Env):cw k (A.deeper env):=
 ⟨r.hd,by have:=r.dp;show A.depth+1+3*k+5<_;omega,by have:=r.un;show A.units+3+16*k+200<_;omega⟩
theorem Hl{A:Around}{C:Addr}{us:List Value}{kw:List (Str×Value)}:(A.under (.builtin "type.__call__" ⟨.ref C::us,kw⟩)).depth=A.depth+1:=by
 first|rfl|simp[Around.under,Code.weight,Code.isCreation,Code.isGuard,Code.isCaller,Code.frames,Code.isFrame,guardIds]
theorem Hm{A:Around}{C:Addr}{us:List Value}{kw:List (Str×Value)}:(A.under (.builtin "type.__call__" ⟨.ref C::us,kw⟩)).units=A.units+1:=by
 first|rfl|simp[Around.under,Code.cUnits,Code.frames,Code.isFrame]
theorem cw.make{k:Nat}{A:Around}(r:cw (k+1) A)(C:Addr)(us:List Value)(kw:List (Str×Value)):cw k (A.under (.builtin "type.__call__" ⟨.ref C::us,kw⟩)):=
 ⟨r.hd,by have:=r.dp;rw[Hl];omega,by have:=r.un;rw[Hm];omega⟩
theorem cw.depth{k:Nat}{A:Around}(r:cw k A):A.depth<recursionLimit:=by have:=r.dp;omega
theorem cw.units{k:Nat}{A:Around}(r:cw k A):A.units+64<cLine:=by have:=r.un;omega
noncomputable def iV:TA:=fun _ H Q=>Q [] H
noncomputable def kK(ta:TE)(tr:TA):TA:=fun σ H Q=>ta σ H fun x H1=>tr σ H1 fun xs H2=>Q (x::xs) H2
section
variable{X:Cx}{e:Expr}{es:List Expr}{te:TE}{t:TA}{pos:Pos}
theorem ag:PA X [] iV:=fun _ _ _ _ H Q I h=>zW ⟨[],H,I,.nil,h⟩
theorem a9(ha:PE X e te)(hr:PA X es t)(hs:starEach (e::es) X.env=(false,eval e X.env)::starEach es X.env:=by rfl):PA X (e::es) (kK te t):=by
 intro pos a8 s σ H Q I h
 rw[hs]
 show wpAny _ _ (spliced ((false,eval e X.env)::backTo pos (starEach es X.env))) _ _ s
 refine oC (aD (ha a8 s σ H _ I h) fun u s1 ⟨x,H1,I1,r1,q1⟩=>?_)
 exact aD (hr pos a8 s1 σ H1 _ I1 q1) fun us s2 ⟨xs,H2,I2,r2,q2⟩=>⟨x::xs,H2,I2,.cons r1 r2,q2⟩
noncomputable def vd(t:TA):TE:=fun σ H Q=>t σ H fun xs H1=>xs.length<=sizeLine/\∀p,H1 p=none->Q (.ref p) (ab H1 p (.tup xs))
noncomputable def BG(t:TA):TE:=fun σ H Q=>t σ H fun xs H1=>xs.length<=sizeLine/\∀p,H1 p=none->Q (.ref p) (ab H1 p (.lst xs))
theorem e_{x1}(h:PA X es t):PE X (.Tuple es x1 pos) (vd t):=by
 intro a8 s σ H Q I hq
 refine wpAny_Tuple_spliced (aD (h pos a8 s σ H _ I hq) fun us s1 ⟨xs,H1,I1,r,z,q⟩=>⟨by rw[<-r.length];exact z,?_⟩)
 have hf:H1 s1.heap.objs.size=none:=I1.hok.fresh (aG _)
 refine⟨.ref s1.heap.objs.size,ab H1 s1.heap.objs.size (.tup xs),I1.laid (t':=s1.toks) (fun b u e=>aW _ e) (aG _) ?_,rfl,q _ hf⟩
 exact⟨z,us,r,⟨_,bV _ rfl,rfl,_,rfl⟩⟩
theorem fR(h:PA X es t):PE X (.List es pos) (BG t):=by
 intro a8 s σ H Q I hq
 refine wpAny_List_spliced (aD (h pos a8 s σ H _ I hq) fun us s1 ⟨xs,H1,I1,r,z,q⟩=>⟨by rw[<-r.length];exact z,?_⟩)
 have hf:H1 s1.heap.objs.size=none:=I1.hok.fresh (aG _)
 refine⟨.ref s1.heap.objs.size,ab H1 s1.heap.objs.size (.lst xs),I1.laid (t':=s1.toks) (fun b u e=>aW _ e) (aG _) ?_,rfl,q _ hf⟩
 exact⟨z,us,0,r,bV _ rfl⟩
end
abbrev Sp:=List V->Hp->VK->XK->Prop
abbrev iE:=List Env->Hp->Shared->XK->Value->Shared->Prop
structure m9(P:Program)(w:World)(K:W.Frag)(mg:Str->Option Value)(base:Heap)(A:Around)(outer:List Env)(s:Shared)(H:Hp):Prop where
 frames:A.frames=some outer
 mod:Mod K mg base
 bs:∀b o,base.get? b=some o->s.heap.get? b=some o/\H b=none
 bsz:base.objs.size<=s.heap.objs.size
 funs:s.heap.FunFrames base outer
 frf:∀b∈gy outer,H b=none
 hok:cA P w H s.heap
 bare:AllBare s.gens
noncomputable def CE(outer:List Env)(P:Program)(w:World)(H:Hp)(s:Shared)(Q:VK)(u:Value)(s':Shared):Prop:=
 ∃v H',s'.os=s.os/\AllBare s'.gens/\Un (gy outer) [] H H' s.heap s'.heap/\cA P w H' s'.heap/\aO v u/\Q v H'
noncomputable def CR(CX:iE)(outer:List Env)(P:Program)(w:World)(H:Hp)(s:Shared)(Q:VK)(E:XK)(r:Result)(s':Shared):Prop:=
 match r with
 |.ok (.ret u)=>CE outer P w H s Q u s'
 |.ok _=>False
 |.error e=>CX outer H s E e s'
structure aK(P:Program)(w:World)(K:W.Frag)(mg:Str->Option Value)(base:Heap)(CX:iE)(k:Nat)(f:Addr)(fd:FuncData)(ps:List Str)(sp:Sp):Prop where
 len:∀vs H Q E,sp vs H Q E->vs.length=ps.length
 run:∀(A:Around) (outer:List Env) (s:Shared) (H:Hp) (args:Args) (us:List Value) (vs:List V) (Q:VK) (E:XK),cw k A->m9 P w K mg base A outer s H->BindsTo s fd args (ps.zip us)->aP vs us->sp vs H Q E->
  codeAny (model P w) A (.call (.ref f) args) (CR CX outer P w H s Q E) s
theorem aK.mono{P:Program}{w:World}{K:W.Frag}{mg:Str->Option Value}{base:Heap}{CX:iE}{j k:Nat}{f:Addr}{fd:FuncData}{ps:List Str}{sp:Sp}(F:aK P w K mg base CX j f fd ps sp)(h:j<=k):
  aK P w K mg base CX k f fd ps sp:=⟨F.len,fun A outer s H args us vs Q E hr=>F.run A outer s H args us vs Q E (hr.mono h)⟩
theorem m9.make{P:Program}{w:World}{K:W.Frag}{mg:Str->Option Value}{base:Heap}{A:Around}{outer:List Env}{s:Shared}{H:Hp}(e:m9 P w K mg base A outer s H)(C:Addr)(us:List Value)(kw:List (Str×Value)):
  m9 P w K mg base (A.under (.builtin "type.__call__" ⟨.ref C::us,kw⟩)) outer s H:=⟨by first|exact e.frames|(simpa[Around.under,Code.envs,Code.isFrame,pushEnvs]using e.frames),e.mod,e.bs,e.bsz,e.funs,e.frf,e.hok,e.bare⟩
section
variable{X:Cx}{a8:List (Addr×Obj)}{σ:St}{H:Hp}{s s':Shared}
theorem ah.env0(I:ah X a8 σ H s):m9 X.prog X.w X.K X.mg X.base X.A X.stack s H:=
 ⟨I.ok.frames,I.ok.mod,I.bs,cN I.ok.bsz I.sz,I.stack,I.stkFree,I.hok,I.bare⟩
theorem ah.after{Q:VK}{u:Value}(I:ah X a8 σ H s)(h:CE X.stack X.prog X.w H s Q u s'):EP X a8 σ Q u s':=by
 obtain⟨v,H',os,bare,un,hok,r,q⟩:=h
 obtain⟨hh,g,d,t,os'⟩:=s'
 obtain rfl:os'=s.os:=os
 exact⟨v,H',I.call (h':=hh) (g':=g) (d':=d) (t':=t) (ch:=[]) un hok bare (fun b z=>absurd z (by simp)),r,q⟩
end
noncomputable def rN(sp:Sp)(dvs:List V)(E:XK)(t:TA):TE:=fun σ H Q=>t σ H fun vs H1=>sp (vs++dvs) H1 Q E
noncomputable def jL(C:Addr)(m:Str)(sp:Sp)(dvs:List V)(E:XK)(ta:TE)(t:TA):TE:=fun σ H Q=>ta σ H fun x H1=>∃a dx fs,x=.ref a/\H1 a=some (.ins C dx fs)/\fs.lookup m=none/\
 t σ H1 fun vs H2=>sp (x::(vs++dvs)) H2 Q E
noncomputable def pE(C:Addr)(sp:Sp)(dvs:List V)(E:XK)(t:TA):TE:=fun σ H Q=>t σ H fun vs H1=>∀x dx,H1 x=none->H1 dx=none->dx≠x->
 sp (.ref x::(vs++dvs)) (ab (ab H1 dx (.own x)) x (.ins C dx [])) (fun v H2=>v=.non/\Q (.ref x) H2) E
noncomputable def fS(K:W.Frag)(fd:FuncData)(ps:List Str)(ds:List Value):Prop:=
 ∀(s:Shared) (us:List Value),K.In s.heap->(us++ds).length=ps.length->BindsTo s fd ⟨us,[]⟩ (ps.zip (us++ds))
theorem fS.all{K:W.Frag}{fd:FuncData}{ps:List Str}(h:∀us:List Value,us.length=ps.length->bindArgs fd ⟨us,[]⟩=pure (ps.zip us)):fS K fd ps []:=fun s us _ hl=>by
 rw[gW]at hl⊢
 exact .of_eq (h us hl)
noncomputable def kM(CX:iE)(X:Cx)(E:XK):Prop:=∀(a8:List (Addr×Obj)) (σ:St) (H:Hp) (s:Shared) (e:Value) (s':Shared),ah X a8 σ H s->CX X.stack H s E e s'->X.xe e s'
section
variable{X:Cx}{CX:iE}{k:Nat}{f C:Addr}{fd:FuncData}{ps:List Str}{sp:Sp}{dvs:List V}{ds:List Value}{E:XK}{x m:Str}{p pos c6:Pos}{e o:Expr}{es:List Expr}{ta:TE}{t:TA}
theorem rO{a8:List (Addr×Obj)}{σ:St}{H:Hp}{s:Shared}{Q:VK}{us:List Value}{vs:List V}(F:aK X.prog X.w X.K X.mg X.base CX k f fd ps sp)(hr:cw k X.A)(hb:fS X.K fd ps ds)(hd:aP dvs ds)(hx:kM CX X E)
  (I:ah X a8 σ H s) (r:aP vs us) (h:sp (vs++dvs) H Q E):wpAny (model X.prog X.w) X.A (call (.ref f) us) (EP X a8 σ Q) X.xe s:=by
 have r2:aP (vs++dvs) (us++ds):=r.append hd
 have hl:(us++ds).length=ps.length:=by rw[<-r2.length];exact F.len _ _ _ _ h
 refine wpAny_call (lW (F.run X.A X.stack s H ⟨us,[]⟩ (us++ds) (vs++dvs) Q E hr I.env0 (hb s us I.kIn hl) r2 h) fun r s' hq=>?_)
 cases r with
 |error e=>exact hx a8 σ H s e s' I hq
 |ok fl=>
  cases fl with
  |ret u=>exact I.after hq
  |next=>exact False.elim hq
  |brk=>exact False.elim hq
  |cont=>exact False.elim hq
theorem Hn(F:aK X.prog X.w X.K X.mg X.base CX k f fd ps sp)(hr:cw k X.A)(hg:Gl X x)(hm:X.mg x=some (.ref f))(hk:W.keepIn X.K (.ref f)=true)(hb:fS X.K fd ps ds)(hd:aP dvs ds)(hx:kM CX X E)
  (ha:PA X (e::es) t) (hdb:(x==("__debug__":Str))=false:=by decide) (he:starEach (e::es) X.env=(false,eval e X.env)::starEach es X.env:=by rfl) (hpl:(backTo pos (starEach es X.env)).any (·.1)=false:=by rfl):
  PE X (.Call (.Name x p) (e::es) [] pos) (rN sp dvs E t):=by
 intro a8 s σ H Q I h
 refine qU (rm I hg hm ?_ hdb)
 refine W.callWith_K (h₀:=X.base) I.ok.mod.kin hk (aD (ha pos a8 s σ H _ I h) fun us s1 ⟨vs,H1,I1,r,q⟩=>⟨I1.kIn,?_⟩) he hpl
 exact rO F hr hb hd hx I1 r q
theorem Ho{pl:Sem Bool}(he:PE X o ta)(c:dA X.K C)(hm:rK X.K C m f)(F:aK X.prog X.w X.K X.mg X.base CX k f fd ps sp)(hr:cw k X.A)(hb:fS X.K fd ps ds)(hd:aP dvs ds)(hx:kM CX X E)(ha:PA X (e::es) t)
  (hst:starEach (e::es) X.env=(false,eval e X.env)::starEach es X.env:=by rfl) (hpl:(backTo pos (starEach es X.env)).any (·.1)=false:=by rfl)
  (ht:eval (.Call (.Attribute o m c6) (e::es) [] pos) X.env=(do
   let ov<-eval o X.env
   standAt c6.atName
   let(f,first)<-holding [ov] (getMethod ov m pl)
   callWith pos f first (backTo pos (starEach (e::es) X.env)) (backToKw pos (keywordEach [] X.env))):=by rfl):
  PE X (.Call (.Attribute o m c6) (e::es) [] pos) (jL C m sp dvs E ta t):=by
 intro a8 s σ H Q I h
 refine W.methodCall_KW (pl:=pl) (aD (he a8 s σ H _ I h) fun u s1 ⟨x,H1,I1,rx,a,dx,fs,ex,ea,l,q⟩=>?_) ht
 subst ex
 obtain rfl:u=Value.ref a:=rx
 refine BD I1 ea c hm l ?_
 refine W.callWith_K (first:=[.ref a]) (h₀:=X.base) I.ok.mod.kin hm.kp (aD (ha pos a8 s1 σ H1 _ I1 q) fun us s2 ⟨vs,H2,I2,r,q2⟩=>⟨I2.kIn,?_⟩) hst hpl
 exact rO (us:=.ref a::us) (vs:=.ref a::vs) F hr hb hd hx I2 (.cons rfl r) q2
theorem Hq{pl:Sem Bool}(he:PE X o ta)(c:dA X.K C)(hm:rK X.K C m f)(F:aK X.prog X.w X.K X.mg X.base CX k f fd ps sp)(hr:cw k X.A)(hb:fS X.K fd ps ds)(hd:aP dvs ds)(hx:kM CX X E)
  (ht:eval (.Call (.Attribute o m c6) [] [] pos) X.env=(do
   let ov<-eval o X.env
   standAt c6.atName
   let(f,first)<-holding [ov] (getMethod ov m pl)
   callWith pos f first (backTo pos (starEach [] X.env)) (backToKw pos (keywordEach [] X.env))):=by rfl):
  PE X (.Call (.Attribute o m c6) [] [] pos) (jL C m sp dvs E ta iV):=by
 intro a8 s σ H Q I h
 refine W.methodCall_KW (pl:=pl) (aD (he a8 s σ H _ I h) fun u s1 ⟨x,H1,I1,rx,a,dx,fs,ex,ea,l,q⟩=>?_) ht
 subst ex
 obtain rfl:u=Value.ref a:=rx
 refine BD I1 ea c hm l ?_
 exact W.callWith_K0 (first:=[.ref a]) I1.kIn hm.kp (rO (us:=[.ref a]) (vs:=[.ref a]) F hr hb hd hx I1 (.cons rfl .nil) q)
structure Mk(K:W.Frag)(C f:Addr):Prop where
 makes:W.makesIn K C=true
 init:W.findIn K (.ref C) "__init__"=some (some (.ref f))
 fn:W.isFn K (.ref f)=true
 kp:W.keepIn K (.ref C)=true
theorem BH{a8:List (Addr×Obj)}{σ:St}{H:Hp}{s:Shared}{Q:VK}{us:List Value}{vs:List V}(M:Mk X.K C f)(F:aK X.prog X.w X.K X.mg X.base CX k f fd ps sp)(hr:cw (k+1) X.A)(hb:fS X.K fd ps ds)(hd:aP dvs ds)
  (hx:kM CX X E) (I:ah X a8 σ H s) (r:aP vs us)
  (h:∀x dx,H x=none->H dx=none->dx≠x->sp (.ref x::(vs++dvs)) (ab (ab H dx (.own x)) x (.ins C dx [])) (fun v H2=>v=.non/\Q (.ref x) H2) E):
  wpAny (model X.prog X.w) X.A (call (.ref C) us) (EP X a8 σ Q) X.xe s:=by
 have hq:=h (s.heap.objs.size+1) s.heap.objs.size (I.hok.fresh (n0 _)) (I.hok.fresh (aG _)) (bP (lT _))
 have I2:=ah.made (C:=C) I
 have r2:aP (V.ref (s.heap.objs.size+1)::(vs++dvs)) (Value.ref (s.heap.objs.size+1)::(us++ds)):=.cons rfl (r.append hd)
 have hl:(Value.ref (s.heap.objs.size+1)::us++ds).length=ps.length:=by
  have e:=r2.length
  rw[F.len _ _ _ _ hq]at e
  exact e.symm
 refine wpAny_call (Hd (f:=f) I.kIn M.makes M.init (beq_iff_eq.mp M.fn) (lW (F.run _ X.stack _ _ ⟨Value.ref (s.heap.objs.size+1)::us,[]⟩ (Value.ref (s.heap.objs.size+1)::(us++ds)) _ _ E (hr.make C us [])
  (I2.env0.make C us []) (hb _ (Value.ref (s.heap.objs.size+1)::us) I2.kIn hl) r2 hq) fun r s' hq'=>?_))
 cases r with
 |error e=>exact hx a8 σ _ _ e s' I2 hq'
 |ok fl=>
  cases fl with
  |ret u=>
   obtain⟨v,H',I3,rv,ev,q3⟩:=I2.after hq'
   subst ev
   exact⟨rv,⟨V.ref (s.heap.objs.size+1),H',I3,rfl,q3⟩⟩
  |next=>exact False.elim hq'
  |brk=>exact False.elim hq'
  |cont=>exact False.elim hq'
theorem Hr(M:Mk X.K C f)(F:aK X.prog X.w X.K X.mg X.base CX k f fd ps sp)(hr:cw (k+1) X.A)(hg:Gl X x)(hm:X.mg x=some (.ref C))(hb:fS X.K fd ps ds)(hd:aP dvs ds)(hx:kM CX X E)
  (ha:PA X (e::es) t) (hdb:(x==("__debug__":Str))=false:=by decide) (he:starEach (e::es) X.env=(false,eval e X.env)::starEach es X.env:=by rfl) (hpl:(backTo pos (starEach es X.env)).any (·.1)=false:=by rfl):
  PE X (.Call (.Name x p) (e::es) [] pos) (pE C sp dvs E t):=by
 intro a8 s σ H Q I h
 refine qU (rm I hg hm ?_ hdb)
 refine W.callWith_K (h₀:=X.base) I.ok.mod.kin M.kp (aD (ha pos a8 s σ H _ I h) fun us s1 ⟨vs,H1,I1,r,q⟩=>⟨I1.kIn,?_⟩) he hpl
 exact BH M F hr hb hd hx I1 r q
theorem Hs(M:Mk X.K C f)(F:aK X.prog X.w X.K X.mg X.base CX k f fd ps sp)(hr:cw (k+1) X.A)(hg:Gl X x)(hm:X.mg x=some (.ref C))(hb:fS X.K fd ps ds)(hd:aP dvs ds)(hx:kM CX X E)
  (hdb:(x==("__debug__":Str))=false:=by decide):PE X (.Call (.Name x p) [] [] pos) (pE C sp dvs E iV):=by
 intro a8 s σ H Q I h
 refine qU (rm I hg hm ?_ hdb)
 exact W.callWith_K0 I.kIn M.kp (BH (us:=[]) M F hr hb hd hx I .nil h)
end
section
variable{X:Cx}{CX:iE}{k:Nat}{f C:Addr}{fd:FuncData}{ps ks:List Str}{sp:Sp}{E:XK}{x m:Str}{p pos c6 kpos:Pos}{e o:Expr}{es:List Expr}{kws:List Keyword}{te ta:TE}{t tk:TA}{nm:Option Str}
variable{g:List Value->List Value->List Value}{gV:List V->List V->List V}
end
structure a_(N P:List Str)(sc:Scope):Prop where
 kind:sc.kind=.function
 co:sc.isCoroutine=false
 gen:sc.isGenerator=false
 nd:N.Nodup
 pre:N.take P.length=P
 par:∀x∈P,sc.names.lookup x=some .local \/sc.names.lookup x=some .cell
 nofree:∀y∈sc.names,y.2≠ .free
theorem BI{kindOf:Str->Option NameKind}{x:Str}:∀{binds:List (Str×Value)} {m:Str->Option Value},(∀v,(x,v)∉binds)->bindL kindOf binds m x=m x
 |[],_,_=>rfl
 |(n,v)::r,m,h=>by
  unfold bindL
  rw[BI fun w hw=>h w (d_ _ hw)]
  split
  ·have:x≠n:=by rintro rfl;exact h v dR
   simp[this]
  ·rfl
theorem BJ{kindOf:Str->Option NameKind}{x:Str}:∀{binds:List (Str×Value)} {m:Str->Option Value},(∀v,(x,v)∉binds)->bindC kindOf binds m x=m x
 |[],_,_=>rfl
 |(n,v)::r,m,h=>by
  unfold bindC
  rw[BJ fun w hw=>h w (d_ _ hw)]
  split
  ·rfl
  ·have:x≠n:=by rintro rfl;exact h v dR
   simp[this]
theorem BK{kindOf:Str->Option NameKind}{x:Str}{v:Value}:∀{P:List Str} {vs:List Value} {i:Nat} {m:Str->Option Value},P.Nodup->P[i]?=some x->vs[i]?=some v->kindOf x=some .local ->
  bindL kindOf (P.zip vs) m x=some v
 |[],_,_,_,_,h,_,_=>by simp at h
 |_::_,[],_,_,_,_,h,_=>by simp at h
 |p::P,w::vs,0,m,nd,h1,h2,hk=>by
  simp at h1 h2;subst h1;subst h2
  show bindL kindOf ((p,w)::P.zip vs) m p=_
  unfold bindL
  rw[BI fun v hv=>(lO.mp nd).1 (List.of_mem_zip hv).1,aH hk]
  simp
 |p::P,w::vs,i+1,m,nd,h1,h2,hk=>by
  show bindL kindOf ((p,w)::P.zip vs) m x=_
  unfold bindL
  exact BK (i:=i) (lO.mp nd).2 (by simpa using h1) (by simpa using h2) hk
theorem BL{kindOf:Str->Option NameKind}{x:Str}{v:Value}:∀{P:List Str} {vs:List Value} {i:Nat} {m:Str->Option Value},P.Nodup->P[i]?=some x->vs[i]?=some v->kindOf x≠some .local ->
  bindC kindOf (P.zip vs) m x=some v
 |[],_,_,_,_,h,_,_=>by simp at h
 |_::_,[],_,_,_,_,h,_=>by simp at h
 |p::P,w::vs,0,m,nd,h1,h2,hk=>by
  simp at h1 h2;subst h1;subst h2
  show bindC kindOf ((p,w)::P.zip vs) m p=_
  unfold bindC
  rw[BJ fun v hv=>(lO.mp nd).1 (List.of_mem_zip hv).1,av hk]
  simp
 |p::P,w::vs,i+1,m,nd,h1,h2,hk=>by
  show bindC kindOf ((p,w)::P.zip vs) m x=_
  unfold bindC
  exact BL (i:=i) (lO.mp nd).2 (by simpa using h1) (by simpa using h2) hk
noncomputable def df(N:List Str)(vs:List V):St:=vs.map some++List.replicate (N.length - vs.length) none
noncomputable def nz(CX:iE)(P:Program)(w:World)(K:W.Frag)(mg:Str->Option Value)(base:Heap)(N:List Str)(qual:Str)(scope:Scope)(f:Addr)(cd:Value)(A:Around)(outer:List Env)(s:Shared)(H:Hp)(E:XK):Cx where
 prog:=P
 w:=w
 K:=K
 mg:=mg
 base:=base
 A:=A.deeper (envOfC qual scope s.heap.objs.size f cd)
 N:=N
 s₀:=s
 H₀:=H
 env:=envOfC qual scope s.heap.objs.size f cd
 outer:=outer
 stack:=envOfC qual scope s.heap.objs.size f cd::outer
 ex:=[]
 calm:=true
 fn:=fun _=>true
 pn:=[]
 xe:=fun e s'=>wpAny (model P w) (A.deeper (envOfC qual scope s.heap.objs.size f cd)) (leaving (envOfC qual scope s.heap.objs.size f cd) e) (fun _ s''=>CX outer H s E e s'') (fun e' s''=>CX outer H s E e' s'') s'
theorem BM{sc:Scope}{n:Nat}{x:Str}(h:sc.names.lookup x=some .cell):∃c,(cellsFrom n sc.names []).lookup x=some c:=by
 have q:=W.cellsFrom_some sc.names n [] (.inl h)
 exact Option.isSome_iff_exists.mp q
theorem Ht{CX:iE}{P:Program}{w:World}{K:W.Frag}{mg:Str->Option Value}{base:Heap}{N ps:List Str}{qual:Str}{scope:Scope}{f:Addr}{cd:Value}{A:Around}{outer:List Env}{s s1:Shared}{H:Hp}{E:XK}{us:List Value}{vs:List V}
  (S:a_ N ps scope) (hd:A.handled=none) (e0:m9 P w K mg base A outer s H) (hl:vs.length=ps.length) (r:aP vs us)
  (x:InCallC s s.heap.objs.size (bindL (envOfC qual scope s.heap.objs.size f cd).kindOf (ps.zip us) fun _=>none) (cellsFrom (s.heap.objs.size+1) scope.names []) (bindC (envOfC qual scope s.heap.objs.size f cd).kindOf (ps.zip us) fun _=>none) s1):
  ah (nz CX P w K mg base N qual scope f cd A outer s H E) [] (df N vs) H s1:=by
 have hpl:ps.length<=N.length:=by have:=congrArg List.length S.pre;rw[e9]at this;omega
 obtain⟨h1,tk,rfl,hk⟩:=x.done
 have noA:∀b:Addr,b∉ (nz CX P w K mg base N qual scope f cd A outer s H E).ex:=fun b z=>absurd (show b∈([]:List Addr)from z) (by simp)
 refine⟨⟨e0.mod,S.kind,rfl,rfl,aG _,fun y z c h1 h2=>?_,fun y hy=>?_,fun y c _ h=>?_,fun _=>hd,Around.frames_deeper e0.frames,.inr ⟨rfl,rfl⟩,fun b z=>absurd z (noA b),e0.bs,e0.bsz,fun b _ _=>noA b,fun b z=>absurd z (noA b),e0.funs,e0.frf⟩,
  rfl,e0.bare,Un.kept hk,⟨_,x.toInCall.ns,fun i y v h1 h2 h3=>?_⟩,fun y c h=>⟨_,x.cell y c h⟩,e0.hok.fresh (aG _),fun y c h=>?_,fun p hp=>absurd (show p∈([]:List (Addr×Obj))from hp) (by simp),e0.hok.kept hk,?_⟩
 ·exact name_of_addr x.apart (mem_of_lookup h1) (mem_of_lookup h2)
 ·have hy:scope.names.lookup y=some .cell\/scope.names.lookup y=some .free:=hy
  rcases hy with hy|hy
  ·exact BM hy
  ·exact absurd rfl (S.nofree _ (mem_of_lookup hy))
 ·exact uO (x.above y c (mem_of_lookup h))
 ·have hi:i<vs.length:=by
   unfold df at h2
   by_cases hi:i<vs.length
   ·exact hi
   ·rw[dY (by simpa using hi)]at h2
    rw[zL]at h2
    split at h2<;>cases h2
  have ha:vs[i]?=some v:=by
   unfold df at h2
   rw[eZ (by simpa using hi),aI]at h2
   cases e:vs[i]? with
   |none=>rw[e]at h2;cases h2
   |some a=>rw[e]at h2;cases h2;rfl
  obtain⟨u,hu,rv⟩:=r.get ha
  have hp:ps[i]?=some y:=by
   rw[<-S.pre,List.getElem?_take_of_lt (by omega)];exact h1
  have ndP:ps.Nodup:=by rw[<-S.pre];exact S.nd.sublist (List.take_sublist _ _)
  refine⟨u,rv,?_⟩
  rcases S.par y (dE hp)with k|k
  ·exact .inl ⟨k,BK ndP hp hu k⟩
  ·obtain⟨c,e⟩:=BM (n:=s.heap.objs.size+1) k
   refine .inr ⟨.inl k,c,e,?_⟩
   have q:=x.cell y c e
   rw[BL ndP hp hu (by show scope.names.lookup y≠_;rw[k];decide)]at q
   exact q
 ·exact e0.hok.fresh (uO (x.above y c (mem_of_lookup h)))
 ·unfold df
  show _=N.length
  rw[bF,ar,Gd]
  omega
theorem Hu{CX:iE}{P:Program}{w:World}{K:W.Frag}{mg:Str->Option Value}{base:Heap}{k:Nat}{f:Addr}{name qual:Str}{params:Arguments}{body:List Stmt}{scope:Scope}{dV kV doc pm aM ct oc:Value}{an od:Option Addr}
  {osl:Array (Option Value)} {N ps:List Str} {sp:Sp} (lk:K.lookup f=some ⟨oc,od,.func (W.fnOf name qual params body scope dV kV doc pm an aM ct),osl⟩) (hcd:W.codeIn K aM qual=true) (S:a_ N ps scope)
  (len:∀vs H Q E,sp vs H Q E->vs.length=ps.length)
  (hbody:∀(A:Around) (outer:List Env) (s:Shared) (H:Hp) (vs:List V) (Q:VK) (E:XK),cw k (A.deeper (envOfC qual scope s.heap.objs.size f aM))->sp vs H Q E->
   ∃t,gz (nz CX P w K mg base N qual scope f aM A outer s H E) body t/\t {nx:=fun _ H'=>Q .non H',rt:=Q} (df N vs) H):
  aK P w K mg base CX (k+1) f (W.fnOf name qual params body scope dV kV doc pm an aM ct) ps sp:=by
 refine⟨len,fun A outer s H args us vs Q E hr e0 hb r hsp=>?_⟩
 have hl:=len _ _ _ _ hsp
 have KX:K.In s.heap:=e0.mod.kin.keeps fun b o e=>(e0.bs b o e).1
 have lim:s.heap.NoLimit:=e0.mod.nolimit.keeps fun b o e=>(e0.bs b o e).1
 have hkind:∀y∈ps.zip us,scope.names.lookup y.1=some .local \/(scope.names.lookup y.1=some .cell/\((cellsFrom (s.heap.objs.size+1) scope.names []).lookup y.1).isSome=true):=fun⟨n,v⟩ hy=>by
  rcases S.par n (List.of_mem_zip hy).1 with q|q
  ·exact .inl q
  ·exact .inr ⟨q,W.cellsFrom_some _ _ _ (.inl q)⟩
 refine codeAny_call_function hr.depth (KX _ _ lk) rfl S.co S.gen rfl (W.codeRec_of KX hcd) (hb _ _ _ _ ?_)
 refine wpAny_newFunctionEnv_cells S.kind hkind fun env he s1 x=>?_
 subst he
 refine⟨lim.keeps x.toInCall.keep,codeAny_func ?_⟩
 obtain⟨t,ht,hq⟩:=hbody A outer s H vs Q E (hr.deeper _) hsp
 have I:ah (nz CX P w K mg base N qual scope f aM A outer s H E) [] (df N vs) H s1:=Ht S hr.hd e0 hl r x
 refine cV (ht [] s1 (df N vs) H _ I hq) (fun fl s' hs=>?_) fun e s' hs=>hs
 have fin:∀{σ':St} {H':Hp} {v:V} {u:Value},ah (nz CX P w K mg base N qual scope f aM A outer s H E) [] σ' H' s'->aO v u->Q v H'->CE outer P w H s Q u s':=
  fun{σ' H' v u} J rv q=>⟨v,H',J.os,J.bare,J.base,J.hok,rv,q⟩
 cases fl with
 |ret u=>
  obtain⟨v,σ',H',J,rv,q⟩:=hs
  exact fin J rv q
 |next=>
  obtain⟨σ',H',J,q⟩:=hs
  exact fin (v:=V.non) (u:=Value.none) J rfl q
 |brk=>
  obtain⟨_,_,_,q⟩:=hs
  exact False.elim q
 |cont=>
  obtain⟨_,_,_,q⟩:=hs
  exact False.elim q
section
variable{X:Cx}{x:Str}{p pos:Pos}{e:Expr}{es:List Expr}{t:TA}{id T:String}{r:List V->Hp->VK->Prop}
noncomputable def rP(r:List V->Hp->VK->Prop)(t:TA):TE:=fun σ H Q=>t σ H fun vs H1=>r vs H1 Q
theorem bp(hc:cO X (.builtin id) r)(hg:Gl X x)(hm:X.mg x=none)(hv:bootBuiltins x=some (.builtin id))(ha:PA X (e::es) t)(hn:x≠"__name__":=by decide)(hdb:(x==("__debug__":Str))=false:=by decide)
  (he:starEach (e::es) X.env=(false,eval e X.env)::starEach es X.env:=by rfl) (hpl:(backTo pos (starEach es X.env)).any (·.1)=false:=by rfl):PE X (.Call (.Name x p) (e::es) [] pos) (rP r t):=by
 intro a8 s σ H Q I h
 refine qU (jJ I hg hm hv ?_ hn hdb)
 exact PyProof.Rows.callWith_builtin1 (aD (ha pos a8 s σ H _ I h) fun us s1 ⟨vs,H1,I1,r1,q1⟩=>hc a8 s1 σ H1 vs us Q I1 r1 q1) he hpl
theorem dJ(hc:cO X (.type T) r)(hg:Gl X x)(hm:X.mg x=none)(hv:bootBuiltins x=some (.type T))(ha:PA X (e::es) t)(hn:x≠"__name__":=by decide)(hdb:(x==("__debug__":Str))=false:=by decide)
  (he:starEach (e::es) X.env=(false,eval e X.env)::starEach es X.env:=by rfl) (hpl:(backTo pos (starEach es X.env)).any (·.1)=false:=by rfl):PE X (.Call (.Name x p) (e::es) [] pos) (rP r t):=by
 intro a8 s σ H Q I h
 refine qU (jJ I hg hm hv ?_ hn hdb)
 exact ou (aD (ha pos a8 s σ H _ I h) fun us s1 ⟨vs,H1,I1,r1,q1⟩=>hc a8 s1 σ H1 vs us Q I1 r1 q1) he hpl
end
end L2
namespace HT
open PySem PyProof.Rows
section
open PySem.SeqAt
open PySem.AutoSeq1 (wpAny_loadPart')
open PySem.MeetsSeq PySem.MeetsSeq2 PySem.MeetsSeq3
end
section
variable{prog:Program}{w:World}{A:Around}{E:Value->Shared->Prop}{s:Shared}
noncomputable def sIx(n d:Nat):Option Int->Nat
 |none=>d
 |some v=>if v<0 then(v+(n:Int)).toNat else min v.toNat n
theorem sIx_none(n d:Nat):sIx n d none=d:=rfl
theorem sIx_nat(n d k:Nat):sIx n d (some (k:Int))=min k n:=by
 show(if(k:Int)<0 then((k:Int)+(n:Int)).toNat else min (k:Int).toNat n)=min k n
 rw[av (by omega),Int.toNat_natCast]
theorem Hv(n d:Nat)(hd:d<=n)(o:Option Int):sIx n d o<=n:=by
 cases o with
 |none=>exact hd
 |some v=>
  show(if v<0 then(v+(n:Int)).toNat else min v.toNat n)<=n
  by_cases hv:v<0
  ·rw[aH hv];omega
  ·rw[av hv];exact Nat.min_le_right _ _
theorem BN(v:Int)(n d:Nat):(if v<0 then max (v+(n:Int)) 0 else min v (n:Int))=((sIx n d (some v):Nat):Int):=by
 show(if v<0 then max (v+(n:Int)) 0 else min v (n:Int))=(((if v<0 then(v+(n:Int)).toNat else min v.toNat n):Nat):Int)
 by_cases hv:v<0
 ·simp only[aH hv];omega
 ·simp only[av hv];omega
theorem Hw(lo hi:Option Int)(n:Nat):Builtin.Slice.sliceAdjust lo hi 1 (n:Int)=(((sIx n 0 lo:Nat):Int),((sIx n n hi:Nat):Int)):=by
 have h1:¬((1:Int)<0):=by omega
 unfold Builtin.Slice.sliceAdjust
 simp only[h1,kA]
 refine Prod.ext ?_ ?_
 ·cases lo with
  |none=>rfl
  |some v=>exact BN v n 0
 ·cases hi with
  |none=>rfl
  |some v=>exact BN v n n
theorem Hx(i j:Nat):Builtin.Slice.slicePlaces (i:Int) (j:Int) 1=j - i:=by
 unfold Builtin.Slice.slicePlaces
 have h1:(1:Int) >0:=by omega
 simp only[h1,jC,Int.ediv_one]
 split<;>omega
theorem BO{v:Value}{o:Option Int}{Q:Option Int->Shared->Prop}(p:IsPart v o)(h:Q o s):wpAny (model prog w) A (Builtin.Slice.slicePartIndex v) Q E s:=by
 cases p with
 |none=>exact slicePart_none h
 |int i t=>exact slicePart_int h
theorem Hy{sl:Addr}{vl vu:Value}{lo hi:Option Int}{n:Nat}{Q:Int×Int×Nat->Shared->Prop}(hs:s.heap.IsSliceOf sl vl vu .none)(pl:IsPart vl lo)(pu:IsPart vu hi)
  (h:Q (((sIx n 0 lo:Nat):Int),1,sIx n n hi - sIx n 0 lo) s):wpAny (model prog w) A (Builtin.Slice.sliceApplied (.ref sl) (pure (n:Int))) Q E s:=by
 obtain⟨os,hos,hcs,hds⟩:=id hs
 unfold Builtin.Slice.sliceApplied Builtin.Slice.sliceFields
 refine aa (aa (i8 hos hds (x:=vl) rfl (aa (i8 hos hds (x:=vu) rfl (aa (i8 hos hds (x:=.none) rfl (ao ?_)))))))
 refine aa (slicePart_none ?_)
 show wpAny _ _ (if((1:Int)==0)=true then _ else _) _ _ s
 rw[av (by decide)]
 refine aa (BO pl (aa (BO pu (aa (ao ?_)))))
 show wpAny _ _ (match Builtin.Slice.sliceAdjust lo hi 1 (n:Int)with|(lo,hi)=>pure (lo,(1:Int),Builtin.Slice.slicePlaces lo hi 1)) _ _ s
 rw[Hw lo hi n]
 show wpAny _ _ (pure (((sIx n 0 lo:Nat):Int),(1:Int),Builtin.Slice.slicePlaces ((sIx n 0 lo:Nat):Int) ((sIx n n hi:Nat):Int) 1)) _ _ s
 rw[Hx]
 exact ao h
theorem Hz(xs:Array Value)(i k:Nat):((List.range k).filterMap fun(m:Nat)=>xs[((i:Int)+(m:Int)*1).toNat]?).toArray=((xs.toList.drop i).take k).toArray:=by
 have e:(fun(m:Nat)=>xs[((i:Int)+(m:Int)*1).toNat]?)=fun m=>xs[i+m]?:=by
  funext m
  have:((i:Int)+(m:Int)*1).toNat=i+m:=by omega
  rw[this]
 rw[e]
 have:=pick_run xs i k
 rw[List.filterMap_map]at this
 have e2:((fun x=>xs[x]?)∘fun x=>i+x)=fun m=>xs[i+m]?:=rfl
 rw[e2]at this
 rw[this]
theorem getItem_tuple_cut{t sl:Addr}{items:Array Value}{vl vu:Value}{lo hi:Option Int}{Q:Value->Shared->Prop}(ht:IsTup s.heap t items)(hs:s.heap.IsSliceOf sl vl vu .none)(pl:IsPart vl lo)(pu:IsPart vu hi)
  (hw:¬(sIx items.size 0 lo=0/\sIx items.size items.size hi=items.size))
  (h:Q (.ref s.heap.objs.size) {s with heap:=s.heap.push {cls:=.type "tuple",data:=.seq ((items.toList.drop (sIx items.size 0 lo)).take (sIx items.size items.size hi - sIx items.size 0 lo)).toArray}})
  (hsz:items.size<=sizeLine):wpAny (model prog w) A (getItem (.ref t) (.ref sl)) Q E s:=by
 have htake:sizeOk (.seq ((items.toList.drop (sIx items.size 0 lo)).take (sIx items.size items.size hi - sIx items.size 0 lo)).toArray):=by
  show((items.toList.drop (sIx items.size 0 lo)).take (sIx items.size items.size hi - sIx items.size 0 lo)).toArray.size<=sizeLine
  rw[ck,e9,lU,gq]
  omega
 have hj:sIx items.size items.size hi<=items.size:=Hv _ _ (aG _) hi
 obtain⟨os,hos,hcs,hds⟩:=id hs
 have hTs:s.TypeIs (.ref sl) "slice":=⟨os,hos,hcs⟩
 unfold getItem
 try with_reducible refine c_ ?_
 first|refine aa (ao ?_)|skip
 refine aa (wpAny_sequenceKey ht.typeIs (by decide) ?_)
 refine aa (oy (name:=Str.ofString "__getitem__") ht.typeIs PyProof.Rows.slot_tuple_getitem
  (ix PyProof.Rows.slot_tuple_getitem ht.typeIs entry_tuple_getitem ?_ (args_tuple_getitem _ _)))
 show wpAny _ _ (Builtin.Tuple.tupleItemsOf (.ref t) >>=_) _ _ s
 refine aa (tupleItemsOf_ ht ?_)
 refine aa (wpAny_typeOf hTs ?_)
 rw[aH (by decide)]
 refine aa (Hy hs pl pu ?_)
 have hno:¬((((sIx items.size 0 lo:Nat):Int)==0 && (1:Int)==1 && (sIx items.size items.size hi - sIx items.size 0 lo)==items.size)=true):=by
  intro q
  rw[fF,fF]at q
  have q1:((sIx items.size 0 lo:Nat):Int)=0:=eq_of_beq q.1.1
  have q2:sIx items.size items.size hi - sIx items.size 0 lo=items.size:=eq_of_beq q.2
  exact hw ⟨by omega,by omega⟩
 show wpAny _ _ (if(((sIx items.size 0 lo:Nat):Int)==0 && (1:Int)==1 && (sIx items.size items.size hi - sIx items.size 0 lo)==items.size)=true then _ else _) _ _ s
 rw[av hno,Hz]
 first
  |exact aa (m:=Builtin.Tuple.tupleExact _) (iw (ao ⟨_,rfl,ao h⟩) htake)
  |exact aa (m:=Builtin.Tuple.tupleExact _) (iw (aa (ao (ao ⟨_,rfl,ao h⟩))) htake)
  |exact aa (aa (m:=Builtin.Tuple.tupleExact _) (iw (ao (ao ⟨_,rfl,ao h⟩)) htake))
  |exact aa (aa (m:=Builtin.Tuple.tupleExact _) (iw (ao ⟨_,rfl,ao h⟩) htake))
end
end HT
namespace L2
open PySem PySem.Spec PyProof.Rows
abbrev TO:=St->Hp->(Option Int->Hp->Prop)->Prop
noncomputable def PO(X:Cx)(e:Option Expr)(t:TO):Prop:=
 ∀(a8:List (Addr×Obj)) (s:Shared) (σ:St) (H:Hp) (Q:Option Int->Hp->Prop),ah X a8 σ H s->t σ H Q->
  wpAny (model X.prog X.w) X.A (evalPart e X.env) (fun u s'=>∃o H',ah X a8 σ H' s'/\IsPart u o/\Q o H') X.xe s
noncomputable def BP:TO:=fun _ H Q=>Q none H
noncomputable def BQ(t:TE):TO:=fun σ H Q=>t σ H fun x H1=>∃i,x=.int i/\Q (some i) H1
section
variable{X:Cx}{e:Expr}{te:TE}{lo hi:Option Expr}{tl th:TO}{pos p2:Pos}
theorem nA:PO X none BP:=by
 intro a8 s σ H Q I h
 rw[evalPart_none]
 exact ao ⟨none,H,I,.none,h⟩
theorem nB(h:PE X e te):PO X (some e) (BQ te):=by
 intro a8 s σ H Q I hw
 rw[evalPart_some]
 refine aD (h a8 s σ H _ I hw) fun u s1 ⟨x,H1,I1,r1,q1⟩=>?_
 obtain⟨i,rfl,q⟩:=q1
 obtain⟨t,rfl⟩:=r1
 exact⟨some i,H1,I1,.int i t,q⟩
noncomputable def jM(X:Cx)(r:V->Option Int->Option Int->Hp->VK->Prop):Prop:=
 ∀(a8:List (Addr×Obj)) (s:Shared) (σ:St) (H:Hp) (x:V) (v vl vu:Value) (lo hi:Option Int) (sl:Addr) (Q:VK),ah X a8 σ H s->aO x v->s.heap.IsSliceOf sl vl vu .none->IsPart vl lo->IsPart vu hi->r x lo hi H Q->
  ∃T id,typeLookup (.type T) "__getitem__"=pure (some (.builtin id))/\s.TypeIs v T/\wpAny (model X.prog X.w) X.A (getItem v (.ref sl)) (EP X a8 σ Q) X.xe s
theorem jM.or{r r':V->Option Int->Option Int->Hp->VK->Prop}(h:jM X r)(h':jM X r'):jM X (fun x lo hi H Q=>r x lo hi H Q\/r' x lo hi H Q):=by
 intro a8 s σ H x v vl vu lo hi sl Q I rx hs pl pu q
 rcases q with q|q
 ·exact h a8 s σ H x v vl vu lo hi sl Q I rx hs pl pu q
 ·exact h' a8 s σ H x v vl vu lo hi sl Q I rx hs pl pu q
noncomputable def BR(r:V->Option Int->Option Int->Hp->VK->Prop)(te:TE)(tl th:TO):TE:=fun σ H Q=>te σ H fun x H1=>tl σ H1 fun l H2=>th σ H2 fun u H3=>r x l u H3 Q
theorem nE{r:V->Option Int->Option Int->Hp->VK->Prop}(hr:jM X r)(he:PE X e te)(hl:PO X lo tl)(hu:PO X hi th):PE X (.Subscript e (.Slice lo hi none p2) pos) (BR r te tl th):=by
 intro a8 s σ H Q I h
 refine Subscript_ (aD (he a8 s σ H _ I h) fun v s1 ⟨x,H1,I1,r1,q1⟩=>?_)
 refine wpAny_Slice (aD (hl a8 s1 σ H1 _ I1 q1) fun vl s2 ⟨l,H2,I2,pl,q2⟩=>aD (hu a8 s2 σ H2 _ I2 q2) fun vu s3 ⟨u,H3,I3,pu,q3⟩=>?_)
 rw[evalPart_none]
 refine ao ?_
 have I4:ah X a8 σ H3 {s3 with heap:=s3.heap.push {cls:=.type "slice",data:=.fields #[vl,vu,.none]}}:=I3.kept (t':=s3.toks) fun b ob q=>aW _ q
 obtain⟨T,id,hT,ht,hg⟩:=hr a8 {s3 with heap:=s3.heap.push {cls:=.type "slice",data:=.fields #[vl,vu,.none]}} σ H3 x v vl vu l u s3.heap.objs.size Q I4 r1 (Heap.IsSliceOf.new ..) pl pu q3
 show wpAny (model X.prog X.w) X.A (subscriptTail e (.Slice lo hi none p2) v (.ref s3.heap.objs.size)) (EP X a8 σ Q) X.xe {s3 with heap:=s3.heap.push {cls:=.type "slice",data:=.fields #[vl,vu,.none]}}
 exact tail_any (ops:=[.ref s3.heap.objs.size,v]) ht hT hg (by with_unfolding_all rfl)
noncomputable def fh(xs:List V)(lo hi:Option Int):List V:=(xs.drop (HT.sIx xs.length 0 lo)).take (HT.sIx xs.length xs.length hi - HT.sIx xs.length 0 lo)
theorem BS(xs:List V)(lo hi:Option Int):(fh xs lo hi).length<=xs.length:=by
 unfold fh
 rw[e9,lU]
 omega
noncomputable def vf(K:W.Frag):V->Option Int->Option Int->Hp->VK->Prop:=fun x lo hi H Q=>∃a xs,x=.ref a/\ax K H a xs/\
 ¬(HT.sIx xs.length 0 lo=0/\HT.sIx xs.length xs.length hi=xs.length)/\∀p,H p=none->Q (.ref p) (ab H p (.tup (fh xs lo hi)))
theorem HA:jM X (vf X.K):=by
 intro a8 s σ H x v vl vu lo hi sl Q I rx hs pl pu h
 obtain⟨a,xs,rfl,hx,hw,q⟩:=h
 cases rx
 obtain⟨ak,r,ht,hz⟩:=I.tuple hx
 have bI:ak.toArray.size=xs.length:=by rw[ck];exact r.length.symm
 refine⟨"tuple",_,PyProof.Rows.slot_tuple_getitem.lookup,ht.typeIs,?_⟩
 refine HT.getItem_tuple_cut ht hs pl pu (by rw[bI];exact hw) ?_ (by rw[bI];exact hz)
 rw[bI]
 refine⟨.ref s.heap.objs.size,_,I.laid (t':=s.toks) (o:=.tup (fh xs lo hi)) (fun b ob q=>aW _ q) (aG _) ?_,rfl,q _ (I.hok.fresh (aG _))⟩
 exact⟨cN (BS xs lo hi) hz,_,(r.drop (HT.sIx xs.length 0 lo)).take (HT.sIx xs.length xs.length hi - HT.sIx xs.length 0 lo),IsTup.new _ _⟩
end
noncomputable def jN(n:Nat)(i:Int):Option Nat:=if 0<=i then(if i<n then some i.toNat else none)else if -(n:Int)<=i then some (i+n).toNat else none
noncomputable def iF{α:Type}(xs:List α)(i:Int):Option α:=(jN xs.length i).bind fun j=>xs[j]?
theorem BU{n:Nat}{i:Int}{j:Nat}(h:jN n i=some j):seqIndex? i n=some j/\j<n/\ -(n:Int)<=i/\i<n:=by
 unfold jN at h
 by_cases h0:0<=i
 ·rw[aH h0]at h
  by_cases h1:i<n
  ·rw[aH h1]at h
   have e:i.toNat=j:=cm h
   exact⟨by rw[seqIndex_of h0 h1,e],by omega,by omega,h1⟩
  ·rw[av h1]at h;cases h
 ·rw[av h0]at h
  by_cases h1: -(n:Int)<=i
  ·rw[aH h1]at h
   have e:(i+n).toNat=j:=cm h
   exact⟨by rw[seqIndex_neg (by omega) h1,e],by omega,h1,by omega⟩
  ·rw[av h1]at h;cases h
theorem BV{α:Type}{xs:List α}{i:Int}{v:α}(h:iF xs i=some v):∃j,seqIndex? i xs.length=some j/\xs[j]?=some v/\j<xs.length/\ -(xs.length:Int)<=i/\i<xs.length:=by
 unfold iF at h
 cases e:jN xs.length i with
 |none=>rw[e]at h;cases h
 |some j=>
  rw[e]at h
  obtain⟨h1,h2,h3,h4⟩:=BU e
  exact⟨j,h1,h,h2,h3,h4⟩
theorem vg{α:Type}{xs:List α}{j:Nat}{v:α}(h:xs[j]?=some v):iF xs (j:Int)=some v:=by
 have hj:j<xs.length:=(Qr.mp h).1
 have e:jN xs.length (j:Int)=some j:=by
  unfold jN
  rw[aH (by omega),aH (by omega)];simp
 unfold iF;rw[e];exact h
noncomputable def HB(b:Expr):Prop:=∀o i,subscripted b false o i=operate [o,i] (getItem o i)
noncomputable def pF(X:Cx)(r:R2):Prop:=
 ∀(value slice:Expr) (a8:List (Addr×Obj)) (s:Shared) (σ:St) (H:Hp) (x y:V) (v u:Value) (Q:VK),ah X a8 σ H s->aO x v->aO y u->r x y H Q->
  subscripted slice false v u=operate [v,u] (getItem v u)->wpAny (model X.prog X.w) X.A (subscriptTail value slice v u) (EP X a8 σ Q) X.xe s
noncomputable def HC(X:Cx)(id:String)(r:V->List V->Hp->VK->Prop):Prop:=
 ∀(a8:List (Addr×Obj)) (s:Shared) (σ:St) (H:Hp) (x:V) (xs:List V) (v:Value) (us:List Value) (Q:VK),ah X a8 σ H s->aO x v->aP xs us->r x xs H Q->
  wpAny (model X.prog X.w) X.A (call (.builtin id) (v::us)) (EP X a8 σ Q) X.xe s
section
variable{X:Cx}{a b:Expr}{ta tb:TE}{pos:Pos}
theorem cp{r:R2}(hr:pF X r)(ha:PE X a ta)(hb:PE X b tb)(hs:HB b):PE X (.Subscript a b pos) (kJ r ta tb):=by
 intro a8 s σ H Q I h
 exact Subscript_ (uZ ha hb I h fun v u s2 x y H2 I2 rx ry q=>hr a b a8 s2 σ H2 x y v u Q I2 rx ry q (hs _ _))
noncomputable def vh(K:W.Frag):R2:=fun x y H Q=>∃p xs i v,x=.ref p/\y=.int i/\ai K H p xs/\iF xs i=some v/\Q v H
noncomputable def vi(K:W.Frag):R2:=fun x y H Q=>∃p xs i v,x=.ref p/\y=.int i/\ax K H p xs/\iF xs i=some v/\Q v H
theorem HD:pF X (vh X.K):=by
 intro value slice a8 s σ H x y v u Q I rx ry h hs
 obtain⟨p,xs,i,z,rfl,rfl,hq,he,q⟩:=h
 cases rx
 obtain⟨t,rfl⟩:=ry
 obtain⟨ak,r,pl,hz⟩:=I.list hq
 obtain⟨j,h1,h2,h3,h4,h5⟩:=BV he
 obtain⟨w,ew,rw'⟩:=r.get h2
 have hl:=r.length
 have hn:=rH
 have fin:EP X a8 σ Q w s:=⟨z,H,I,rw',q⟩
 by_cases h0:0<=i
 ·have hj:i.toNat=j:=by
   rw[seqIndex_of h0 h5]at h1
   exact cm h1
  exact item_listR pl.isList h0 (by omega) (by rw[hj];simpa using ew) fin hs
 ·have hj:(i+(ak.toArray.size:Int)).toNat=j:=by
   rw[seqIndex_neg (by omega) h4]at h1
   rw[ck,<-hl]
   exact cm h1
  exact subscriptTail_builtinR (x:=w) pl.isList.typeIs slot_list_getitem.lookup
   (wpAny_getItem_list_neg (Q:=fun r s'=>r=w/\EP X a8 σ Q r s') pl.isList (by omega) (by rw[ck]<;>omega) (by omega) (by rw[hj];simpa using ew) ⟨rfl,fin⟩) hs
theorem HE:pF X (vi X.K):=by
 intro value slice a8 s σ H x y v u Q I rx ry h hs
 obtain⟨p,xs,i,z,rfl,rfl,hq,he,q⟩:=h
 cases rx
 obtain⟨t,rfl⟩:=ry
 obtain⟨ak,r,pl,hz⟩:=I.tuple hq
 obtain⟨j,h1,h2,h3,h4,h5⟩:=BV he
 obtain⟨w,ew,rw'⟩:=r.get h2
 have hl:=r.length
 have hn:=rH
 have fin:EP X a8 σ Q w s:=⟨z,H,I,rw',q⟩
 exact subscriptTail_builtinR (x:=w) pl.typeIs slot_tuple_getitem.lookup
  (getItem_tuple (j:=j) (Q:=fun r s'=>r=w/\EP X a8 σ Q r s') pl (by omega) (by omega) (by rw[ck,<-hl];exact h1) (by simpa using ew) ⟨rfl,fin⟩) hs
theorem HF(ak:List Value)(n j:Nat)(u:Value):Obj.mapSeq (·.setIfInBounds j u) {cls:=.type "list",data:=.seq ak.toArray n}={cls:=.type "list",data:=.seq (ak.set j u).toArray n}:=by
 simp[Obj.mapSeq]
theorem ah.lst{a8:List (Addr×Obj)}{σ:St}{H:Hp}{s:Shared}{p:Addr}{xs:List V}(I:ah X a8 σ H s)(h:H p=some (.lst xs)):
  ∃(ak:List Value) (n:Nat),aP xs ak/\s.heap.get? p=some {cls:=.type "list",data:=.seq ak.toArray n}/\xs.length<=sizeLine:=by
 obtain⟨z,ak,n,r,e⟩:=I.hok p _ h
 exact⟨ak,n,r,e,z⟩
theorem ah.lstUpd{a8:List (Addr×Obj)}{σ:St}{H:Hp}{s:Shared}{p:Addr}{xs ys:List V}{ak its':List Value}{n n':Nat}{f:Obj->Obj}(I:ah X a8 σ H s)(h:H p=some (.lst xs))
  (ho:s.heap.get? p=some {cls:=.type "list",data:=.seq ak.toArray n}) (hf:f {cls:=.type "list",data:=.seq ak.toArray n}={cls:=.type "list",data:=.seq its'.toArray n'}) (r:aP ys its') (hz:ys.length<=sizeLine) (t:Nat):
  ah X a8 σ (ab H p (.lst ys)) {s with heap:=s.heap.update p f,toks:=t}:=by
 have e:(s.heap.update p f).get? p=some {cls:=.type "list",data:=.seq its'.toArray n'}:=by
  rw[zO f ho (by rw[hf]<;>rfl),hf]
 refine I.write (x:=p) (e:=p) (by rw[h];trivial) (.inl rfl) (fun b u hb q=>(mV _ _ (Ne.symm hb)).trans q) ⟨_,e⟩ ?_
 exact⟨hz,its',n',r,e⟩
noncomputable def BW:V->V->V->Hp->(Hp->Prop)->Prop:=fun o i v H Q=>∃p xs k j,o=.ref p/\i=.int k/\H p=some (.lst xs)/\jN xs.length k=some j/\Q (ab H p (.lst (xs.set j v)))
theorem nF:B7 X BW:=by
 intro a8 s σ H o i v ov iv u Q I ro ri rv h
 obtain⟨p,xs,k,j,rfl,rfl,hp,hj,q⟩:=h
 cases ro
 obtain⟨t,rfl⟩:=ri
 obtain⟨ak,n,r,ho,hz⟩:=I.lst hp
 obtain⟨h1,h2,h3,h4⟩:=BU hj
 have hl:=r.length
 have hn:=rH
 have I':ah X a8 σ (ab H p (.lst (xs.set j v))) {s with heap:=s.heap.update p (Obj.mapSeq (·.setIfInBounds j u))}:=
  I.lstUpd hp ho (HF ak n j u) (r.set rv j) (by rw[List.length_set];exact hz) s.toks
 by_cases h0:0<=k
 ·have hk:k.toNat=j:=by
   rw[seqIndex_of h0 h4]at h1
   exact cm h1
  exact W.ki_setAt ho h0 (by omega) (by rw[ck,<-hl];exact h4) (by rw[hk];exact⟨_,I',q⟩)
 ·have hk:(k+(ak.toArray.size:Int)).toNat=j:=by
   rw[seqIndex_neg (by omega) h3]at h1
   rw[ck,<-hl]
   exact cm h1
  exact W.ki_setBack ho (by omega) (by rw[ck,<-hl];exact h3) (by omega) (by rw[hk];exact⟨_,I',q⟩)
theorem HG(lo hi:Option Int)(n:Nat):(sliceBounds lo hi none n).1=((HT.sIx n 0 lo:Nat):Int)/\(sliceBounds lo hi none n).2.1=((HT.sIx n n hi:Nat):Int)/\(sliceBounds lo hi none n).2.2=1:=by
 refine⟨?_,?_,rfl⟩
 ·cases lo with
  |none=>simp[sliceBounds,HT.sIx]
  |some i=>
   simp only[sliceBounds,HT.sIx,Option.getD_none,show(1:Int) >0 by decide,jC]
   by_cases h:i<0
   ·simp only[h,jC]<;>omega
   ·simp only[h,kA]<;>omega
 ·cases hi with
  |none=>simp[sliceBounds,HT.sIx]
  |some i=>
   simp only[sliceBounds,HT.sIx,Option.getD_none,show(1:Int) >0 by decide,jC]
   by_cases h:i<0
   ·simp only[h,jC]<;>omega
   ·simp only[h,kA]<;>omega
theorem HI(ak:List Value)(lo hi:Option Int):slicePick ak.toArray lo hi none=((ak.drop (HT.sIx ak.length 0 lo)).take (HT.sIx ak.length ak.length hi - HT.sIx ak.length 0 lo)).toArray:=by
 obtain⟨h1,h2,h3⟩:=HG lo hi ak.toArray.size
 unfold slicePick
 rw[h1,h2,h3]
 simp only[sliceRange_one,pick_run,ck]<;>rfl
noncomputable def vj(K:W.Frag):V->Option Int->Option Int->Hp->VK->Prop:=fun x lo hi H Q=>∃a xs,x=.ref a/\ai K H a xs/\∀p,H p=none->Q (.ref p) (ab H p (.lst (fh xs lo hi)))
theorem HJ:jM X (vj X.K):=by
 intro a8 s σ H x v vl vu lo hi sl Q I rx hs pl pu h
 obtain⟨a,xs,rfl,hx,q⟩:=h
 cases rx
 obtain⟨ak,r,ht,hz⟩:=I.list hx
 have bI:=r.length
 refine⟨"list",_,slot_list_getitem.lookup,ht.isList.typeIs,?_⟩
 refine wpAny_getItem_list_slice ht.isList hs pl pu .none (by simp) ?_ (by rw[ck]<;>omega)
 rw[HI,<-bI]
 refine⟨.ref s.heap.objs.size,_,I.laid (t':=s.toks) (o:=.lst (fh xs lo hi)) (fun b ob q=>aW _ q) (aG _) ?_,rfl,q _ (I.hok.fresh (aG _))⟩
 exact⟨cN (BS xs lo hi) hz,_,0,(r.drop (HT.sIx xs.length 0 lo)).take (HT.sIx xs.length xs.length hi - HT.sIx xs.length 0 lo),bV _ rfl⟩
noncomputable def jb:V->Bool
 |.non=>true
 |.bl _=>true
 |.int _=>true
 |.str _=>true
 |_=>false
noncomputable def jO:V->V->Bool
 |.non,.non=>true
 |.bl a,.bl b=>a==b
 |.bl a,.int b=>(if a then 1 else 0)==b
 |.int a,.bl b=>a==(if b then 1 else 0)
 |.int a,.int b=>a==b
 |.str a,.str b=>a==b
 |_,_=>false
theorem BX{A:Around}{s:Shared}{y x:V}{u v:Value}(ry:aO y u)(rx:aO x v)(fy:jb y=true)(fx:jb x=true):SeqAt.EqAt A s u v (jO y x):=by
 cases y with
 |non=>
  cases ry
  cases x with
  |non=>cases rx;exact SeqAt.EqAt.same _
  |bl b=>cases rx;exact SeqAt.EqAt.none_bool b
  |int b=>obtain⟨t,rfl⟩:=rx;exact SeqAt.EqAt.none_int b t
  |str b=>obtain⟨t,rfl⟩:=rx;exact SeqAt.EqAt.none_str b t
  |_=>exact absurd (show false=true from fx) cq
 |bl a=>
  cases ry
  cases x with
  |non=>cases rx;exact SeqAt.EqAt.bool_none a
  |bl b=>cases rx;exact SeqAt.EqAt.bool_bool a b
  |int b=>obtain⟨t,rfl⟩:=rx;exact SeqAt.EqAt.bool_int a b t
  |str b=>obtain⟨t,rfl⟩:=rx;exact SeqAt.EqAt.bool_str a b t
  |_=>exact absurd (show false=true from fx) cq
 |int a=>
  obtain⟨t',rfl⟩:=ry
  cases x with
  |non=>cases rx;exact SeqAt.EqAt.int_none a t'
  |bl b=>cases rx;exact SeqAt.EqAt.int_bool a t' b
  |int b=>obtain⟨t,rfl⟩:=rx;exact SeqAt.EqAt.int_int a t' b t
  |str b=>obtain⟨t,rfl⟩:=rx;exact SeqAt.EqAt.int_str a t' b t
  |_=>exact absurd (show false=true from fx) cq
 |str a=>
  obtain⟨t',rfl⟩:=ry
  cases x with
  |non=>cases rx;exact SeqAt.EqAt.str_none a t'
  |bl b=>cases rx;exact SeqAt.EqAt.str_bool a t' b
  |int b=>obtain⟨t,rfl⟩:=rx;exact SeqAt.EqAt.str_int a t' b t
  |str b=>obtain⟨t,rfl⟩:=rx;exact SeqAt.EqAt.str_str a t' b t
  |_=>exact absurd (show false=true from fx) cq
 |_=>exact absurd (show false=true from fy) cq
noncomputable def gC(x:V)(u:Value):Bool:=match u with
 |.none=>jO .non x
 |.bool b=>jO (.bl b) x
 |.int i _=>jO (.int i) x
 |.str z _=>jO (.str z) x
 |_=>false
theorem BY{x y:V}{u:Value}(r:aO y u)(f:jb y=true):gC x u=jO y x:=by
 cases y with
 |non=>cases r;rfl
 |bl b=>cases r;rfl
 |int i=>obtain⟨t,rfl⟩:=r;rfl
 |str z=>obtain⟨t,rfl⟩:=r;rfl
 |_=>exact absurd (show false=true from f) cq
theorem pG{x:V}:∀{xs:List V} {us:List Value},aP xs us->xs.all jb=true->us.any (gC x)=xs.any fun y=>jO y x
 |_,_,.nil,_=>rfl
 |y::xs,u::us,.cons r t,f=>by
  rw[qY,fF]at f
  rw[qX,qX,BY r f.1,pG t f.2]
theorem pH{A:Around}{s:Shared}{x:V}{v:Value}(rx:aO x v)(fx:jb x=true):∀{xs:List V} {us:List Value},aP xs us->xs.all jb=true->∀u∈us,SeqAt.EqAt A s u v (gC x u)
 |_,_,.nil,_=>fun u hu=>by cases hu
 |y::xs,u::us,.cons r t,f=>fun u' hu=>by
  rw[qY,fF]at f
  rcases cE.mp hu with rfl|hu
  ·rw[BY r f.1];exact BX r rx f.1 fx
  ·exact pH rx fx t f.2 u' hu
noncomputable def pI(x:V)(xs:List V):Bool:=xs.any fun y=>jO y x
noncomputable def ma(K:W.Frag)(neg:Bool):R2:=fun x y H Q=>∃p xs,y=.ref p/\(ai K H p xs\/ax K H p xs)/\jb x=true/\xs.all jb=true/\Q (.bl (if neg then !pI x xs else pI x xs)) H
theorem HK:bJ X (compareOp .In) (ma X.K false):=by
 intro a8 s σ H x y v u Q I rx ry h
 obtain⟨p,xs,rfl,hq,fx,fs,q⟩:=h
 cases ry
 rcases hq with hq|hq
 ·obtain⟨ak,r,pl,hz⟩:=I.list hq
  refine SeqAt.in_listAt (gC x) pl.isList (fun w hw=>pH rx fx r fs w (by simpa using hw)) ⟨.bl _,H,I,rfl,?_⟩
  rw[show ak.toArray.any (gC x)=ak.any (gC x) by simp,pG r fs]
  exact q
 ·obtain⟨ak,r,pl,hz⟩:=I.tuple hq
  refine SeqAt.in_tupleAt (gC x) pl (fun w hw=>pH rx fx r fs w (by simpa using hw)) ⟨.bl _,H,I,rfl,?_⟩
  rw[show ak.toArray.any (gC x)=ak.any (gC x) by simp,pG r fs]
  exact q
theorem HL:bJ X (compareOp .NotIn) (ma X.K true):=by
 intro a8 s σ H x y v u Q I rx ry h
 obtain⟨p,xs,rfl,hq,fx,fs,q⟩:=h
 cases ry
 rcases hq with hq|hq
 ·obtain⟨ak,r,pl,hz⟩:=I.list hq
  refine SeqAt.notIn_listAt (gC x) pl.isList (fun w hw=>pH rx fx r fs w (by simpa using hw)) ⟨.bl _,H,I,rfl,?_⟩
  rw[show ak.toArray.any (gC x)=ak.any (gC x) by simp,pG r fs]
  exact q
 ·obtain⟨ak,r,pl,hz⟩:=I.tuple hq
  refine SeqAt.notIn_tupleAt (gC x) pl (fun w hw=>pH rx fx r fs w (by simpa using hw)) ⟨.bl _,H,I,rfl,?_⟩
  rw[show ak.toArray.any (gC x)=ak.any (gC x) by simp,pG r fs]
  exact q
theorem HM:cO X (.builtin "len") (fun xs H Q=>∃p ys,xs=[.ref p]/\(ai X.K H p ys\/ax X.K H p ys)/\Q (.int ys.length) H):=by
 intro a8 s σ H xs us Q I r h
 obtain⟨p,ys,rfl,hq,q⟩:=h
 obtain⟨u,rfl,rx⟩:=fQ r
 cases rx
 have hn:=rH
 rcases hq with hq|hq
 ·obtain⟨ak,r',pl,hz⟩:=I.list hq
  have bI:=r'.length
  exact Calls.call_len_list pl.isList (by simp only[ck]<;>omega) ⟨.int ys.length,H,I.tok _,⟨s.toks+1,by rw[ck,bI]⟩,q⟩
 ·obtain⟨ak,r',pl,hz⟩:=I.tuple hq
  have bI:=r'.length
  exact len_tuple pl (by simp only[ck]<;>omega) ⟨.int ys.length,H,I.tok _,⟨s.toks+1,by rw[ck,bI]⟩,q⟩
theorem HN:cO X (.type "list") (fun xs H Q=>∃p ys,xs=[.ref p]/\(ai X.K H p ys\/ax X.K H p ys)/\∀l,H l=none->Q (.ref l) (ab H l (.lst ys))):=by
 intro a8 s σ H xs us Q I r h
 obtain⟨p,ys,rfl,hq,q⟩:=h
 obtain⟨u,rfl,rx⟩:=fQ r
 cases rx
 have fin:∀(ak:List Value),aP ys ak->ys.length<=sizeLine->∀(h':Heap) (c':Nat),(∀b o',s.heap.get? b=some o'->h'.get? b=some o')->
   h'.get? s.heap.objs.size=some {cls:=.type "list",dict:=none,data:=.seq ak.toArray c',slots:= #[]}->EP X a8 σ Q (.ref s.heap.objs.size) {s with heap:=h'}:=fun ak r' hz h' c' kp e=>
  ⟨.ref s.heap.objs.size,_,I.laid (t':=s.toks) kp (aG _) (show cu X.prog X.w _ h' _ (.lst ys)from⟨hz,ak,c',r',e⟩),rfl,q _ (I.hok.fresh (aG _))⟩
 rcases hq with hq|hq
 ·obtain⟨ak,r',pl,hz⟩:=I.list hq
  have bI:=r'.length
  obtain⟨o,ho,hc,n,hd⟩:=pl.isList
  exact call_list_seq p (.inl rfl) ho hc hd (fun h' c' kp e=>fin ak r' hz h' c' kp e) (by simp only[ck]<;>omega)
 ·obtain⟨ak,r',pl,hz⟩:=I.tuple hq
  have bI:=r'.length
  obtain⟨o,ho,hc,n,hd⟩:=pl
  exact call_list_seq p (.inr rfl) ho hc hd (fun h' c' kp e=>fin ak r' hz h' c' kp e) (by simp only[ck]<;>omega)
theorem HP:cO X (.type "tuple") (fun xs H Q=>∃p ys,xs=[.ref p]/\((ai X.K H p ys/\∀l,H l=none->Q (.ref l) (ab H l (.tup ys)))\/(ax X.K H p ys/\Q (.ref p) H))):=by
 intro a8 s σ H xs us Q I r h
 obtain⟨p,ys,rfl,h⟩:=h
 obtain⟨u,rfl,rx⟩:=fQ r
 cases rx
 rcases h with⟨hq,q⟩|⟨hq,q⟩
 ·obtain⟨ak,r',pl,hz⟩:=I.list hq
  have bI:=r'.length
  refine call_tuple_list pl.isList (fun h' kp=>?_) (by simp only[ck]<;>omega)
  have I1:ah X a8 σ H {s with heap:=h'}:=I.kept (t':=s.toks) kp
  have I2:ah X a8 σ (ab H h'.objs.size (.tup ys)) {s with heap:=h'.push {cls:=.type "tuple",data:=.seq ak.toArray}}:=
   I1.laid (t':=s.toks) (fun b o e=>aW _ e) (aG _) (show cu X.prog X.w _ _ _ (.tup ys)from⟨hz,ak,r',IsTup.new _ _⟩)
  exact⟨.ref h'.objs.size,_,I2,rfl,q _ (I1.hok.fresh (aG _))⟩
 ·obtain⟨ak,r',pl,hz⟩:=I.tuple hq
  exact call_tuple_same pl ⟨.ref p,H,I,rfl,q⟩
noncomputable def vk(K:W.Frag)(T:String)(x:V)(H:Hp):Prop:=match x with
 |.str _=>T="str"
 |.int _=>T="int"
 |.ref p=>(T="list"/\∃xs,ai K H p xs)\/(T="tuple"/\∃o,K.lookup p=some o/\o.cls=.type "tuple"/\o.dict=none)\/
   (T="dict"/\((∃ae,H p=some (.dK ae))\/∃ae,H p=some (.dT ae)))\/(T="set"/\∃S n,H p=some (.set S n))
 |_=>False
theorem HQ{a8:List (Addr×Obj)}{σ:St}{H:Hp}{s:Shared}{T:String}{x:V}{v:Value}(I:ah X a8 σ H s)(r:aO x v)(ty:vk X.K T x H):
  s.TypeIs v T/\∀a,v=.ref a->∃ob,s.heap.get? a=some ob/\ob.dict=none:=by
 cases x with
 |str z=>
  obtain⟨t,rfl⟩:=r
  cases(show T="str" from ty)
  exact⟨typeIs_str s z t,fun _ e=>nomatch e⟩
 |int i=>
  obtain⟨t,rfl⟩:=r
  cases(show T="int" from ty)
  exact⟨typeIs_int s i t,fun _ e=>nomatch e⟩
 |ref p=>
  cases r
  rcases ty with⟨rfl,xs,hq⟩|⟨rfl,o,hk,hc,hd⟩|⟨rfl,hk⟩|⟨rfl,S,n,hk⟩
  ·obtain⟨ak,_,pl,_⟩:=I.list hq
   refine⟨pl.isList.typeIs,fun a e=>?_⟩
   cases e
   obtain⟨o,n,e,c,hd,_⟩:=pl
   exact⟨o,e,hd⟩
  ·refine⟨⟨o,I.kIn p o hk,hc⟩,fun a e=>?_⟩
   cases e
   exact⟨o,I.kIn _ o hk,hd⟩
  ·have z:∃o,s.heap.get? p=some o/\o.ExactDict:=by
    rcases hk with⟨ae,hk⟩|⟨ae,hk⟩
    ·obtain⟨_,_,_,_,o,_,_,e,ex,_⟩:=I.hok p _ hk
     exact⟨o,e,ex⟩
    ·obtain⟨_,_,_,_,o,_,_,e,ex,_⟩:=I.hok p _ hk
     exact⟨o,e,ex⟩
   obtain⟨o,e,ex⟩:=z
   refine⟨⟨o,e,ex.1⟩,fun a e2=>?_⟩
   cases e2
   exact⟨o,e,ex.2.1⟩
  ·obtain⟨o,_,_,_,e,ex,_⟩:=I.hok p _ hk
   refine⟨⟨o,e,ex.1⟩,fun a e2=>?_⟩
   cases e2
   exact⟨o,e,ex.2.1⟩
 |_=>exact False.elim ty
noncomputable def pJ(K:W.Frag)(T:String)(r:V->List V->Hp->VK->Prop)(to:TE)(t:TA):TE:=fun σ H Q=>to σ H fun x H1=>vk K T x H1/\t σ H1 fun xs H2=>r x xs H2 Q
variable{o e:Expr}{es:List Expr}{to:TE}{t:TA}{name:Str}{c6 c9:Pos}{T id:String}{r:V->List V->Hp->VK->Prop}
theorem vm(pa:PlainAttrs T)(slot:Slot T name id)(hty:typeOf (.builtin id)=pure (.type "method_descriptor"))(hm:HC X id r)(ho:PE X o to)(ha:PA X (e::es) t)
  (hbase:attributeBase o name X.env (eval o X.env)=eval o X.env:=by rfl)
  (hfew:((backTo c9 (starEach (e::es) X.env)).all (fun x=>!x.1) && (backToKw c9 (keywordEach [] X.env)).all (fun x=>x.1.isSome)
   && decide ((e::es).length+([]:List Keyword).length+(if([]:List Keyword).isEmpty then 0 else 1)<30))=true:=by rfl)
  (hline:(c6.endLine==c9.line)=true:=by rfl) (hs:starEach (e::es) X.env=(false,eval e X.env)::starEach es X.env:=by rfl) (hplain:(backTo c9 (starEach es X.env)).any (·.1)=false:=by rfl):
  PE X (.Call (.Attribute o name c6) (e::es) [] c9) (pJ X.K T r to t):=by
 intro a8 s σ H Q I h
 refine wpAny_Call_method_late hbase hfew hline rfl (aD (ho a8 s σ H _ I h) fun v s1 ⟨x,H1,I1,r1,ty,q1⟩=>?_)
 obtain⟨h1,h2⟩:=HQ I1 r1 ty
 refine⟨T,id,pa,slot,hty,h1,h2,?_⟩
 have hA:=ha c9 a8 s1 σ H1 _ I1 q1
 rw[hs]at hA⊢
 refine zM (by show(false||(backTo c9 (starEach es X.env)).any (·.1))=false;rw[hplain]<;>rfl) (zQ ?_)
 exact aD hA fun us s2 ⟨vs,H2,I2,r2,q2⟩=>hm a8 s2 σ H2 x vs v us Q I2 r1 r2 q2
end
noncomputable def vn(X:Cx)(id:String)(r:V->List V->Hp->VK->Prop):Prop:=
 ∀(a8:List (Addr×Obj)) (s:Shared) (σ:St) (H:Hp) (x:V) (xs:List V) (v:Value) (us:List Value) (Q:VK),ah X a8 σ H s->aO x v->aP xs us->r x xs H Q->
  wpAny (model X.prog X.w) X.A (call (.builtin id) (v::us)) (EP X a8 σ Q) X.xe s
theorem aP.one:∀{x:V} {us:List Value},aP [x] us->∃u,us=[u]/\aO x u
 |_,_,.cons r .nil=>⟨_,rfl,r⟩
theorem aP.eraseIdx:∀{xs:List V} {us:List Value} (i:Nat),aP xs us->aP (xs.eraseIdx i) (us.eraseIdx i)
 |_,_,_,.nil=>.nil
 |_,_,0,.cons _ t=>t
 |_,_,i+1,.cons r t=>.cons r (aP.eraseIdx i t)
theorem BZ{α:Type}:∀(l:List α) (i:Nat),(l.eraseIdx i).length<=l.length
 |[],_=>aG _
 |_::_,0=>n0 _
 |_::r,i+1=>Nat.succ_le_succ (BZ r i)
section
variable{X:Cx}{a8:List (Addr×Obj)}{σ:St}{H:Hp}{s:Shared}{l b:Addr}{xs ys zs:List V}
theorem ah.lset{ak its':List Value}{n:Nat}{f:Array Value->Array Value}{t':Nat}(I:ah X a8 σ H s)(hH:H l=some (.lst xs))
  (e:s.heap.get? l=some {cls:=.type "list",data:=.seq ak.toArray n}) (hf:f ak.toArray=its'.toArray) (hv:aP ys its') (hz:ys.length<=sizeLine):
  ah X a8 σ (ab H l (.lst ys)) {s with heap:=s.heap.update l (Obj.mapSeq f),toks:=t'}:=by
 have q:=PySem.IsL.update e f
 rw[hf]at q
 refine I.write (x:=l) (e:=l) (by rw[hH];exact trivial) (.inl rfl) (fun b' u hb hu=>(mV s.heap (Obj.mapSeq f) (Ne.symm hb)).trans hu) ⟨_,q⟩ ?_
 exact⟨hz,its',_,hv,q⟩
theorem ah.lnew{ak:List Value}{t':Nat}(I:ah X a8 σ H s)(hv:aP ys ak)(hz:ys.length<=sizeLine):
  ah X a8 σ (ab H s.heap.objs.size (.lst ys)) {s with heap:=s.heap.push {cls:=.type "list",data:=.seq ak.toArray},toks:=t'}:=
 I.laid (fun _ _ q=>aW _ q) (aG _) ⟨hz,ak,0,hv,bV _ rfl⟩
theorem ah.fresh(I:ah X a8 σ H s):H s.heap.objs.size=none:=I.hok.fresh (aG _)
theorem ah.lstM(I:ah X a8 σ H s)(hH:H l=some (.lst xs)):xs.length<=sizeLine/\∃(ak:List Value) (n:Nat),aP xs ak/\xs.length=ak.length/\s.heap.get? l=some {cls:=.type "list",data:=.seq ak.toArray n}:=by
 obtain⟨z,ak,n,r,e⟩:=I.hok l _ hH
 exact⟨z,ak,n,r,r.length,e⟩
theorem HR{n:Nat}(h:n<=sizeLine):Builtin.List.listTooLong n=false:=by
 unfold Builtin.List.listTooLong
 exact cz (by omega)
end
section
variable{X:Cx}
noncomputable def vo:V->List V->Hp->VK->Prop:=fun x vs H Q=>∃l xs y,x=.ref l/\vs=[y]/\H l=some (.lst xs)/\xs.length<sizeLine/\Q .non (ab H l (.lst (xs++[y])))
theorem HS:vn X "list.append" vo:=by
 intro a8 s σ H x vs v us Q I rx rv h
 obtain⟨l,xs,y,rfl,rfl,hH,hz,q⟩:=h
 cases rx
 obtain⟨u,rfl,ru⟩:=rv.one
 obtain⟨z,ak,n,r,hl,e⟩:=I.lstM hH
 refine call_meets F.slot_list_append ⟨_,e,rfl⟩ F.entry_list_append (F.args_list_append_2 _ _) (PySem.list_append l ak.toArray n u (by rw[ck];omega)) ⟨e,?_⟩
 refine⟨.non,_,I.lset (its':=ak++[u]) hH e (by simp) (r.append (.cons ru .nil)) ?_,rfl,q⟩
 rw[bF,oz]
 omega
noncomputable def vp:V->List V->Hp->VK->Prop:=fun x vs H Q=>∃l b xs zs,x=.ref l/\vs=[.ref b]/\H l=some (.lst xs)/\H b=some (.lst zs)/\xs.length+zs.length<=sizeLine/\Q .non (ab H l (.lst (xs++zs)))
theorem HU:vn X "list.extend" vp:=by
 intro a8 s σ H x vs v us Q I rx rv h
 obtain⟨l,b,xs,zs,rfl,rfl,hH,hB,hz,q⟩:=h
 cases rx
 obtain⟨u,rfl,ru⟩:=rv.one
 cases ru
 obtain⟨z,ak,n,r,hl,e⟩:=I.lstM hH
 obtain⟨z2,its2,n2,r2,hl2,e2⟩:=I.lstM hB
 have hsz:ak.toArray.size+its2.toArray.size<=sizeLine:=by rw[ck,ck];omega
 have hlong:¬(!ak.toArray.isEmpty && Builtin.List.listTooLong (ak.toArray.size+its2.toArray.size))=true:=by
  rw[HR hsz,Bool.and_false]
  exact cq
 refine call_meets F.slot_list_extend ⟨_,e,rfl⟩ F.entry_list_extend (F.args_list_extend_2 _ _)
  (AutoSeq1.list_extend_list_list_0 l ak.toArray n b its2.toArray n2 hlong (by rw[ck];omega) (by omega)) ⟨e,e2,?_⟩
 refine⟨.non,_,I.lset (its':=ak++its2) hH e (by simp) (r.append r2) ?_,rfl,q⟩
 rw[bF]
 omega
noncomputable def vq:V->List V->Hp->VK->Prop:=fun x vs H Q=>∃l xs i k y,x=.ref l/\vs=[.int i]/\H l=some (.lst xs)/\ -(2 ^ 63)<=i/\i<2 ^ 63/\seqIndex? i xs.length=some k/\xs[k]?=some y/\Q y (ab H l (.lst (xs.eraseIdx k)))
theorem HV:vn X "list.pop" vq:=by
 intro a8 s σ H x vs v us Q I rx rv h
 obtain⟨l,xs,i,k,y,rfl,rfl,hH,h1,h2,hk,hy,q⟩:=h
 cases rx
 obtain⟨u,rfl,ru⟩:=rv.one
 obtain⟨t,rfl⟩:=ru
 obtain⟨z,ak,n,r,hl,e⟩:=I.lstM hH
 obtain⟨w,hw,rw'⟩:=r.get hy
 refine call_meets F.slot_list_pop ⟨_,e,rfl⟩ F.entry_list_pop (F.args_list_pop_2 _ _)
  (MeetsSeq.list_pop_at l ak.toArray n i t k w (fitsIndex_both h1 h2) (by rw[ck,<-hl];exact hk) (by rw[<-zP];exact hw) (by rw[ck];omega)) ⟨e,?_⟩
 refine⟨y,_,I.lset (its':=ak.eraseIdx k) hH e ?_ (r.eraseIdx k) ?_,rw',q⟩
 ·show ak.toArray.eraseIdxIfInBounds k=(ak.eraseIdx k).toArray
  rw[List.eraseIdxIfInBounds_toArray]
 ·have:=BZ xs k
  omega
noncomputable def B_:R2:=fun x y H Q=>∃l b xs zs,x=.ref l/\y=.ref b/\H l=some (.lst xs)/\H b=some (.lst zs)/\xs.length+zs.length<=sizeLine/\∀p,H p=none->Q (.ref p) (ab H p (.lst (xs++zs)))
theorem nG:bJ X (binaryOp .Add) B_:=by
 intro a8 s σ H x y v u Q I rx ry h
 obtain⟨l,b,xs,zs,rfl,rfl,hH,hB,hz,q⟩:=h
 cases rx
 cases ry
 obtain⟨z,ak,n,r,hl,e⟩:=I.lstM hH
 obtain⟨z2,its2,n2,r2,hl2,e2⟩:=I.lstM hB
 refine PySem.P.add_list e e2 ?_ (by rw[ck,ck];omega)
 have ea:ak.toArray++its2.toArray=(ak++its2).toArray:=by simp
 rw[ea]
 exact⟨.ref _,_,I.lnew (t':=s.toks) (r.append r2) (by rw[bF];omega),rfl,q _ I.fresh⟩
end
section
variable{prog:Program}{w:World}{A:Around}{E:Value->Shared->Prop}{s:Shared}
end
section
variable{X:Cx}
end
end L2
namespace Att
open PySem PySem.W PySem.Calls PyProof.Rows
theorem HW{P:Params}{h:Heap}:∀(ns:List Int) (vs:List Value),WellAll P h vs (ns.map WData.int)->IntsAre vs ns:=by
 intro ns
 induction ns with
 |nil=>
  intro vs w
  rw[List.map_nil]at w
  cases w
  exact .nil
 |cons n ns ih=>
  intro vs w
  rw[cG]at w
  cases w with
  |cons a b=>
   cases a
   exact .cons _ _ (ih _ b)
theorem HX{l:OpenLaw}{n:Nat}(hn:l.most=some n){P:Params}{h:Heap}{args:List WData}{vals:List Value}
  (hpre:l.row.toRowW.claim.pre args=true) (hwl:WellAll P h vals args):
  ∃a vs ns,vals=[Value.ref a]/\args=[WData.list (ns.map WData.int)]/\h.get? a=some {cls:=.type "list",data:=.seq vs.toArray}/\IntsAre vs ns/\ns.length<=n:=by
 have hsh:WShape.hasAll [] args [.list .int]=true:=(pre_splitW hpre).1
 have hc:l.pre.holds [] {args:=args}=true:=(pre_splitW hpre).2
 obtain⟨d,r,rfl,h1,h2⟩:=hasAllW_cons hsh
 obtain rfl:=hasAllW_nil h2
 obtain⟨xs,rfl,h3⟩:=hasW_list h1
 obtain⟨ns,rfl⟩:=items_int h3
 have bI:ns.length<=n:=by
  unfold OpenLaw.pre at hc
  have h4:(WTm.not (.lt (.lit (.int (n:Int))) (.len (.arg 0)))).holds [] {args:=[.list (ns.map .int)]}=true:=by
   have h4:=(holds_andW hc).1
   rw[hn]at h4
   exact h4
  have h5:=condW_of h4 (w_not (w_lt w_lit (w_len_list (w_arg rfl))))
  rw[ar]at h5
  refine Nat.le_of_not_lt fun q=>?_
  have q':(n:Int)<((ns.length:Nat):Int):=by omega
  first
   |(rw[bZ q']at h5;exact absurd h5 (by decide))
   |(simp at h5;omega)
 cases hwl with
 |cons w1 w2=>
  cases w2
  cases w1 with
  |list ho hall=>exact⟨_,_,ns,rfl,rfl,ho,HW ns _ hall,bI⟩
theorem HY(l:OpenLaw)(args:List WData):l.row.toRowW.claim.post args (.bool true) args=true:=
 postW_of (r:=l.row.toRowW) (X:=(true==true))
  (show WShape.has [] (.bool true) .bool=true by first|rfl|decide|simp[WShape.has,WShape.arms,WShape.armsAll])
  (show(WTm.eq .res (.lit (.bool true))).value [] {args:=args,res:=some (.bool true),after:=args}=some (.bool (true==true))from w_eq_bool (w_res rfl) w_lit) rfl
theorem attach_call{l:OpenLaw}{n:Nat}{q:Program}{loose:List Str}{XP:(Str->Option Value)->Heap->Prop}{YP:World->Heap->Prop}{d:DefRec}
  (hn:l.most=some n) (hdf:d.params.defaults=[])
  (call:∀(w:World) (s₀ s₁:Shared) (mg mb:Str->Option Value) (fa:Addr) (o:Obj) (pm cd doc:Value) (a:Addr) (vs:List Value) (ns:List Int),
   Ground q loose [] XP w s₀ mg mb s₁.heap->YP w s₁.heap->
   s₁.heap.get? fa=some o->o.data=.func (docDef d.name d.params d.body d.scope pm cd doc)->s₁.heap.CodeRec cd d.name->mg d.name=some (.ref fa)->
   s₁.heap.get? a=some {cls:=.type "list",data:=.seq vs.toArray}->IntsAre vs ns->ns.length<=n->s₁.gens= #[]->
   codeAny (model l.prog w) callerA (.call (.ref fa) ⟨[.ref a],[]⟩) (fun r s'=>r=.ok (.ret (.bool true))/\OldK s₁.heap s'.heap/\s'.os=s₁.os/\AllBare s'.gens) s₁):
  WalkO q loose XP YP l.row.toRowW d [] (fun f vs=>PySem.call f vs):=by
 intro w s₀ s₁ mg mb G Y fa o pm cd doc dV kV ho hd hcd hD hmg hg args vals as hpre hlay hrd hwl hlo
 obtain rfl:dV=.none:=Dflts.none hD hdf
 obtain rfl:kV=.none:=Dflts.noKw hD
 obtain⟨a,vs,ns,rfl,rfl,hobj,hints,bI⟩:=HX hn hpre hwl
 refine enter_call (lW (call w s₀ s₁ mg mb fa o pm cd doc a vs ns G Y ho (fd_plain hd) hcd hmg hobj hints bI hg) fun r s' hq=>?_)
 obtain⟨rfl,h2,h3,h4⟩:=hq
 exact⟨.inl ⟨.bool true,.bool true,[],rfl,fun _=>rfl,.bool true,HY l _,fun _=>⟨List.Pairwise.nil,fun _ hm=>(nomatch hm)⟩⟩,h2,h3,h4⟩
section
variable{prog:Program}{w:World}{A:Around}{E:Value->Shared->Prop}{s:Shared}{K:Frag}
end
end Att
namespace L2
open PySem PySem.Spec PyProof.Rows
theorem C0:∀{vs:List Value} {ns:List Int},IntsAre vs ns->aP (ns.map V.int) vs
 |_,_,.nil=>.nil
 |_,_,.cons n t h=>.cons ⟨t,rfl⟩ (C0 h)
noncomputable def vt(H:Hp):Prop:=∀b,H b=none\/∃o xs,H b=some (.frz o (.lst xs))
theorem HZ{P:Program}{w:World}{K:W.Frag}{mg mb:Str->Option Value}{CX:iE}{k:Nat}{fa a:Addr}{fd:FuncData}{x:Str}{sp:Sp}{s₁:Shared}{vs:List Value}{ns:List Int}
  (KX:K.In s₁.heap) (hns:s₁.heap.Ns mainGlobals mg) (hb:s₁.heap.Ns builtinsNs mb) (hbb:∀x:Str,x≠"__name__"->mb x=bootBuiltins x) (hlim:s₁.heap.NoLimit) (hg:s₁.gens= #[])
  (ha:s₁.heap.get? a=some {cls:=.type "list",data:=.seq vs.toArray}) (hi:IntsAre vs ns) (hl:ns.length<=sizeLine) (hr:cw k callerA)
  (F:∀base:Heap,K.In base->base.Ns mainGlobals mg->aK P w K mg base CX k fa fd [x] sp) (hbind:∀(s:Shared) (u:Value),BindsTo s fd ⟨[u],[]⟩ [(x,u)])
  (hsp:∀H:Hp,vt H->ai K H a (ns.map V.int)->sp [.ref a] H (fun v _=>v=.bl true) fun _ _ _=>False)
  (hCX:∀H e s',CX [] H s₁ (fun _ _ _=>False) e s'->False):
  codeAny (model P w) callerA (.call (.ref fa) ⟨[.ref a],[]⟩) (fun r s'=>r=.ok (.ret (.bool true))/\OldK s₁.heap s'.heap/\s'.os=s₁.os/\AllBare s'.gens) s₁:=by
 have rv:=C0 hi
 have lenV:=hi.length
 have core:∀H:Hp,vt H->ai K H a (ns.map V.int)->cA P w H s₁.heap->(∀b,H b≠none->b=a)->(H a≠none->K.lookup a=none)->
   codeAny (model P w) callerA (.call (.ref fa) ⟨[.ref a],[]⟩) (fun r s'=>r=.ok (.ret (.bool true))/\OldK s₁.heap s'.heap/\s'.os=s₁.os/\AllBare s'.gens) s₁:=by
  intro H hO hS hok hA hK
  have base_of:∀{b:Addr} {o:Obj},s₁.heap.get? b=some o->H b=none->(jI s₁.heap H).get? b=some o:=fun e n=>GD e n
  have noA:∀{b:Addr} {o:Obj} {es:Array DictEntry} {ep:Nat},s₁.heap.get? b=some o->o.data=.dict es ep->H b=none:=fun{b o es ep} e d=>by
   cases q:H b with
   |none=>rfl
   |some u=>
    have e':b=a:=hA b (by rw[q];simp)
    subst e'
    rw[ha]at e;cases e
    have d':Data.seq vs.toArray _=Data.dict es ep:=d
    cases d'
  have nsK:∀{b:Addr} {m:Str->Option Value},s₁.heap.Ns b m->(jI s₁.heap H).Ns b m:=fun{b m} ⟨o,es,ep,e,d,r⟩=>⟨o,es,ep,base_of e (noA e d),d,r⟩
  have hKb:K.In (jI s₁.heap H):=fun b o e=>base_of (KX b o e) (by
   cases q:H b with
   |none=>rfl
   |some u=>
    have e':b=a:=hA b (by rw[q];simp)
    subst e'
    rw[hK (by rw[q];simp)]at e;cases e)
  have hM:Mod K mg (jI s₁.heap H):=⟨hKb,nsK hns,⟨mb,nsK hb,hbb⟩,let⟨mc,h1,h2⟩:=hlim;⟨mc,nsK h1,h2⟩⟩
  have e0:m9 P w K mg (jI s₁.heap H) callerA [] s₁ H:=⟨rfl,hM,fun b o e=>GE e,uP (GC _ _),trivial,fun b hb=>absurd (show b∈([]:List Addr)from hb) (by simp),hok,.of_eq hg⟩
  refine lW ((F _ hKb (nsK hns)).run callerA [] s₁ H ⟨[.ref a],[]⟩ [.ref a] [.ref a] _ _ hr e0 (hbind s₁ (.ref a)) (.cons rfl .nil) (hsp H hO hS)) fun r s' h=>?_
  cases r with
  |error e=>exact(hCX H e s' h).elim
  |ok fl=>
   cases fl with
   |next=>exact False.elim h
   |brk=>exact False.elim h
   |cont=>exact False.elim h
   |ret u=>
    obtain⟨v,H',os,bare,un,hok',r',q⟩:=h
    have q':v=.bl true:=q
    subst q'
    obtain rfl:u=Value.bool true:=r'
    refine⟨rfl,OldK.of_keep fun b o e=>?_,os,bare⟩
    cases q:H b with
    |none=>exact un.keep b o e q (by intro z;exact absurd (show b∈([]:List Addr)from z) (by simp)) (by simp)
    |some u=>
     rcases hO b with z|⟨ob,xs,z⟩
     ·rw[q]at z;cases z
     ·have z2:=un.frzs b ob _ z
      obtain⟨e1,_⟩:=hok b _ z
      obtain⟨e2,_⟩:=hok' b _ z2
      rw[e]at e1;cases e1
      exact e2
 cases hk:K.lookup a with
 |some o=>
  have e:=KX a o hk
  rw[ha]at e
  cases e
  refine core (fun _=>none) (fun _=>.inl rfl) (.inr ⟨_,vs.toArray,_,hk,rfl,rfl,rfl,by rw[ck,lenV];exact hl,by simpa using rv⟩) (fun b u z=>by have z':(none:Option HO)=some u:=z;cases z') (fun b z=>absurd rfl z) fun z=>absurd rfl z
 |none=>
  refine core (fun b=>if b=a then some (.frz {cls:=.type "list",data:=.seq vs.toArray} (.lst (ns.map V.int)))else none) (fun b=>?_) (.inl (.inr ⟨{cls:=.type "list",data:=.seq vs.toArray},aH rfl⟩)) (fun b u z=>?_) (fun b z=>?_) fun _=>hk
  ·by_cases hb:b=a
   ·exact .inr ⟨_,_,aH hb⟩
   ·exact .inl (av hb)
  ·by_cases hb:b=a
   ·have z':=(aH hb).symm.trans z
    cases z'
    subst hb
    exact⟨ha,by rw[ar];exact hl,vs,_,rv,ha⟩
   ·have z':=(av hb).symm.trans z
    cases z'
  ·by_cases hb:b=a
   ·exact hb
   ·exact absurd (av hb) z
theorem walk_of{l:W.OpenLaw}{n k:Nat}{q:Program}{loose:List Str}{XP:(Str->Option Value)->Heap->Prop}{YP:World->Heap->Prop}{d:DefRec}{K:Params->W.Frag}{CX:World->iE}{sp:World->Sp}{x:Str}
  (hn:l.most=some n) (hn2:n<=sizeLine) (hdf:d.params.defaults=[]) (hr:cw k callerA)
  (hY:∀(w:World) (h:Heap),YP w h->(K w.params).In h)
  (F:∀(w:World) (mg:Str->Option Value) (fa:Addr) (h:Heap),(K w.params).In h->h.Ns mainGlobals mg->mg d.name=some (.ref fa)->
   ∃fd:FuncData,(∀(s:Shared) (u:Value),BindsTo s fd ⟨[u],[]⟩ [(x,u)])/\
    ∀base:Heap,(K w.params).In base->base.Ns mainGlobals mg->aK l.prog w (K w.params) mg base (CX w) k fa fd [x] (sp w))
  (hsp:∀(w:World) (H:Hp) (a:Addr) (ns:List Int),ns.length<=n->vt H->ai (K w.params) H a (ns.map V.int)->sp w [.ref a] H (fun v _=>v=.bl true) fun _ _ _=>False)
  (hCX:∀(w:World) (H:Hp) (s:Shared) (e:Value) (s':Shared),CX w [] H s (fun _ _ _=>False) e s'->False):
  W.WalkO q loose XP YP l.row.toRowW d [] (fun f vs=>PySem.call f vs):=by
 refine Att.attach_call hn hdf fun w s₀ s₁ mg mb fa o pm cd doc a vs ns G Y ho hd hcd hmg hobj hints bI hg=>?_
 have KX:=hY w _ Y
 obtain⟨fd,hb,hF⟩:=F w mg fa _ KX G.T.g hmg
 exact HZ KX G.T.g G.T.b G.T.builtins G.T.nolimit hg hobj hints (cN bI hn2) hr hF hb (fun H hO hS=>hsp w H a ns bI hO hS) fun H e s'=>hCX w H s₁ e s'
noncomputable def fH(s:Stmt)(j:Nat):Stmt:=match s with
 |.ClassDef _ _ _ body _ _ _ _ _ _ _=>body.getD j (.Pass ⟨0,0,0,0⟩)
 |_=>.Pass ⟨0,0,0,0⟩
noncomputable def kO(s:Stmt):Arguments:=match s with
 |.FunctionDef _ a _ _ _ _ _ _ _ _=>a
 |_=>{posonlyargs:=[],args:=[],vararg:=none,kwonlyargs:=[],kw_defaults:=[],kwarg:=none,defaults:=[]}
noncomputable def jP(s:Stmt):List Stmt:=match s with
 |.FunctionDef _ _ b _ _ _ _ _ _ _=>b
 |_=>[]
noncomputable def aC(s:Stmt):Scope:=match s with
 |.FunctionDef _ _ _ _ _ _ sc _ _ _=>sc
 |_=>{kind:=.function,names:=[],isGenerator:=false,isCoroutine:=false}
abbrev aV:iE:=fun _ _ _ _ _ _=>False
abbrev E0:XK:=fun _ _ _=>False
theorem nH{X:Cx}:kM aV X E0:=fun _ _ _ _ _ _ _ h=>h.elim
structure aX(K:W.Frag)(x qual:Str)(st:Stmt)(f:Addr)(fd:FuncData):Prop where
 ex:∃(oc:Value) (od:Option Addr) (kV doc pm:Value) (an:Option Addr) (aM ct:Value) (osl:Array (Option Value)),
  fd=W.fnOf x qual (kO st) (jP st) (aC st) .none kV doc pm an aM ct/\K.lookup f=some ⟨oc,od,.func fd,osl⟩/\W.codeIn K aM qual=true
 kp:W.keepIn K (.ref f)=true
section
variable{P:Program}{w:World}{K:W.Frag}{mg:Str->Option Value}{base:Heap}
theorem aX.ok{x qual:Str}{st:Stmt}{f:Addr}{fd:FuncData}{N ps:List Str}{k:Nat}{sp:Sp}(F:aX K x qual st f fd)(S:a_ N ps (aC st))(len:∀vs H Q E,sp vs H Q E->vs.length=ps.length)
  (hbody:∀(aM:Value) (A:Around) (outer:List Env) (s:Shared) (H:Hp) (vs:List V) (Q:VK) (E:XK),cw k (A.deeper (envOfC qual (aC st) s.heap.objs.size f aM))->sp vs H Q E->
   ∃t,gz (nz aV P w K mg base N qual (aC st) f aM A outer s H E).nox (jP st) t/\t {nx:=fun _ H'=>Q .non H',rt:=Q} (df N vs) H):aK P w K mg base aV (k+1) f fd ps sp:=by
 obtain⟨oc,od,kV,doc,pm,an,aM,ct,osl,rfl,lk,hcd⟩:=F.ex
 refine Hu lk hcd S len fun A outer s H vs Q E hr hsp=>?_
 obtain⟨t,h,q⟩:=hbody aM A outer s H vs Q E hr hsp
 exact⟨t,h.nox,q⟩
theorem aX.binds{x qual:Str}{st:Stmt}{f:Addr}{fd:FuncData}{ps:List Str}(F:aX K x qual st f fd)
  (h:∀(kV doc pm:Value) (an:Option Addr) (aM ct:Value) (us:List Value),us.length=ps.length->bindArgs (W.fnOf x qual (kO st) (jP st) (aC st) .none kV doc pm an aM ct) ⟨us,[]⟩=pure (ps.zip us)):fS K fd ps []:=by
 obtain⟨oc,od,kV,doc,pm,an,aM,ct,osl,rfl,lk,hcd⟩:=F.ex
 exact .all (h kV doc pm an aM ct)
theorem rQ{x qual:Str}{st:Stmt}{f:Addr}{oc:Value}{od an:Option Addr}{osl:Array (Option Value)}{kV doc pm aM ct:Value}(l:K.lookup f=some ⟨oc,od,.func (W.fnOf x qual (kO st) (jP st) (aC st) .none kV doc pm an aM ct),osl⟩)
  (c:W.codeIn K aM qual=true) (k:W.keepIn K (.ref f)=true):aX K x qual st f (W.fnOf x qual (kO st) (jP st) (aC st) .none kV doc pm an aM ct):=⟨⟨oc,od,kV,doc,pm,an,aM,ct,osl,rfl,l,c⟩,k⟩
end
theorem C1{n:Nat}(h:n<=1000):n<sizeLine:=eN h (by decide)
section
variable{X:Cx}
theorem pv(i:Nat){x:Str}{pos:Pos}(hN:X.N[i]?=some x:=by rfl)(hv:rk X.env.scope x:=by first|exact Or.inl rfl|exact Or.inr (Or.inl rfl)|exact Or.inr (Or.inr rfl))(hd:(x==("__debug__":Str))=false:=by decide)
  (hcd:(x==("__classdict__":Str))=false:=by decide):PE X (.Name x pos) (dq i):=GG hN hv hd hcd
end
theorem bj{A B:Prop}(h:B):if false=true then A else B:=by
 rw[av cq]
 exact h
theorem ba{A B:Prop}(h:A):if true=true then A else B:=by
 rw[aH rfl]
 exact h
theorem kP{c A B:Prop}[Decidable c](h1:c->A)(h2:¬c->B):if c then A else B:=by
 by_cases h:c
 ·rw[aH h]
  exact h1 h
 ·rw[av h]
  exact h2 h
noncomputable def aw(H H':Hp):Prop:=∀b o,H b=some o->H' b=some o
theorem aw.refl(H:Hp):aw H H:=fun _ _ h=>h
theorem aw.trans{H H1 H2:Hp}(a:aw H H1)(b:aw H1 H2):aw H H2:=fun c o h=>b c o (a c o h)
theorem aw.free{H H':Hp}(e:aw H H'){l:Addr}(h:H' l=Option.none):H l=Option.none:=by
 cases q:H l with
 |none=>rfl
 |some o=>
  rw[e l o q]at h
  cases h
theorem aw.seq{K:W.Frag}{H H':Hp}{a:Addr}{xs:List V}(e:aw H H')(h:ai K H a xs):ai K H' a xs:=by
 rcases h with(h|⟨o,h⟩)|h
 ·exact .inl (.inl (e _ _ h))
 ·exact .inl (.inr ⟨o,e _ _ h⟩)
 ·exact .inr h
end L2
set_option maxHeartbeats 4000000
namespace L2
open PySem PySem.Spec PyProof.Rows
noncomputable def vw(_ j:Int):Prop:=0<j/\j.natAbs.log2<9000
section
variable{X:Cx}
theorem vy:bJ X (binaryOp .FloorDiv) (rI vw fun i j=>.int (i / j)):=pA fun i j _ _ _ _ _ hc q=>by
 have h1:(0:Int)<j:=hc.1
 exact floordiv_int (by omega) (by rw[Int.fdiv_eq_ediv_of_nonneg i (by omega)];exact q) (.inl (PyProof.noPylong_of_log2 hc.2))
end
theorem C2{n k:Nat}(h:n<2 ^ k)(hk:0<k):n.log2<k:=by
 rcases zT n with h0|hp
 ·rw[h0];exact hk
 ·exact(Nat.log2_lt (gv hp)).mpr h
section
variable{X:Cx}{a8:List (Addr×Obj)}{σ:St}{H:Hp}{s:Shared}{h':Heap}{ch:List Addr}{a:Addr}{o:HO}
theorem ah.chg{t':Nat}(I:ah X a8 σ H s)(hch:∀b∈ch,cJ X a8 H b)(k:∀b u,b∉ch->s.heap.get? b=some u->h'.get? b=some u):ah X a8 σ H {s with heap:=h',toks:=t'}:=by
 have nch:∀b u,H b=some u->b∉ch:=fun b u e z=>by rw[(hch b z).1]at e;cases e
 refine I.step (g':=s.gens) (d':=s.drawn) (ch:=ch) (fun b hb=>?_) (fun b u _ _ hc e _=>k b u hc e) (fun b u _ _ hc e _=>⟨u.slots,k b u hc e⟩) (fun _ _ _ _ n=>n)
  (fun b u hc e=>⟨u,k b u hc e⟩) (fun _ _ e=>e) (fun _ _ _ e=>e) (fun b ps e=>⟨#[],by rw[e];simp⟩) (fun m hm=>?_) (fun b u e=>?_) I.bare
 ·obtain⟨_,f1,_,f3,f4,f5⟩:=hch b hb
  exact⟨f3,f1,f4,f5⟩
 ·obtain⟨u,es,ep,ho,r⟩:=hm
  exact⟨u,es,ep,k _ u (fun z=>(hch _ z).2.1 rfl) ho,r⟩
 ·refine(I.hok b u e).stay (fun c v hc q=>k c v ?_ q) (fun _ q=>q) fun _ _ q=>q
  rcases hc with z|z
  ·rw[z];exact nch b u e
  ·exact nch c _ z
theorem ah.chgLaid{t':Nat}(I:ah X a8 σ H s)(hch:∀b∈ch,cJ X a8 H b)(k:∀b u,b∉ch->s.heap.get? b=some u->h'.get? b=some u)(hp:s.heap.objs.size<=a)
  (new:cu X.prog X.w (ab H a o) h' a o):ah X a8 σ (ab H a o) {s with heap:=h',toks:=t'}:=by
 have nch:∀b u,H b=some u->b∉ch:=fun b u e z=>by rw[(hch b z).1]at e;cases e
 have hn:H a=none:=I.hok.fresh hp
 refine I.step (g':=s.gens) (d':=s.drawn) (ch:=ch) (fun b hb=>?_) (fun b u _ _ hc e _=>k b u hc e) (fun b u _ _ hc e _=>⟨u.slots,k b u hc e⟩)
  (fun b u _ e n=>by rw[az (bP (cL (bg e) hp))];exact n)
  (fun b u hc e=>⟨u,k b u hc e⟩) (fun b xs e=>by rw[az (bh e hn)];exact e) (fun b u v e=>by rw[az (bh e hn)];exact e) (fun b ps e=>⟨#[],by rw[az (bh e hn),e];simp⟩) (fun m hm=>?_) (fun b u e=>?_) I.bare
 ·obtain⟨_,f1,_,f3,f4,f5⟩:=hch b hb
  exact⟨f3,f1,f4,f5⟩
 ·obtain⟨u,es,ep,ho,r⟩:=hm
  exact⟨u,es,ep,k _ u (fun z=>(hch _ z).2.1 rfl) ho,r⟩
 ·by_cases hb:b=a
  ·subst hb;rw[aq]at e;cases e;exact new
  ·rw[az hb]at e
   refine(I.hok b u e).stay (fun c v hc q=>k c v ?_ q) (fun c q=>by rw[az (bh q hn)];exact q) fun c xs q=>by rw[az (bh q hn)];exact q
   rcases hc with z|z
   ·rw[z];exact nch b u e
   ·exact nch c _ z
theorem ah.track(I:ah X a8 σ H s)(f:cJ X a8 H a)(new:cu X.prog X.w (ab H a o) s.heap a o):ah X a8 σ (ab H a o) s:=by
 obtain⟨hn,f1,_,f3,f4,f5⟩:=f
 have z:ah X a8 σ (ab H a o) {s with heap:=s.heap,gens:=s.gens,drawn:=s.drawn,toks:=s.toks}:=by
  refine I.step (g':=s.gens) (d':=s.drawn) (ch:=[a]) (fun b hb=>?_) (fun b u _ _ _ e _=>e) (fun b u _ _ _ e _=>⟨u.slots,e⟩)
   (fun b u hc e n=>by rw[az (fun z=>hc (by simp[z]))];exact n)
   (fun b u _ e=>⟨u,e⟩) (fun b xs e=>by rw[az (bh e hn)];exact e) (fun b u v e=>by rw[az (bh e hn)];exact e) (fun b ps e=>⟨#[],by rw[az (bh e hn),e];simp⟩) (fun m hm=>hm) (fun b u e=>?_) I.bare
  ·have e:b=a:=by simpa using hb
   subst e
   exact⟨f3,f1,f4,f5⟩
  ·by_cases hb:b=a
   ·subst hb;rw[aq]at e;cases e;exact new
   ·rw[az hb]at e
    exact(I.hok b u e).stay (fun c v hc q=>q) (fun c q=>by rw[az (bh q hn)];exact q) fun c xs q=>by rw[az (bh q hn)];exact q
 exact z
end
section
variable{prog:Program}{w:World}{A:Around}{E:Value->Shared->Prop}{s:Shared}
theorem H_{it l:Addr}{i:Nat}{items}{x:Value}{Q:Value->Shared->Prop}(hit:s.heap.IsTupleIter it l i)
  (hl:s.heap.IsTuple l items) (hx:items[i]?=some x)
  (hQ:∀h',h'.IsTupleIter it l (i+1)->Heap.SameBut it s.heap h'->Q x {s with heap:=h'}):
  wpAny (model prog w) A (Builtin.SmallTypes.nextOf (.ref it)) Q E s:=by
 obtain⟨o,ho,hc,hd⟩:=id hit
 obtain⟨ol,hol,_,nl,hdl⟩:=hl
 unfold Builtin.SmallTypes.nextOf
 refine aa (oy (name:=Str.ofString "__next__") hit.typeIs zK
  (ix zK hit.typeIs F.entry_tuple_iterator_next ?_ (F.args_tuple_iterator_next_1 _)))
 show wpAny _ _ (field (.ref it) 0 >>=_) _ _ s
 refine aa (i8 ho hd (x:=.ref l) rfl ?_)
 show wpAny _ _ (if(Value.ref l==Value.none)=true then _ else _) _ _ s
 rw[av (show ¬((Value.ref l==Value.none)=true)from cq)]
 show wpAny _ _ (field (.ref it) 1 >>=_) _ _ s
 refine aa (i8 ho hd (x:=.int i 0) rfl ?_)
 show wpAny _ _ (seqItems? (.ref l) >>=_) _ _ s
 refine aa (ku hol hdl ?_)
 simp only[Int.toNat_natCast,hx]
 refine aa (wpAny_setField ho hd (by simp) (ao ⟨x,rfl,ao (hQ _ ?_ (lP ..))⟩))
 exact⟨_,zO _ ho (Obj.isFreed_of_fields (Obj.data_mapFields hd _)),(Obj.cls_mapFields ..).trans hc,by
  rw[Obj.data_mapFields hd];simp[rawInt]⟩
theorem I0{it l:Addr}{i:Nat}{items}{Q:Value->Shared->Prop}(hh:A.handled=none)
  (hit:s.heap.IsTupleIter it l i) (hl:s.heap.IsTuple l items) (hx:items[i]?=none)
  (hE:∀h' e,Heap.ExtBut it s.heap h'->(∃o,h'.get? e=some o/\o.cls=.type "StopIteration")->E (.ref e) {s with heap:=h'}):
  wpAny (model prog w) A (Builtin.SmallTypes.nextOf (.ref it)) Q E s:=by
 obtain⟨o,ho,hc,hd⟩:=id hit
 obtain⟨ol,hol,_,nl,hdl⟩:=hl
 unfold Builtin.SmallTypes.nextOf
 refine aa (oy (name:=Str.ofString "__next__") hit.typeIs zK
  (ix zK hit.typeIs F.entry_tuple_iterator_next ?_ (F.args_tuple_iterator_next_1 _)))
 show wpAny _ _ (field (.ref it) 0 >>=_) _ _ s
 refine aa (i8 ho hd (x:=.ref l) rfl ?_)
 show wpAny _ _ (if(Value.ref l==Value.none)=true then _ else _) _ _ s
 rw[av (show ¬((Value.ref l==Value.none)=true)from cq)]
 show wpAny _ _ (field (.ref it) 1 >>=_) _ _ s
 refine aa (i8 ho hd (x:=.int i 0) rfl ?_)
 show wpAny _ _ (seqItems? (.ref l) >>=_) _ _ s
 refine aa (ku hol hdl ?_)
 simp only[Int.toNat_natCast,hx]
 refine aa (i9 (aa (wpAny_setField ho hd (by simp) ?_)))
 show wpAny _ _ (newExc (.type "StopIteration") [] >>=_) _ _ _
 refine aa ?_
 simp only[newExc,newTuple]
 refine aa (iw ?_ (by size_fits))
 refine aa (m:=firstArgMember _ _) (wpAny_of_eq (a:=Value.none) (by first|rfl|(simp only[firstArgMember];rfl)) ?_)
 refine iw ?_ (by size_fits)
 simp only[raiseNew]
 refine aa (wpAny_handled ?_)
 first|rw[show A.in1.handled=none from hh]|rw[hh]
 refine aa (ao (wpAny_throw ?_))
 exact hE _ _ (((lP ..).extBut.push _).push _) ⟨_,bV _ rfl,rfl⟩
end
structure dB(it l:Addr)(IT:Nat->Heap->Prop)(SL:Array Value->Heap->Prop):Prop where
 obj:∀i h,IT i h->∃o,h.get? it=some o/\∀v,o.data≠ .cell v
 fr:∀i (h h':Heap),IT i h->(∀o,h.get? it=some o->h'.get? it=some o)->IT i h'
 frS:∀xs (h h':Heap),SL xs h->(∀o,h.get? l=some o->h'.get? l=some o)->SL xs h'
 item:∀(prog:Program) (w:World) (A:Around) (i:Nat) (s:Shared) (xs:Array Value) (x:Value) (Q:Value->Shared->Prop) (E:Value->Shared->Prop),IT i s.heap->SL xs s.heap->xs[i]?=some x->
  (∀h',IT (i+1) h'->Heap.SameBut it s.heap h'->Q x {s with heap:=h'})->wpAny (model prog w) A (Builtin.SmallTypes.nextOf (.ref it)) Q E s
 done:∀(prog:Program) (w:World) (A:Around) (i:Nat) (s:Shared) (xs:Array Value) (Q:Value->Shared->Prop) (E:Value->Shared->Prop),A.handled=none->IT i s.heap->SL xs s.heap->xs[i]?=none->
  (∀h' e,Heap.ExtBut it s.heap h'->(∃o,h'.get? e=some o/\o.cls=.type "StopIteration")->E (.ref e) {s with heap:=h'})->wpAny (model prog w) A (Builtin.SmallTypes.nextOf (.ref it)) Q E s
theorem dB.list(it l:Addr):dB it l (fun i h=>h.IsListIter it l i) (fun xs h=>h.IsList l xs) where
 obj:=fun i h st=>by
  obtain⟨o,e,c,d⟩:=st
  exact⟨o,e,fun v z=>by rw[d]at z;cases z⟩
 fr:=fun i h h' st k=>st.at fun o e=>k o e
 frS:=fun xs h h' st k=>st.at fun o e=>k o e
 item:=fun prog w A i s xs x Q E st hl hx hQ=>wpAny_nextOf_list_item st hl hx hQ
 done:=fun prog w A i s xs Q E hh st hl hx hE=>wpAny_nextOf_list_end hh st hl hx hE
theorem dB.tuple(it l:Addr):dB it l (fun i h=>h.IsTupleIter it l i) (fun xs h=>h.IsTuple l xs) where
 obj:=fun i h st=>by
  obtain⟨o,e,c,d⟩:=st
  exact⟨o,e,fun v z=>by rw[d]at z;cases z⟩
 fr:=fun i h h' ⟨o,e,r⟩ k=>⟨o,k o e,r⟩
 frS:=fun xs h h' ⟨o,e,r⟩ k=>⟨o,k o e,r⟩
 item:=fun prog w A i s xs x Q E st hl hx hQ=>H_ st hl hx hQ
 done:=fun prog w A i s xs Q E hh st hl hx hE=>I0 hh st hl hx hE
section
variable{prog:Program}{w:World}{A:Around}{E:Value->Shared->Prop}{s:Shared}{z TI TO i1 i2 l1 l2:Addr}{IT1 IT2:Nat->Heap->Prop}{SL1 SL2:Array Value->Heap->Prop}{k:Nat}{xs ys:Array Value}{x y a b:Value}
theorem dB.bt{it l c:Addr}{IT:Nat->Heap->Prop}{SL:Array Value->Heap->Prop}(S:dB it l IT SL){i:Nat}{h h':Heap}(st:IT i h)(hs:Heap.SameBut c h h')(n:it≠c):IT i h':=S.fr i h h' st fun o e=>hs.extBut _ _ n e
theorem dB.bs{it l c:Addr}{IT:Nat->Heap->Prop}{SL:Array Value->Heap->Prop}(S:dB it l IT SL){xs:Array Value}{h h':Heap}(st:SL xs h)(hs:Heap.SameBut c h h')(n:l≠c):SL xs h':=S.frS xs h h' st fun o e=>hs.extBut _ _ n e
theorem Ia{Q:Value->Shared->Prop}(D:ZipApart z TI TO i1 i2 l1 l2)(S1:dB i1 l1 IT1 SL1)(S2:dB i2 l2 IT2 SL2)
  (hz:IsZip s.heap z TI TO .none) (hTI:IsPair s.heap TI (.ref i1) (.ref i2)) (hTO:IsPair s.heap TO a b)
  (h1:IT1 k s.heap) (h2:IT2 k s.heap) (hl1:SL1 xs s.heap) (hl2:SL2 ys s.heap) (hx:xs[k]?=some x) (hy:ys[k]?=some y)
  (hQ:∀h',IsZip h' z TI TO (rawInt s.heap.objs.size)->IsPair h' TO x y->IT1 (k+1) h'->IT2 (k+1) h'->IsPair h' s.heap.objs.size x y->h'.objs.size=s.heap.objs.size+1->
   (∀c o,c≠z->c≠TO->c≠i1->c≠i2->s.heap.get? c=some o->h'.get? c=some o)->Q (.ref s.heap.objs.size) {s with heap:=h'}):
  wpAny (model prog w) A (Builtin.«zip.__next__» ⟨[.ref z],[]⟩) (fun fin s'=>∃v,fin=.done (.ret v)/\Q v s') E s:=by
 show wpAny _ _ (field (.ref z) 2 >>=_) _ _ _
 refine aa (i8 hz rfl (x:=.bool false) rfl ?_)
 show wpAny _ _ (field (.ref z) 3 >>=_) _ _ _
 refine aa (i8 hz rfl (x:=.ref TI) rfl ?_)
 refine aa (ku hTI rfl ?_)
 show wpAny _ _ (Builtin.SmallTypes.ownedTupleIsFree (.ref z) >>=_) _ _ _
 refine aa ?_
 unfold Builtin.SmallTypes.ownedTupleIsFree
 refine aa (i8 hz rfl (x:=.none) rfl (ao ?_))
 simp only[jC]
 refine aa (i9 ?_)
 refine aa (i8 hz rfl (x:=.ref TO) rfl ?_)
 refine aa (j7 hz (by simp) fun h₁ hz₁ hs₁=>?_)
 replace hz₁:IsZip h₁ z TI TO .ellipsis:=hz₁
 refine aa ?_
 simp only[List.zipIdx_cons,List.zipIdx_nil,uJ,A9]
 refine aa (aa (Ac ?_))
 show wpAny _ _ (Builtin.SmallTypes.nextOf (.ref i1) >>=_) _ _ _
 refine aa (S1.item _ _ _ k _ xs x _ _ (S1.bt h1 hs₁ D.i1z) (S1.bs hl1 hs₁ D.l1z) hx fun h₂ h1₂ hs₂=>ao ?_)
 have hTO₂:IsPair h₂ TO a b:=hs₂.extBut _ _ D.TOi1 (hs₁.extBut _ _ D.TOz hTO)
 refine aa (ku hTO₂ rfl ?_)
 refine aa (Ge hTO₂ fun h₃ hTO₃ hs₃=>?_)
 replace hTO₃:IsPair h₃ TO x b:=hTO₃
 refine aa (wpAny_letGo (ao ?_))
 refine aa (aa (Ac ?_))
 show wpAny _ _ (Builtin.SmallTypes.nextOf (.ref i2) >>=_) _ _ _
 refine aa (S2.item _ _ _ k _ ys y _ _ (S2.bt (S2.bt (S2.bt h2 hs₁ D.i2z) hs₂ D.i12.symm) hs₃ D.TOi2.symm)
  (S2.bs (S2.bs (S2.bs hl2 hs₁ D.l2z) hs₂ D.l2i1) hs₃ D.l2TO) hy fun h₄ h2₄ hs₄=>ao ?_)
 have hTO₄:IsPair h₄ TO x b:=hs₄.extBut _ _ D.TOi2 hTO₃
 refine aa (ku hTO₄ rfl ?_)
 refine aa (Ge hTO₄ fun h₅ hTO₅ hs₅=>?_)
 replace hTO₅:IsPair h₅ TO x y:=hTO₅
 refine aa (wpAny_letGo (ao (ao ?_)))
 refine aa (ku hTO₅ rfl ?_)
 refine aa (wpAny_newTuple ?_)
 have hsz:h₅.objs.size=s.heap.objs.size:=by rw[hs₅.1,hs₄.1,hs₃.1,hs₂.1,hs₁.1]
 have hz₅:IsZip h₅ z TI TO .ellipsis:=hs₅.extBut _ _ D.TOz.symm (hs₄.extBut _ _ D.i2z.symm (hs₃.extBut _ _ D.TOz.symm (hs₂.extBut _ _ D.i1z.symm hz₁)))
 have hk₅:∀c o,c≠z->c≠TO->c≠i1->c≠i2->s.heap.get? c=some o->h₅.get? c=some o:=fun c o c1 c2 c3 c4 e=>
  hs₅.extBut _ _ c2 (hs₄.extBut _ _ c4 (hs₃.extBut _ _ c2 (hs₂.extBut _ _ c3 (hs₁.extBut _ _ c1 e))))
 have h1₅:IT1 (k+1) h₅:=S1.bt (S1.bt (S1.bt h1₂ hs₃ D.TOi1.symm) hs₄ D.i12) hs₅ D.TOi1.symm
 have h2₅:IT2 (k+1) h₅:=S2.bt h2₄ hs₅ D.TOi2.symm
 have hzlt:z<h₅.objs.size:=bg hz₅
 have hTOlt:TO<h₅.objs.size:=bg hTO₅
 show wpAny _ _ (Builtin.SmallTypes.ownedTupleHandOut (.ref z) (.ref h₅.objs.size) >>=_) _ _ _
 refine aa ?_
 unfold Builtin.SmallTypes.ownedTupleHandOut
 have hz₆:IsZip (h₅.push {cls:=.type "tuple",data:=.seq #[x,y]}) z TI TO .ellipsis:=aW _ hz₅
 refine aa (j7 hz₆ (by simp) fun h₇ hz₇ hs₇=>?_)
 replace hz₇:IsZip h₇ z TI TO (rawInt h₅.objs.size):=hz₇
 refine j7 hz₇ (by simp) fun h₈ hz₈ hs₈=>?_
 replace hz₈:IsZip h₈ z TI TO (rawInt h₅.objs.size):=hz₈
 have up:∀c o,c≠z->h₅.get? c=some o->h₈.get? c=some o:=fun c o c1 e=>hs₈.extBut _ _ c1 (hs₇.extBut _ _ c1 (aW _ e))
 have hT₈:IsPair h₈ h₅.objs.size x y:=hs₈.extBut _ _ (gv hzlt) (hs₇.extBut _ _ (gv hzlt) (bV _ rfl))
 have hz8:h₈.objs.size=h₅.objs.size+1:=by rw[hs₈.1,hs₇.1,eB]
 rw[hsz]at hz₈ hT₈ hz8
 refine ao ⟨_,rfl,?_⟩
 show Q (.ref h₅.objs.size) _
 rw[hsz]
 exact hQ h₈ hz₈ (up _ _ D.TOz hTO₅) (S1.fr _ _ _ h1₅ fun o e=>up _ o D.i1z e) (S2.fr _ _ _ h2₅ fun o e=>up _ o D.i2z e) hT₈ hz8 fun c o c1 c2 c3 c4 e=>up c o c1 (hk₅ c o c1 c2 c3 c4 e)
theorem Ib{Q:Fin->Shared->Prop}(hh:A.handled=none)(D:ZipApart z TI TO i1 i2 l1 l2)(S1:dB i1 l1 IT1 SL1)(S2:dB i2 l2 IT2 SL2)
  (hz:IsZip s.heap z TI TO .none) (hTI:IsPair s.heap TI (.ref i1) (.ref i2)) (hTO:IsPair s.heap TO a b)
  (h1:IT1 k s.heap) (h2:IT2 k s.heap) (hl1:SL1 xs s.heap) (hl2:SL2 ys s.heap) (hend:xs[k]?=none\/ys[k]?=none)
  (hE:∀h' e,(∀c o,c≠z->c≠TO->c≠i1->c≠i2->s.heap.get? c=some o->h'.get? c=some o)->(∃o,h'.get? e=some o/\o.cls=.type "StopIteration")->E (.ref e) {s with heap:=h'}):
  wpAny (model prog w) A (Builtin.«zip.__next__» ⟨[.ref z],[]⟩) Q E s:=by
 show wpAny _ _ (field (.ref z) 2 >>=_) _ _ _
 refine aa (i8 hz rfl (x:=.bool false) rfl ?_)
 show wpAny _ _ (field (.ref z) 3 >>=_) _ _ _
 refine aa (i8 hz rfl (x:=.ref TI) rfl ?_)
 refine aa (ku hTI rfl ?_)
 show wpAny _ _ (Builtin.SmallTypes.ownedTupleIsFree (.ref z) >>=_) _ _ _
 refine aa ?_
 unfold Builtin.SmallTypes.ownedTupleIsFree
 refine aa (i8 hz rfl (x:=.none) rfl (ao ?_))
 simp only[jC]
 refine aa (i9 ?_)
 refine aa (i8 hz rfl (x:=.ref TO) rfl ?_)
 refine aa (j7 hz (by simp) fun h₁ hz₁ hs₁=>?_)
 replace hz₁:IsZip h₁ z TI TO .ellipsis:=hz₁
 refine aa ?_
 simp only[List.zipIdx_cons,List.zipIdx_nil,uJ,A9]
 refine aa (aa (Ac ?_))
 show wpAny _ _ (Builtin.SmallTypes.nextOf (.ref i1) >>=_) _ _ _
 cases hx:xs[k]? with
 |none=>
  refine aa (S1.done _ _ _ k _ xs _ _ hh (S1.bt h1 hs₁ D.i1z) (S1.bs hl1 hs₁ D.l1z) hx fun h₂ e hs₂ he=>?_)
  obtain⟨oe,hoe,hce⟩:=he
  have hz₂:IsZip h₂ z TI TO .ellipsis:=hs₂ _ _ D.i1z.symm hz₁
  have hez:e≠z:=fun x=>by subst x;rw[hz₂]at hoe;cases hoe;simp at hce
  refine j7 hz₂ (by simp) fun h₃ _ hs₃=>hE h₃ e (fun c o c1 _ c3 _ x=>hs₃.extBut _ _ c1 (hs₂ _ _ c3 (hs₁.extBut _ _ c1 x))) ⟨oe,hs₃.extBut _ _ hez hoe,hce⟩
 |some x=>
  have hy:ys[k]?=none:=by rcases hend with h|h;rw[hx]at h;cases h;exact h
  refine aa (S1.item _ _ _ k _ xs x _ _ (S1.bt h1 hs₁ D.i1z) (S1.bs hl1 hs₁ D.l1z) hx fun h₂ h1₂ hs₂=>ao ?_)
  have hTO₂:IsPair h₂ TO a b:=hs₂.extBut _ _ D.TOi1 (hs₁.extBut _ _ D.TOz hTO)
  refine aa (ku hTO₂ rfl ?_)
  refine aa (Ge hTO₂ fun h₃ hTO₃ hs₃=>?_)
  refine aa (wpAny_letGo (ao ?_))
  refine aa (aa (Ac ?_))
  show wpAny _ _ (Builtin.SmallTypes.nextOf (.ref i2) >>=_) _ _ _
  refine aa (S2.done _ _ _ k _ ys _ _ hh (S2.bt (S2.bt (S2.bt h2 hs₁ D.i2z) hs₂ D.i12.symm) hs₃ D.TOi2.symm)
   (S2.bs (S2.bs (S2.bs hl2 hs₁ D.l2z) hs₂ D.l2i1) hs₃ D.l2TO) hy fun h₄ e hs₄ he=>?_)
  obtain⟨oe,hoe,hce⟩:=he
  have hz₄:IsZip h₄ z TI TO .ellipsis:=hs₄ _ _ D.i2z.symm (hs₃.extBut _ _ D.TOz.symm (hs₂.extBut _ _ D.i1z.symm hz₁))
  have hez:e≠z:=fun x=>by subst x;rw[hz₄]at hoe;cases hoe;simp at hce
  refine j7 hz₄ (by simp) fun h₅ _ hs₅=>hE h₅ e (fun c o c1 c2 c3 c4 x=>hs₅.extBut _ _ c1 (hs₄ _ _ c4 (hs₃.extBut _ _ c2 (hs₂.extBut _ _ c3 (hs₁.extBut _ _ c1 x))))) ⟨oe,hs₅.extBut _ _ hez hoe,hce⟩
theorem Ic{Q:Option Value->Shared->Prop}(D:ZipApart z TI TO i1 i2 l1 l2)(S1:dB i1 l1 IT1 SL1)(S2:dB i2 l2 IT2 SL2)
  (hz:IsZip s.heap z TI TO .none) (hTI:IsPair s.heap TI (.ref i1) (.ref i2)) (hTO:IsPair s.heap TO a b)
  (h1:IT1 k s.heap) (h2:IT2 k s.heap) (hl1:SL1 xs s.heap) (hl2:SL2 ys s.heap) (hx:xs[k]?=some x) (hy:ys[k]?=some y)
  (hQ:∀h',IsZip h' z TI TO (rawInt s.heap.objs.size)->IsPair h' TO x y->IT1 (k+1) h'->IT2 (k+1) h'->IsPair h' s.heap.objs.size x y->h'.objs.size=s.heap.objs.size+1->
   (∀c o,c≠z->c≠TO->c≠i1->c≠i2->s.heap.get? c=some o->h'.get? c=some o)->Q (some (.ref s.heap.objs.size)) {s with heap:=h'}):
  wpAny (model prog w) A (pyNext (.ref z)) Q E s:=by
 have hT:s.TypeIs (.ref z) "zip":=⟨_,hz,rfl⟩
 unfold pyNext
 exact aa (wpAny_attempt (oy (name:=Str.ofString "__next__") hT A6
  (ix A6 hT F.entry_zip_next
   (Ia D S1 S2 hz hTI hTO h1 h2 hl1 hl2 hx hy fun h' a1 a2 a3 a4 a5 a6 a7=>ao (hQ h' a1 a2 a3 a4 a5 a6 a7)) (F.args_zip_next_1 _))))
theorem Ie{Q:Option Value->Shared->Prop}(hh:A.handled=none)(D:ZipApart z TI TO i1 i2 l1 l2)(S1:dB i1 l1 IT1 SL1)(S2:dB i2 l2 IT2 SL2)
  (hz:IsZip s.heap z TI TO .none) (hTI:IsPair s.heap TI (.ref i1) (.ref i2)) (hTO:IsPair s.heap TO a b)
  (h1:IT1 k s.heap) (h2:IT2 k s.heap) (hl1:SL1 xs s.heap) (hl2:SL2 ys s.heap) (hend:xs[k]?=none\/ys[k]?=none)
  (hQ:∀h',(∀c o,c≠z->c≠TO->c≠i1->c≠i2->s.heap.get? c=some o->h'.get? c=some o)->Q none {s with heap:=h'}):wpAny (model prog w) A (pyNext (.ref z)) Q E s:=by
 have hT:s.TypeIs (.ref z) "zip":=⟨_,hz,rfl⟩
 unfold pyNext
 refine aa (wpAny_attempt (oy (name:=Str.ofString "__next__") hT A6
  (ix A6 hT F.entry_zip_next (Ib hh D S1 S2 hz hTI hTO h1 h2 hl1 hl2 hend fun h' e hk he=>?_) (F.args_zip_next_1 _))))
 obtain⟨o,ho,hc⟩:=he
 refine aa (uI (T:="StopIteration") (b:=true) ⟨o,ho,hc⟩ isSubtype_stop ?_)
 exact ao (hQ _ hk)
end
noncomputable def kQ(S1 S2:Hp->List V->Prop):It:=
 ⟨fun i H=>∃xs ys u v,S1 H xs/\S2 H ys/\xs[i]?=some u/\ys[i]?=some v,
  fun i H x H'=>∃T u v,x=.ref T/\H T=none/\H'=ab H T (.tup [u,v])/\∀xs ys,S1 H xs->S2 H ys->xs[i]?=some u/\ys[i]?=some v,
  fun i H=>∃xs ys,S1 H xs/\S2 H ys/\(xs.length<=i\/ys.length<=i)⟩
structure iG(K:W.Frag)(SL:Array Value->Heap->Prop)(SV:Hp->List V->Prop):Prop where
 val:∀(X:Cx),X.K=K->∀(a8:List (Addr×Obj)) (σ:St) (H:Hp) (s:Shared) (xs:List V),ah X a8 σ H s->SV H xs->∃ak:List Value,aP xs ak/\SL ak.toArray s.heap
 inj:∀(X:Cx),X.K=K->∀(a8:List (Addr×Obj)) (σ:St) (H:Hp) (s:Shared) (xs ys:List V),ah X a8 σ H s->SV H xs->SV H ys->xs=ys
theorem iG.list(K:W.Frag)(l:Addr):iG K (fun xs h=>h.IsList l xs) (fun H xs=>ai K H l xs) where
 val:=fun X hK a8 σ H s xs I h=>by
  subst hK
  obtain⟨ak,rv,p,_⟩:=I.list h
  exact⟨ak,rv,p.isList⟩
 inj:=fun X hK a8 σ H s xs ys I h h'=>by
  subst hK
  exact I.list_inj h h'
theorem iG.tuple(K:W.Frag)(l:Addr):iG K (fun xs h=>h.IsTuple l xs) (fun H xs=>ax K H l xs) where
 val:=fun X hK a8 σ H s xs I h=>by
  subst hK
  obtain⟨ak,rv,p,_⟩:=I.tuple h
  exact⟨ak,rv,p⟩
 inj:=fun X hK a8 σ H s xs ys I h h'=>by
  subst hK
  exact I.tuple_inj h h'
theorem vz{P:Program}{w:World}{K:W.Frag}{es:List Expr}{kk:Nat}{pos:Pos}{z TI TO i1 i2 l1 l2:Addr}{IT1 IT2:Nat->Heap->Prop}{SL1 SL2:Array Value->Heap->Prop}{SV1 SV2:Hp->List V->Prop}
  (D:ZipApart z TI TO i1 i2 l1 l2) (S1:dB i1 l1 IT1 SL1) (S2:dB i2 l2 IT2 SL2) (V1:iG K SL1 SV1) (V2:iG K SL2 SV2):
  iC P w K (.Tuple es kk pos) (kQ SV1 SV2) [z,TI,TO,i1,i2] z (fun i h=>IsZip h z TI TO .none/\IsPair h TI (.ref i1) (.ref i2)/\(∃a b,IsPair h TO a b)/\IT1 i h/\IT2 i h) where
 mem:=by simp
 obj:=fun i h st b hb=>by
  obtain⟨hz,hTI,⟨a,c,hTO⟩,h1,h2⟩:=st
  simp only[cE,dk,eO]at hb
  rcases hb with rfl|rfl|rfl|rfl|rfl
  ·exact⟨_,hz,fun v e=>by cases e⟩
  ·exact⟨_,hTI,fun v e=>by cases e⟩
  ·exact⟨_,hTO,fun v e=>by cases e⟩
  ·exact S1.obj _ _ h1
  ·exact S2.obj _ _ h2
 keep:=fun i h h' st k=>by
  obtain⟨hz,hTI,⟨a,c,hTO⟩,h1,h2⟩:=st
  exact⟨k z (by simp) _ hz,k TI (by simp) _ hTI,⟨a,c,k TO (by simp) _ hTO⟩,S1.fr _ _ _ h1 fun o e=>k i1 (by simp) o e,S2.fr _ _ _ h2 fun o e=>k i2 (by simp) o e⟩
 item:=by
  intro X hP hw hK hc i a8 s σ H E I hf st hg
  obtain⟨xs,ys,u,v,q1,q2,e1,e2⟩:=hg
  obtain⟨ak,rv,p1⟩:=V1.val X hK a8 σ H s xs I q1
  obtain⟨jts,rw',p2⟩:=V2.val X hK a8 σ H s ys I q2
  obtain⟨a1,b1,r1⟩:=rv.get e1
  obtain⟨a2,b2,r2⟩:=rw'.get e2
  obtain⟨hz,hTI,⟨a,c,hTO⟩,h1,h2⟩:=id st
  subst hP hw
  refine Ic D S1 S2 hz hTI hTO h1 h2 p1 p2 (x:=a1) (y:=a2) (by simpa using b1) (by simpa using b2) fun h' g1 g2 g3 g4 g5 g6 g7=>?_
  refine⟨_,rfl,wpAny_letOwnedTupleGo_zip g1 fun h'' g1' hs'=>?_⟩
  have ne:∀{b:Addr} {o:Obj},s.heap.get? b=some o->s.heap.objs.size≠b:=fun e=>gv (bg e)
  have kk:∀b o,b∉ [z,TO,i1,i2]->s.heap.get? b=some o->h''.get? b=some o:=fun b o hb e=>by
   simp only[cE,dk,eO,jD]at hb
   exact hs'.extBut _ _ hb.1 (g7 b o hb.1 hb.2.1 hb.2.2.1 hb.2.2.2 e)
  have hT:h''.get? s.heap.objs.size=some {cls:=.type "tuple",data:=.seq #[a1,a2]}:=hs'.extBut _ _ (ne hz) g5
  have hch:∀b∈[z,TO,i1,i2],cJ X a8 H b:=fun b hb=>hf b (by
   simp only[cE,dk,eO]at hb⊢
   rcases hb with rfl|rfl|rfl|rfl<;>simp)
  have new:cu X.prog X.w (ab H s.heap.objs.size (.tup [u,v])) h'' s.heap.objs.size (.tup [u,v]):=
   ⟨by show 2<=sizeLine;decide,[a1,a2],.cons r1 (.cons r2 .nil),_,hT,rfl,_,rfl⟩
  have I1:ah X a8 σ (ab H s.heap.objs.size (.tup [u,v])) {s with heap:=h'',toks:=s.toks}:=I.chgLaid hch kk (aG _) new
  have hn:H s.heap.objs.size=none:=I.hok.fresh (aG _)
  refine⟨.ref s.heap.objs.size,_,I1,rfl,⟨_,u,v,rfl,hn,rfl,fun xs' ys' w1 w2=>?_⟩,⟨g1',?_,⟨a1,a2,hs'.extBut _ _ D.TOz g2⟩,S1.bt g3 hs' D.i1z,S2.bt g4 hs' D.i2z⟩,fun b hb=>?_⟩
  ·rw[V1.inj X hK a8 σ H s xs' xs I w1 q1,V2.inj X hK a8 σ H s ys' ys I w2 q2]
   exact⟨e1,e2⟩
  ·exact kk TI _ (by simp only[cE,dk,eO,jD];exact⟨D.TIz,D.TITO,D.TIi1,D.TIi2⟩) hTI
  ·obtain⟨o,ho,_⟩:=(show ∃o,s.heap.get? b=some o/\∀v,o.data≠ .cell v from by
    simp only[cE,dk,eO]at hb
    rcases hb with rfl|rfl|rfl|rfl|rfl
    ·exact⟨_,hz,fun v e=>by cases e⟩
    ·exact⟨_,hTI,fun v e=>by cases e⟩
    ·exact⟨_,hTO,fun v e=>by cases e⟩
    ·exact S1.obj _ _ h1
    ·exact S2.obj _ _ h2)
   rw[az (Ne.symm (ne ho))]
   exact(hf b hb).1
 done:=by
  intro X hP hw hK hc i a8 s σ H E I hf st hg
  obtain⟨xs,ys,q1,q2,e⟩:=hg
  obtain⟨ak,rv,p1⟩:=V1.val X hK a8 σ H s xs I q1
  obtain⟨jts,rw',p2⟩:=V2.val X hK a8 σ H s ys I q2
  have l1:=rv.length
  have l2:=rw'.length
  obtain⟨hz,hTI,⟨a,c,hTO⟩,h1,h2⟩:=id st
  subst hP hw
  refine Ie (I.ok.hd hc) D S1 S2 hz hTI hTO h1 h2 p1 p2 (by simp;omega) fun h' g7=>⟨rfl,?_⟩
  have hch:∀b∈[z,TO,i1,i2],cJ X a8 H b:=fun b hb=>hf b (by
   simp only[cE,dk,eO]at hb⊢
   rcases hb with rfl|rfl|rfl|rfl<;>simp)
  exact I.chg (t':=s.toks) hch fun b o hb e=>by
   simp only[cE,dk,eO,jD]at hb
   exact g7 b o hb.1 hb.2.1 hb.2.2.1 hb.2.2.2 e
 self:=fun _ _ _ _ _ st h=>zY st.1 h
abbrev rR(h:Heap)(l1:Addr):Heap:=h.push {cls:=.type "tuple_iterator",data:=.fields #[.ref l1,.int 0 0]}
abbrev rS(h:Heap)(l1 l2:Addr):Heap:=(rR h l1).push {cls:=.type "tuple_iterator",data:=.fields #[.ref l2,.int 0 0]}
abbrev rT(h:Heap)(l1 l2:Addr):Heap:=(rS h l1 l2).push {cls:=.type "tuple",data:=.seq #[.ref h.objs.size,.ref (rR h l1).objs.size]}
abbrev rV(h:Heap)(l1 l2:Addr):Heap:=(rT h l1 l2).push {cls:=.type "tuple",data:=.seq #[.none,.none]}
abbrev md(h:Heap)(l1 l2:Addr):Heap:=(rV h l1 l2).push {cls:=.type "zip",data:=.fields #[.none,.bool false,.bool false,.ref (rS h l1 l2).objs.size,.ref (rT h l1 l2).objs.size]}
theorem Ig(l1 l2:Addr)(xs ys:Array Value):
  Meets (Builtin.«zip.__new__» ⟨[.type "zip",.ref l1,.ref l2],[]⟩) (fun _ R s=>s.heap.IsTuple l1 xs/\s.heap.IsTuple l2 ys/\
   R (.ok (.ret (.ref (rV s.heap l1 l2).objs.size))) {s with heap:=md s.heap l1 l2}):=
 .of_wp fun prog w A R s h=>by
  obtain⟨hp,g,d,tk,os⟩:=s;obtain⟨hl1,hl2,h⟩:=h
  have uR:=sub_zip
  have hL1:Heap.IsTuple (Shared.heap ⟨hp,g,d,tk,os⟩) l1 xs:=hl1
  have hL2:Heap.IsTuple (Shared.heap ⟨hp.push {cls:=.type "tuple_iterator",data:=.fields #[.ref l1,.int 0 0]},g,d,tk,os⟩) l2 ys:=Heap.IsTuple.push hl2 _
  wp_walk using uD hL1,uD hL2
  exact⟨_,rfl,h⟩
theorem Ih{prog:Program}{w:World}{A:Around}{E:Value->Shared->Prop}{s:Shared}{l1 l2:Addr}{xs ys:Array Value}{Q:Value->Shared->Prop}(hl1:s.heap.IsTuple l1 xs)(hl2:s.heap.IsTuple l2 ys)
  (h:∀h',IsZip h' (s.heap.objs.size+4) (s.heap.objs.size+2) (s.heap.objs.size+3) .none->IsPair h' (s.heap.objs.size+2) (.ref s.heap.objs.size) (.ref (s.heap.objs.size+1))->
   IsPair h' (s.heap.objs.size+3) .none .none->h'.IsTupleIter s.heap.objs.size l1 0->h'.IsTupleIter (s.heap.objs.size+1) l2 0->h'.objs.size=s.heap.objs.size+5->
   (∀c o,s.heap.get? c=some o->h'.get? c=some o)->Q (.ref (s.heap.objs.size+4)) {s with heap:=h'}):
  wpAny (model prog w) A (call (.type "zip") [.ref l1,.ref l2]) Q E s:=by
 refine callType_new F.called_zip (by decide) (F.typeCall_zip_2 _ _) (F.newCall_zip_2 _ _) (fun obj=>F.args_object_init_3 obj _ _) F.entry_zip_new
  (Ig l1 l2 xs ys) ⟨hl1,hl2,?_⟩
 have z1:(rR s.heap l1).objs.size=s.heap.objs.size+1:=eB ..
 have z2:(rS s.heap l1 l2).objs.size=s.heap.objs.size+2:=by rw[eB,z1]
 have z3:(rT s.heap l1 l2).objs.size=s.heap.objs.size+3:=by rw[eB,z2]
 have z4:(rV s.heap l1 l2).objs.size=s.heap.objs.size+4:=by rw[eB,z3]
 have z5:(md s.heap l1 l2).objs.size=s.heap.objs.size+5:=by rw[eB,z4]
 have g5:(md s.heap l1 l2).get? (rV s.heap l1 l2).objs.size=some _:=bV _ rfl
 have g4:(md s.heap l1 l2).get? (rT s.heap l1 l2).objs.size=some _:=aW _ (bV _ rfl)
 have g3:(md s.heap l1 l2).get? (rS s.heap l1 l2).objs.size=some _:=aW _ (aW _ (bV _ rfl))
 have g2:(md s.heap l1 l2).get? (rR s.heap l1).objs.size=some _:=aW _ (aW _ (aW _ (bV _ rfl)))
 have g1:(md s.heap l1 l2).get? s.heap.objs.size=some _:=aW _ (aW _ (aW _ (aW _ (bV _ rfl))))
 show _/\_
 rw[z2,z3,z4]at g5
 rw[z1,z2]at g3
 rw[z3]at g4
 rw[z1]at g2
 rw[z4]
 exact⟨⟨_,g5,rfl⟩,h _ g5 g3 g4 ⟨_,g1,rfl,rfl⟩ ⟨_,g2,rfl,rfl⟩ z5 fun c o x=>
  aW _ (aW _ (aW _ (aW _ (aW _ x))))⟩
section
variable{X:Cx}{es:List Expr}{kk:Nat}{tpos:Pos}
theorem vA{n l1 l2:Nat}(h1:l1<n)(h2:l2<n):ZipApart (n+4) (n+2) (n+3) n (n+1) l1 l2:=by
 refine⟨?_,?_,?_,?_,?_,?_,?_,?_,?_,?_,?_,?_,?_,?_,?_,?_,?_,?_⟩
 all_goals intro e
 ·have e':(n+2:Nat)=n+4:=e;omega
 ·have e':(n+3:Nat)=n+4:=e;omega
 ·have e':(n:Nat)=n+4:=e;omega
 ·have e':(n+1:Nat)=n+4:=e;omega
 ·have e':(n+2:Nat)=n+3:=e;omega
 ·have e':(n+2:Nat)=n:=e;omega
 ·have e':(n+2:Nat)=n+1:=e;omega
 ·have e':(n+3:Nat)=n:=e;omega
 ·have e':(n+3:Nat)=n+1:=e;omega
 ·have e':(n:Nat)=n+1:=e;omega
 ·have e':(l1:Nat)=n+4:=e;omega
 ·have e':(l1:Nat)=n+3:=e;omega
 ·have e':(l1:Nat)=n:=e;omega
 ·have e':(l1:Nat)=n+1:=e;omega
 ·have e':(l2:Nat)=n+4:=e;omega
 ·have e':(l2:Nat)=n+3:=e;omega
 ·have e':(l2:Nat)=n:=e;omega
 ·have e':(l2:Nat)=n+1:=e;omega
noncomputable def vB(K:W.Frag)(ta:TA):TI:=fun σ H R=>ta σ H fun vs H1=>∃a b,vs=[.ref a,.ref b]/\
 ((∃xs ys,ai K H1 a xs/\ai K H1 b ys/\R (kQ (fun H xs=>ai K H a xs) (fun H ys=>ai K H b ys)) H1)\/
  (∃xs ys,ax K H1 a xs/\ax K H1 b ys/\R (kQ (fun H xs=>ax K H a xs) (fun H ys=>ax K H b ys)) H1))
theorem Ii{a b:Expr}{ta:TA}{p pos:Pos}(hg:Gl X "zip")(hm:X.mg "zip"=none)(ha:PA X [a,b] ta)(hs:starEach [a,b] X.env=[(false,eval a X.env),(false,eval b X.env)]:=by rfl)(hs2:starEach [b] X.env=[(false,eval b X.env)]:=by rfl)
  (hv:bootBuiltins "zip"=some (.type "zip"):=by first|rfl|decide+kernel):
  PI X (.Tuple es kk tpos) (.Call (.Name "zip" p) [a,b] [] pos) (vB X.K ta):=by
 intro a8 s σ H R I h
 refine Call_ (jJ I hg hm hv (ou (aD (ha pos a8 s σ H _ I h) fun us s1 ⟨vs,H1,I1,r1,q1⟩=>?_) (by rw[hs,hs2]) (by rw[hs2];rfl)))
 obtain⟨l1,l2,e,q⟩:=q1
 subst e
 obtain⟨u1,u2,rfl,e1,e2⟩:=pD r1
 cases e1
 cases e2
 have fp:∀(h':Heap) (H':Hp),(∀b,s1.heap.objs.size<=b->H' b=none)->∀b∈[s1.heap.objs.size+4,s1.heap.objs.size+2,s1.heap.objs.size+3,s1.heap.objs.size,s1.heap.objs.size+1],cJ X a8 H' b:=fun h' H' hn b hb=>by
  simp only[cE,dk,eO]at hb
  have hle:s1.heap.objs.size<=b:=by omega
  exact I1.fpOk hle (hn b hle)
 rcases q with⟨xs,ys,q1,q2,q⟩|⟨xs,ys,q1,q2,q⟩
 ·obtain⟨ak,rv,p1,_⟩:=I1.list q1
  obtain⟨jts,rw',p2,_⟩:=I1.list q2
  have lt1:l1<s1.heap.objs.size:=by obtain⟨_,e,_⟩:=p1.isList;exact bg e
  have lt2:l2<s1.heap.objs.size:=by obtain⟨_,e,_⟩:=p2.isList;exact bg e
  refine call_zip_2 p1.isList p2.isList fun h' g1 g2 g3 g4 g5 g6 g7=>?_
  refine zY g1 ?_
  exact⟨_,_,_,_,H1,rfl,I1.kept (t':=s1.toks) g7,vz (vA lt1 lt2) (dB.list _ l1) (dB.list _ l2) (iG.list X.K l1) (iG.list X.K l2),⟨g1,g2,⟨_,_,g3⟩,g4,g5⟩,fp h' H1 fun b hb=>I1.hok.fresh hb,q⟩
 ·obtain⟨ak,rv,p1,_⟩:=I1.tuple q1
  obtain⟨jts,rw',p2,_⟩:=I1.tuple q2
  have lt1:l1<s1.heap.objs.size:=by obtain⟨_,e,_⟩:=p1;exact bg e
  have lt2:l2<s1.heap.objs.size:=by obtain⟨_,e,_⟩:=p2;exact bg e
  refine Ih (show s1.heap.IsTuple l1 ak.toArray from p1) (show s1.heap.IsTuple l2 jts.toArray from p2) fun h' g1 g2 g3 g4 g5 g6 g7=>?_
  refine zY g1 ?_
  exact⟨_,_,_,_,H1,rfl,I1.kept (t':=s1.toks) g7,vz (vA lt1 lt2) (dB.tuple _ l1) (dB.tuple _ l2) (iG.tuple X.K l1) (iG.tuple X.K l2),⟨g1,g2,⟨_,_,g3⟩,g4,g5⟩,fp h' H1 fun b hb=>I1.hok.fresh hb,q⟩
end
theorem vC{env:Env}:∀{names:List (Str×NameKind)} {x:Str},names.lookup x=some .free->
  (names.map fun(n,k)=>if(k==NameKind.free && env.scope.kind==.function && env.kindOf n==some .cell)then(n,NameKind.cell)else(n,k)).lookup x=some .cell\/
  (names.map fun(n,k)=>if(k==NameKind.free && env.scope.kind==.function && env.kindOf n==some .cell)then(n,NameKind.cell)else(n,k)).lookup x=some .free
 |[],_,h=>by simp at h
 |(n,k)::r,x,h=>by
  have ih:=@vC env r x
  show List.lookup x ((if(k==NameKind.free && env.scope.kind==.function && env.kindOf n==some .cell)=true then(n,NameKind.cell)else(n,k))::_)=_\/List.lookup x ((if(k==NameKind.free && env.scope.kind==.function && env.kindOf n==some .cell)=true then(n,NameKind.cell)else(n,k))::_)=_
  cases hx:x==n with
  |true=>
   simp only[iz,hx]at h
   by_cases hc:(k==NameKind.free && env.scope.kind==.function && env.kindOf n==some .cell)=true
   ·rw[aH hc];left;simp only[iz,hx]
   ·rw[av hc];right;simp only[iz,hx];exact h
  |false=>
   simp only[iz,hx]at h
   by_cases hc:(k==NameKind.free && env.scope.kind==.function && env.kindOf n==some .cell)=true
   ·rw[aH hc];simp only[iz,hx];exact ih h
   ·rw[av hc];simp only[iz,hx];exact ih h
theorem pK{env:Env}:∀{names:List (Str×NameKind)} {x:Str} {j:NameKind},(j=.cell\/j=.free)->
  (names.map fun(n,k)=>if(k==NameKind.free && env.scope.kind==.function && env.kindOf n==some .cell)then(n,NameKind.cell)else(n,k)).lookup x=some j->names.lookup x=some .cell\/names.lookup x=some .free
 |[],_,_,_,h=>by simp at h
 |(n,k)::r,x,j,hj,h=>by
  have ih:=@pK env r x j hj
  replace h:List.lookup x ((if(k==NameKind.free && env.scope.kind==.function && env.kindOf n==some .cell)=true then(n,NameKind.cell)else(n,k))::(r.map fun(n,k)=>if(k==NameKind.free && env.scope.kind==.function && env.kindOf n==some .cell)then(n,NameKind.cell)else(n,k)))=some j:=h
  cases hx:x==n with
  |true=>
   simp only[iz,hx]
   by_cases hc:(k==NameKind.free && env.scope.kind==.function && env.kindOf n==some .cell)=true
   ·right
    simp only[fF]at hc
    exact congrArg some (beq_iff_eq.mp hc.1.1)
   ·rw[av hc]at h
    simp only[iz,hx]at h
    cases h
    rcases hj with rfl|rfl
    ·exact .inl rfl
    ·exact .inr rfl
  |false=>
   simp only[iz,hx]
   by_cases hc:(k==NameKind.free && env.scope.kind==.function && env.kindOf n==some .cell)=true
   ·rw[aH hc]at h;simp only[iz,hx]at h;exact ih h
   ·rw[av hc]at h;simp only[iz,hx]at h;exact ih h
noncomputable def dC(cells:List (Str×Addr)):List (Str×NameKind)->List (Str×Addr)->List (Str×Addr)
 |[],acc=>acc
 |(n,k)::r,acc=>dC cells r (if(k==NameKind.free)=true then(n,(cells.lookup n).getD 0)::acc else acc)
theorem C3{env:Env}:∀(names:List (Str×NameKind)) (acc:List (Str×Addr)),(∀y∈names,y.2=.free->∃c,env.cells.lookup y.1=some c)->
  (forIn names acc (fun(x:Str×NameKind) (cs:List (Str×Addr))=>match x with|(name,kind)=>if(kind==NameKind.free)=true then(do let a<-cellOf env name;pure (ForInStep.yield ((name,a)::cs)))else pure (ForInStep.yield cs)):Sem (List (Str×Addr)))=pure (dC env.cells names acc)
 |[],acc,_=>rfl
 |(n,k)::r,acc,h=>by
  rw[uJ]
  have hr:=fun acc=>C3 r acc fun y hy=>h y (d_ _ hy)
  by_cases hk:(k==NameKind.free)=true
  ·obtain⟨c,hc⟩:=h (n,k) dR (beq_iff_eq.mp hk)
   have e:cellOf env n=pure c:=by unfold cellOf;rw[hc]
   simp only[hk,jC,e,pure_bind,dC,hc,Option.getD_some]
   exact hr _
  ·simp only[hk,kA,pure_bind,dC]
   exact hr _
theorem vD{scope:Scope}{env:Env}(h:∀y∈scope.names,y.2=.free->∃c,env.cells.lookup y.1=some c):closureFor scope env=pure (dC env.cells scope.names []):=by
 have e:=C3 scope.names [] h
 unfold closureFor
 simp only[e]
 first|rfl|simp
theorem pL{cells:List (Str×Addr)}{x:Str}:∀(names:List (Str×NameKind)) (acc:List (Str×Addr)),((x,NameKind.free)∈names\/acc.lookup x=some ((cells.lookup x).getD 0))->
  (dC cells names acc).lookup x=some ((cells.lookup x).getD 0)
 |[],acc,h=>by
  rcases h with h|h
  ·cases h
  ·exact h
 |(n,k)::r,acc,h=>by
  unfold dC
  refine pL r _ ?_
  by_cases hk:(k==NameKind.free)=true
  ·rw[aH hk]
   by_cases hx:x=n
   ·right;subst hx;simp
   ·rcases h with h|h
    ·rcases cE.mp h with e|e
     ·cases e;exact absurd rfl hx
     ·exact .inl e
    ·right
     have hx':(x==n)=false:=by simpa using hx
     simp only[iz,hx']
     exact h
  ·rw[av hk]
   rcases h with h|h
   ·rcases cE.mp h with e|e
    ·cases e;exact absurd rfl hk
    ·exact .inl e
   ·exact .inr h
theorem C4{cells:List (Str×Addr)}{x:Str}{c:Addr}:∀(names:List (Str×NameKind)) (acc:List (Str×Addr)),(dC cells names acc).lookup x=some c->
  acc.lookup x=some c\/((x,NameKind.free)∈names/\c=(cells.lookup x).getD 0)
 |[],acc,h=>.inl h
 |(n,k)::r,acc,h=>by
  unfold dC at h
  rcases C4 r _ h with q|⟨q,e⟩
  ·by_cases hk:(k==NameKind.free)=true
   ·rw[aH hk]at q
    cases hx:x==n with
    |true=>
     simp only[iz,hx]at q
     have hx':x=n:=by simpa using hx
     subst hx'
     have hk':k=.free:=beq_iff_eq.mp hk
     subst hk'
     exact .inr ⟨dR,(cm q).symm⟩
    |false=>
     simp only[iz,hx]at q
     exact .inl q
   ·rw[av hk]at q
    exact .inl q
  ·exact .inr ⟨d_ _ q,e⟩
structure bE(N:List Str)(osc scope:Scope)(own:List Str)(aB:List (Nat×Str)):Prop where
 kind:scope.kind=.function
 ocell:∀y∈scope.names,y.2≠ .cell
 locs:∀y∈scope.names,y.2=.local ->scope.names.lookup y.1=some .local
 frees:∀y∈scope.names,y.2=.free->osc.names.lookup y.1=some .cell\/osc.names.lookup y.1=some .free
 fres:∀p∈aB,N[p.1]?=some p.2/\scope.names.lookup p.2=some .free
noncomputable def fj(n:Nat)(aB:List (Nat×Str))(σ:St):St:=List.replicate n none++aB.map fun p=>(σ[p.1]?).join
noncomputable def gD(X:Cx)(N':List Str)(scope:Scope)(cl:List (Str×Addr))(C:Addr)(s₂:Shared)(H₂:Hp)(fp:List Addr):Cx where
 prog:=X.prog
 w:=X.w
 K:=X.K
 mg:=X.mg
 base:=X.base
 A:=X.A
 N:=N'
 s₀:=s₂
 H₀:=H₂
 env:=compEnvC scope cl C X.env
 outer:=X.stack
 stack:=X.stack
 ex:=fp
 fn:=fun _=>false
 calm:=X.calm
 pn:=[]
 xe:=fun _ _=>False
section
variable{X:Cx}{a8:List (Addr×Obj)}{σ:St}{H:Hp}{s:Shared}{scope:Scope}{own:List Str}{aB:List (Nat×Str)}{fp:List Addr}{C D:Addr}{h1:Heap}{m:Str->Option Value}
theorem ah.clos_cells(I:ah X a8 σ H s)(S:bE X.N X.env.scope scope own aB):∀y∈scope.names,y.2=.free->∃c,X.env.cells.lookup y.1=some c:=fun y hy e=>I.ok.has y.1 (S.frees y hy e)
theorem ah.clos_sub(I:ah X a8 σ H s)(S:bE X.N X.env.scope scope own aB){x:Str}{c:Addr}(h:(dC X.env.cells scope.names []).lookup x=some c):X.env.cells.lookup x=some c:=by
 rcases C4 _ _ h with q|⟨q,e⟩
 ·cases q
 ·obtain⟨c',hc⟩:=I.clos_cells S _ q rfl
  rw[hc]at e⊢
  exact congrArg some e.symm
theorem Ij{tk:Nat}(I:ah X a8 σ H s)(S:bE X.N X.env.scope scope own aB)(hfp:∀b∈fp,cJ X a8 H b)(hfo:∀b∈fp,∃o,s.heap.get? b=some o)
  (old:∀b o,s.heap.get? b=some o->h1.get? b=some o) (hC:s.heap.objs.size<=C) (hns:h1.Ns C m) (hD:s.heap.objs.size<=D) (hDC:D≠C) (hDo:h1.get? D=some (LCg.lst [])):
  ah (gD X (own++aB.map (·.2)) scope (dC X.env.cells scope.names []) C s H fp) [(D,LCg.lst [])] (fj own.length aB σ) H {s with heap:=h1,toks:=tk}:=by
 have sub:=fun{x:Str} {c:Addr}=>I.clos_sub (x:=x) (c:=c) S
 have lt:∀b∈fp,b<s.heap.objs.size:=fun b hb=>by obtain⟨o,e⟩:=hfo b hb;exact bg e
 have clt:∀x c,X.env.cells.lookup x=some c->c<s.heap.objs.size:=fun x c e=>by obtain⟨v,q⟩:=I.cell x c e;exact q.lt
 refine⟨⟨I.ok.mod,S.kind,I.ok.glob,I.ok.blt,hC,fun x y c e1 e2=>I.ok.inj x y c (sub e1) (sub e2),fun x hx=>?_,fun x c z=>absurd z (by show ¬(false=true);decide),I.ok.hd,I.ok.frames,.inl rfl,fun b hb=>?_,I.bs,cN I.ok.bsz I.sz,fun b o e hb=>?_,fun b hb=>?_,I.stack,I.stkFree⟩,
  rfl,I.bare,Un.kept old,⟨m,hns,fun i x v e1 e2 e3=>?_⟩,fun x c e=>?_,I.hok.fresh hC,fun x c e=>I.freeC x c (sub e),fun p hp=>?_,I.hok.kept old,?_⟩
 ·have hx':scope.names.lookup x=some .cell\/scope.names.lookup x=some .free:=by
   rcases hx with z|z
   ·exact pK (.inl rfl) z
   ·exact pK (.inr rfl) z
  rcases hx' with z|z
  ·exact absurd rfl (S.ocell _ (mem_of_lookup z))
  ·exact⟨_,pL _ _ (.inl (mem_of_lookup z))⟩
 ·exact⟨bP (cL (lt b hb) hC),fun x c e=>(hfp b hb).2.2.2.2.1 x c (sub e)⟩
 ·obtain⟨_,_,_,f3,_⟩:=hfp b hb
  rcases f3 with z|z
  ·exact I.ok.noex b o e z
  ·exact absurd (cL (bg e) (cN I.ok.bsz z)) (jA _)
 ·intro z
  rcases cE.mp (I.stkSub b z)with q|q
  ·exact(hfp b hb).2.1 q
  ·exact(hfp b hb).2.2.1 q
 ·have hi:own.length<=i:=by
   rcases dh i own.length with z|z
   ·unfold fj at e2
    rw[eZ (by simpa using z),zL]at e2
    split at e2<;>cases e2
   ·exact z
  unfold fj at e2
  rw[dY (by simpa using hi),aI,Gd]at e2
  replace e1:(own++aB.map (·.2))[i]?=some x:=e1
  rw[dY hi,aI]at e1
  cases q:aB[i - own.length]? with
  |none=>rw[q]at e1;cases e1
  |some p=>
   rw[q]at e1 e2
   have e1':p.2=x:=cm e1
   have e2':(σ[p.1]?).join=some v:=cm e2
   subst e1'
   have e4:σ[p.1]?=some (some v):=by
    cases r:σ[p.1]? with
    |none=>rw[r]at e2';cases e2'
    |some w=>rw[r]at e2';exact congrArg some e2'
   obtain⟨n1,n2⟩:=S.fres p (dE q)
   have hm:=mem_of_lookup n2
   have kd:=S.frees _ hm rfl
   obtain⟨m2,hn2,hl2⟩:=I.loc
   obtain⟨u,ru,lk⟩:=hl2 p.1 p.2 v n1 e4 (.inr kd)
   refine⟨u,ru,?_⟩
   rcases lk with⟨z,_⟩|⟨_,c,hc,hcell⟩
   ·have z':X.env.scope.names.lookup p.2=some .local :=z
    rcases kd with k|k
    ·have k':X.env.scope.names.lookup p.2=some .cell:=k
     rw[z']at k';cases k'
    ·have k':X.env.scope.names.lookup p.2=some .free:=k
     rw[z']at k';cases k'
   ·refine .inr ⟨vC n2,c,?_,?_⟩
    ·have:=pL (cells:=X.env.cells) (x:=p.2) scope.names [] (.inl hm)
     rw[hc]at this
     exact this
    ·obtain⟨o,ho,hd⟩:=hcell
     exact⟨o,old _ _ ho,hd⟩
 ·obtain⟨v,o,ho,hd⟩:=I.cell x c (sub e)
  exact⟨v,o,old _ _ ho,hd⟩
 ·have e:p=(D,LCg.lst []):=by
   have hp':p∈[(D,LCg.lst [])]:=hp
   simpa using hp'
  subst e
  refine⟨hDo,I.hok.fresh hD,hDC,fun z=>?_,fun v z=>by cases z⟩
  rcases cE.mp (I.stkSub D z)with q|q
  ·exact absurd I.lt (Nat.not_lt.mpr (by rw[<-q];exact hD))
  ·exact I.nofs hD q
 ·unfold fj
  show _=(own++aB.map (·.2)).length
  simp
end
noncomputable def fT(X:Cx)(ifs:List Expr)(t:TT):Prop:=
 ∀(a8:List (Addr×Obj)) (s:Shared) (σ:St) (H:Hp) (Q:Bool->Hp->Prop),ah X a8 σ H s->t σ H Q->
  wpAny (model X.prog X.w) X.A (forIn ifs true fun c r=>if r=true then do let ok<-isTrue c X.env (eval c X.env);pure (ForInStep.yield ok)else pure (ForInStep.yield r)) (TP X a8 σ Q) X.xe s
noncomputable def hV:TT:=fun _ H Q=>Q true H
theorem cH{X:Cx}:fT X [] hV:=fun _ _ _ H _ I h=>wpAny_tests_nil ⟨H,I,h⟩
theorem iH{X:Cx}{c:Expr}{t:TT}(h:PT X c t):fT X [c] t:=fun a8 s σ H Q I hw=>wpAny_tests_one (h a8 s σ H Q I hw)
abbrev C5(fs:List Expr)(env:Env):Sem Bool:=forIn fs true fun c r=>if r=true then do let ok<-isTrue c env (eval c env);pure (ForInStep.yield ok)else pure (ForInStep.yield r)
noncomputable def jc(g:TG)(tt:TT)(te:TE)(J:It)(Fin:List V->St->Hp->Prop)(ys0:List V)(σ0:St)(H0:Hp):Prop:=
 ∃W:Nat->Nat->List V->St->Hp->Prop,(∃m,W 0 m ys0 σ0 H0)/\∀i m ys σ' H',W i m ys σ' H'->(J.stop i H'/\Fin ys σ' H')\/
  (J.go i H'/\ys.length<sizeLine/\∀x H2,J.yld i H' x H2->g x σ' H2 fun σ3 H3=>tt σ3 H3 fun b H4=>if b=true then te σ3 H4 fun y H5=>∃m',m'<m/\W (i+1) m' (ys++[y]) σ3 H5 else ∃m',m'<m/\W (i+1) m' ys σ3 H4)
noncomputable def jd(g:TG)(tt:TT)(wi:TI)(inner:It->(List V->St->Hp->Prop)->List V->St->Hp->Prop)(J:It)(Fin:List V->St->Hp->Prop)(ys0:List V)(σ0:St)(H0:Hp):Prop:=
 ∃W:Nat->Nat->List V->St->Hp->Prop,(∃m,W 0 m ys0 σ0 H0)/\∀i m ys σ' H',W i m ys σ' H'->(J.stop i H'/\Fin ys σ' H')\/
  (J.go i H'/\∀x H2,J.yld i H' x H2->g x σ' H2 fun σ3 H3=>tt σ3 H3 fun b H4=>if b=true then wi σ3 H4 fun J1 H5=>inner J1 (fun ys' σ5 H6=>∃m',m'<m/\W (i+1) m' ys' σ5 H6) ys σ3 H5 else ∃m',m'<m/\W (i+1) m' ys σ3 H4)
structure pN(X:Cx):Prop where
 xe:X.xe=fun _ _=>False
 pn:X.pn=[]
 calm:X.calm=true
noncomputable def pO(X:Cx)(D:Addr)(e:Expr)(k:Nat)(tg:Expr)(body:It->(List V->St->Hp->Prop)->List V->St->Hp->Prop):Prop:=
 ∀(P:List (Addr×Obj)) (s:Shared) (H:Hp) (σ:St) (ys:List V) (ak:List Value) (it:Addr) (fp:List Addr) (tn:Nat->Heap->Prop) (J:It) (Fin:List V->St->Hp->Prop) (R:Result->Shared->Prop),
  (∀p∈P,p.1≠D)->ah X ([(D,LCg.lst ak)]++P) σ H s->aP ys ak->ys.length<=sizeLine->iC X.prog X.w X.K tg J fp it tn->tn 0 s.heap->(∀b∈fp,cJ X ([(D,LCg.lst ak)]++P) H b)->body J Fin ys σ H->
  (∀s' ys' its' σ' H',ah X ([(D,LCg.lst its')]++P) σ' H' s'->aP ys' its'->ys'.length<=sizeLine->Fin ys' σ' H'->R (.ok .next) s')->
  codeAny (model X.prog X.w) X.A (.compLoop e k (.ref it) (.ref D) X.env) R s
theorem nI{X:Cx}{D:Addr}{P:List (Addr×Obj)}{ak its':List Value}{H H':Hp}{b:Addr}(pn:X.pn=[])(h:cJ X ([(D,LCg.lst ak)]++P) H b)(hn:H' b=none):cJ X ([(D,LCg.lst its')]++P) H' b:=by
 obtain⟨_,k1,k2,k3,k4,k5⟩:=h
 refine⟨hn,k1,k2,k3,k4,fun p hp=>?_⟩
 rw[pn]at hp
 rcases iu.mp hp with z|z
 ·cases z
 ·rcases iu.mp z with y|y
  ·have e:p=(D,LCg.lst its'):=by simpa using y
   rw[e]
   exact k5 (D,LCg.lst ak) (by rw[pn];simp)
  ·exact k5 p (dZ _ (dZ _ y))
section
variable{X:Cx}{D:Addr}{bD tg i0 t1 i1:Expr}{gens:List Comprehension}{scope:Scope}{pos:Pos}{fs:List Expr}{k:Nat}{g:TG}{tt:TT}{te:TE}{wi:TI}{inner:It->(List V->St->Hp->Prop)->List V->St->Hp->Prop}
theorem vE(hX:pN X)(statD:∀{H':Hp},H' D=none->cJ X [] H' D)
  (hturn:∀it acc env,compTurn (.ListComp bD gens scope pos) k it acc env=(standAt i0.pos >>=fun _=>pyNext it >>=fun r=>match r with
   |none=>pure (.done .next)
   |some v=>letOwnedTupleGo tg it v >>=fun _=>assign tg env v >>=fun _=>C5 fs env >>=fun ok=>
    if ok=true then((eval bD env >>=fun x=>call (.builtin "list.append") [acc,x] >>=fun _=>pure PUnit.unit) >>=fun _=>again (.compLoop (.ListComp bD gens scope pos) k it acc env))
    else again (.compLoop (.ListComp bD gens scope pos) k it acc env)))
  (hg:PG X tg g) (ht:fT X fs tt) (he:PE X bD te):pO X D (.ListComp bD gens scope pos) k tg (jc g tt te):=by
 intro P s H σ ys ak it fp tn J Fin R hPD I rv bI T st f9 turns hR
 obtain⟨W,⟨m0,w0⟩,turn⟩:=turns
 have hb:∀{A:Prop} {x:Value} {s':Shared},X.xe x s'->A:=fun{A x s'} z=>by rw[hX.xe]at z;exact z.elim
 refine codeAny_loop rfl (fun n s'=>∃i' ys' its' σ' H',ah X ([(D,LCg.lst its')]++P) σ' H' s'/\aP ys' its'/\ys'.length<=sizeLine/\tn i' s'.heap/\(∀b∈fp,H' b=none)/\W i' n ys' σ' H') (fun n s3 hI=>?_) m0
  ⟨0,ys,ak,σ,H,I,rv,bI,st,fun b hb=>(f9 b hb).1,w0⟩
 show wpAny _ X.A ((compTurn (.ListComp bD gens scope pos) k (.ref it) (.ref D) X.env).onRaise (fun x=>do noteFrame x X.env;theTreesLotGoes x)) _ _ s3
 refine wpAny_noted ?_
 rw[hturn]
 obtain⟨i',ys',its',σ10,H10,I10,rv10,hlen10,st10,fr10,w10⟩:=hI
 refine aa (kz (aa ?_))
 rcases turn i' n ys' σ10 H10 w10 with⟨stop1,fin1⟩|⟨go1,hz1,step1⟩
 ·have dn:=T.done X rfl rfl rfl hX.calm i' _ s3 σ10 H10 (fun _ _=>False) I10 (fun b hb=>nI hX.pn (f9 b hb) (fr10 b hb)) st10 stop1
  refine cV dn (fun r s11 ⟨hr,I11⟩=>?_) fun _ _ z=>z.elim
  subst hr
  exact ao (hR _ ys' its' σ10 H10 I11 rv10 hlen10 fin1)
 ·have itm1:=T.item X rfl rfl rfl hX.calm i' _ s3 σ10 H10 (fun _ _=>False) I10 (fun b hb=>nI hX.pn (f9 b hb) (fr10 b hb)) st10 go1
  refine cV itm1 (fun r s11 ⟨u1,hr,h11⟩=>?_) fun _ _ z=>z.elim
  subst hr
  refine aa (cV h11 (fun _ s12 ⟨x1,H12,I12,r12,y12,st12,fr12⟩=>?_) fun _ _ z=>z.elim)
  have I12':=I12.pinned (fun b hb=>nI hX.pn (f9 b hb) (fr12 b hb)) (T.obj _ _ st12)
  refine aa (cV (hg _ s12 σ10 H12 x1 u1 _ I12' r12 (step1 x1 H12 y12)) (fun _ s13 ⟨σ13,H13,I13,q13⟩=>?_) (fun _ _ z=>hb z))
  refine aa (cV (ht _ s13 σ13 H13 _ I13 q13) (fun b1 s14 ⟨H14,I14,q14⟩=>?_) (fun _ _ z=>hb z))
  have back1:∀{σ8:St} {H8:Hp} {s8:Shared},ah X (([(D,LCg.lst its')]++P)++m5 fp s12.heap) σ8 H8 s8->tn (i'+1) s8.heap/\∀b∈fp,H8 b=none:=fun{σ8 H8 s8} I8=>by
   refine⟨T.keep _ _ _ st12 fun b hb o e=>(I8.pin (b,o) (dZ _ (dZ _ (kI hb e)))).1,fun b hb=>?_⟩
   obtain⟨o,e,_⟩:=T.obj _ _ st12 b hb
   exact(I8.pin (b,o) (dZ _ (dZ _ (kI hb e)))).2.1
  cases b1 with
  |false=>
   rw[av cq]at q14
   obtain⟨m',hm',w'⟩:=q14
   obtain⟨c1,c2⟩:=back1 I14
   exact ao ⟨rfl,m',hm',i'+1,ys',its',σ13,H14,I14.unpinned,rv10,hlen10,c1,c2,w'⟩
  |true=>
   rw[aH rfl]at q14
   refine aa (aa (cV (he _ s14 σ13 H14 _ I14 q14) (fun yv s15 ⟨y,H15,I15,r15,q15⟩=>?_) (fun _ _ z=>hb z)))
   obtain⟨m',hm',w'⟩:=q15
   obtain⟨c1,c2⟩:=back1 I15
   have pD15:=I15.pin (D,LCg.lst its') (dZ _ (ki _ (ki _ (by simp))))
   have hl15:=rv10.length
   refine aa (append_at (hsz:=by show its'.toArray.size<=sizeLine;rw[ck,<-hl15];exact hlen10) pD15.1 fun h9 hs9 hD9=>?_)
   have J0:ah X [] σ13 H15 s15:=I15.pins_of fun p hp=>absurd hp (by simp)
   have J1:ah X [] σ13 H15 {s15 with heap:=h9,toks:=s15.toks}:=J0.chg (ch:=[D]) (fun b hb=>by
    have e:b=D:=by simpa using hb
    rw[e];exact statD pD15.2.1) fun b o hb e=>hs9.extBut _ _ (by simpa using hb) e
   have hD9':h9.get? D=some (LCg.lst (its'++[yv])):=hD9.trans (congrArg some (LCg.lst_snoc its' yv))
   have J2:ah X ([(D,LCg.lst (its'++[yv]))]++P) σ13 H15 {s15 with heap:=h9,toks:=s15.toks}:=J1.pins_of fun p hp=>by
    rcases iu.mp hp with hp|hp
    ·have e:p=(D,LCg.lst (its'++[yv])):=by simpa using hp
     rw[e]
     have z:=statD pD15.2.1
     exact⟨hD9',pD15.2.1,z.2.1,z.2.2.1,fun v q=>by cases q⟩
    ·have z:=I15.pin p (dZ _ (ki _ (dZ _ hp)))
     exact⟨hs9.extBut _ _ (hPD p hp) z.1,z.2⟩
   refine ao (ao ⟨rfl,m',hm',i'+1,ys'++[y],its'++[yv],σ13,H15,J2,rv10.append (.cons r15 .nil),by rw[bF,oz];exact hz1,T.keep _ _ _ c1 fun b hb o e=>hs9.extBut _ _ ?_ e,c2,w'⟩)
   obtain⟨_,_,_,_,_,k5⟩:=f9 b hb
   exact Ne.symm (k5 (D,LCg.lst ak) (by rw[hX.pn];simp))
theorem vF(hX:pN X)
  (hturn:∀it acc env,compTurn (.ListComp bD gens scope pos) k it acc env=(standAt i0.pos >>=fun _=>pyNext it >>=fun r=>match r with
   |none=>pure (.done .next)
   |some v=>letOwnedTupleGo tg it v >>=fun _=>assign tg env v >>=fun _=>C5 fs env >>=fun ok=>
    if ok=true then(eval i1 env >>=fun x=>standAt i1.pos >>=fun _=>foldedSetIterable i1 env x >>=fun x=>holding [x] (pyIter x) >>=fun j=>runOwn (.compStart (.ListComp bD gens scope pos) (k+1) j acc env) env >>=fun _=>again (.compLoop (.ListComp bD gens scope pos) k it acc env))
    else again (.compLoop (.ListComp bD gens scope pos) k it acc env)))
  (hstart:∀{A:Around} {R:Result->Shared->Prop} {s:Shared} {it acc:Value} {env:Env},codeAny (model X.prog X.w) A (.compLoop (.ListComp bD gens scope pos) (k+1) it acc env) R s->
   wpAny (model X.prog X.w) A (pyIter it) (fun it' s'=>codeAny (model X.prog X.w) A (.compLoop (.ListComp bD gens scope pos) (k+1) it' acc env) R s') (notedBy (model X.prog X.w) A env fun x s'=>R (.error x) s') s->codeAny (model X.prog X.w) A (.compStart (.ListComp bD gens scope pos) (k+1) it acc env) R s)
  (hg:PG X tg g) (ht:fT X fs tt) (hi1:PI X t1 i1 wi) (hs1:∀x,foldedSetIterable i1 X.env x=pure x) (hin:pO X D (.ListComp bD gens scope pos) (k+1) t1 inner):pO X D (.ListComp bD gens scope pos) k tg (jd g tt wi inner):=by
 intro P s H σ ys ak it fp tn J Fin R hPD I rv bI T st f9 turns hR
 obtain⟨W,⟨m0,w0⟩,turn⟩:=turns
 have hb:∀{A:Prop} {x:Value} {s':Shared},X.xe x s'->A:=fun{A x s'} z=>by rw[hX.xe]at z;exact z.elim
 refine codeAny_loop rfl (fun n s'=>∃i' ys' its' σ' H',ah X ([(D,LCg.lst its')]++P) σ' H' s'/\aP ys' its'/\ys'.length<=sizeLine/\tn i' s'.heap/\(∀b∈fp,H' b=none)/\W i' n ys' σ' H') (fun n s3 hI=>?_) m0
  ⟨0,ys,ak,σ,H,I,rv,bI,st,fun b hb=>(f9 b hb).1,w0⟩
 show wpAny _ X.A ((compTurn (.ListComp bD gens scope pos) k (.ref it) (.ref D) X.env).onRaise (fun x=>do noteFrame x X.env;theTreesLotGoes x)) _ _ s3
 refine wpAny_noted ?_
 rw[hturn]
 obtain⟨i',ys',its',σ10,H10,I10,rv10,hlen10,st10,fr10,w10⟩:=hI
 refine aa (kz (aa ?_))
 rcases turn i' n ys' σ10 H10 w10 with⟨stop1,fin1⟩|⟨go1,step1⟩
 ·have dn:=T.done X rfl rfl rfl hX.calm i' _ s3 σ10 H10 (fun _ _=>False) I10 (fun b hb=>nI hX.pn (f9 b hb) (fr10 b hb)) st10 stop1
  refine cV dn (fun r s11 ⟨hr,I11⟩=>?_) fun _ _ z=>z.elim
  subst hr
  exact ao (hR _ ys' its' σ10 H10 I11 rv10 hlen10 fin1)
 ·have itm1:=T.item X rfl rfl rfl hX.calm i' _ s3 σ10 H10 (fun _ _=>False) I10 (fun b hb=>nI hX.pn (f9 b hb) (fr10 b hb)) st10 go1
  refine cV itm1 (fun r s11 ⟨u1,hr,h11⟩=>?_) fun _ _ z=>z.elim
  subst hr
  refine aa (cV h11 (fun _ s12 ⟨x1,H12,I12,r12,y12,st12,fr12⟩=>?_) fun _ _ z=>z.elim)
  have I12':=I12.pinned (fun b hb=>nI hX.pn (f9 b hb) (fr12 b hb)) (T.obj _ _ st12)
  refine aa (cV (hg _ s12 σ10 H12 x1 u1 _ I12' r12 (step1 x1 H12 y12)) (fun _ s13 ⟨σ13,H13,I13,q13⟩=>?_) (fun _ _ z=>hb z))
  refine aa (cV (ht _ s13 σ13 H13 _ I13 q13) (fun b1 s14 ⟨H14,I14,q14⟩=>?_) (fun _ _ z=>hb z))
  have back1:∀{its8:List Value} {σ8:St} {H8:Hp} {s8:Shared},ah X (([(D,LCg.lst its8)]++P)++m5 fp s12.heap) σ8 H8 s8->tn (i'+1) s8.heap/\∀b∈fp,H8 b=none:=fun{its8 σ8 H8 s8} I8=>by
   refine⟨T.keep _ _ _ st12 fun b hb o e=>(I8.pin (b,o) (dZ _ (dZ _ (kI hb e)))).1,fun b hb=>?_⟩
   obtain⟨o,e,_⟩:=T.obj _ _ st12 b hb
   exact(I8.pin (b,o) (dZ _ (dZ _ (kI hb e)))).2.1
  cases b1 with
  |false=>
   rw[av cq]at q14
   obtain⟨m',hm',w'⟩:=q14
   obtain⟨c1,c2⟩:=back1 I14
   exact ao ⟨rfl,m',hm',i'+1,ys',its',σ13,H14,I14.unpinned,rv10,hlen10,c1,c2,w'⟩
  |true=>
   rw[aH rfl]at q14
   refine aa (cV (hi1 _ s14 σ13 H14 _ I14 q14) (fun v s8 h8=>?_) (fun _ _ z=>hb z))
   refine aa (kz ?_)
   rw[hs1]
   refine aa (ao (aa (c_ (cV h8 (fun jv s9 h9=>?_) (fun _ _ z=>hb z)))))
   obtain⟨it1,fp1,tn1,J1,H9,rfl,I9,T1,st9,f1,q1⟩:=h9
   have run:=hin (P++m5 fp s12.heap) s9 H9 σ13 ys' its' it1 fp1 tn1 J1 _ (fun r s'=>match r with
     |.ok _=>∃m,m<n/\∃i' ys' its' σ' H',ah X ([(D,LCg.lst its')]++P) σ' H' s'/\aP ys' its'/\ys'.length<=sizeLine/\tn i' s'.heap/\(∀b∈fp,H' b=none)/\W i' m ys' σ' H'
     |.error _=>False) (fun p hp=>by
      rcases iu.mp hp with z|z
      ·exact hPD p z
      ·obtain⟨hb',_⟩:=Bm z
       obtain⟨_,_,_,_,_,k5⟩:=f9 p.1 hb'
       exact Ne.symm (k5 (D,LCg.lst ak) (by rw[hX.pn];simp))) (by rw[<-km];exact I9) rv10 hlen10 T1 st9 (by rw[<-km];exact f1) q1
    (fun s' ys8 its8 σ8 H8 I8 rv8 hl8 fin8=>by
     obtain⟨m',hm',w'⟩:=fin8
     rw[<-km]at I8
     obtain⟨c1,c2⟩:=back1 I8
     exact⟨m',hm',i'+1,ys8,its8,σ8,H8,I8.unpinned,rv8,hl8,c1,c2,w'⟩)
   refine aa (wpAny_runOwn (h:=none) ?_)
   rw[Around.mark_none]
   refine lW (hstart run (T1.self X.A 0 _ _ _ st9 run)) fun r s' hr=>?_
   cases r with
   |ok f=>exact ao ⟨rfl,hr⟩
   |error e=>exact hr.elim
end
section
variable{X:Cx}{a8:List (Addr×Obj)}{σ:St}{scope:Scope}{own:List Str}{aB:List (Nat×Str)}{bD tg:Expr}{gens:List Comprehension}{pos:Pos}{body:It->(List V->St->Hp->Prop)->List V->St->Hp->Prop}
theorem C6{s2:Shared}{H2:Hp}{it:Addr}{fp:List Addr}{tn:Nat->Heap->Prop}{J:It}{Fin:List V->Hp->Prop}{RR:Value->Addr->Result->Shared->Prop}{E:Value->Shared->Prop}
  (hc:X.calm=true) (S:bE X.N X.env.scope scope own aB) (I2:ah X a8 σ H2 s2) (T:iC X.prog X.w X.K tg J fp it tn) (st2:tn 0 s2.heap) (f2:∀b∈fp,cJ X a8 H2 b)
  (hrun:∀cl C s₂ H₂ fp D,pN (gD X (own++aB.map (·.2)) scope cl C s₂ H₂ fp)->(∀{H':Hp},H' D=none->cJ (gD X (own++aB.map (·.2)) scope cl C s₂ H₂ fp) [] H' D)->pO (gD X (own++aB.map (·.2)) scope cl C s₂ H₂ fp) D (.ListComp bD gens scope pos) 0 tg body)
  (turns:body J (fun ys _ H'=>Fin ys H') [] (fj own.length aB σ) H2)
  (hend:∀(D C:Addr) (s':Shared) (H':Hp) (ys:List V) (ak:List Value) (m:Str->Option Value),s2.heap.objs.size<=D->s2.heap.objs.size<=C->D≠C->ah X a8 σ H' s'->H' D=none->H' C=none->s'.heap.get? D=some (LCg.lst ak)->s'.heap.Ns C m->aP ys ak->ys.length<=sizeLine->Fin ys H'->RR (.ref D) C (.ok .next) s')
  (hst:∀{A:Around} {R:Result->Shared->Prop} {s:Shared} {it acc:Value} {env:Env},codeAny (model X.prog X.w) A (.compLoop (.ListComp bD gens scope pos) 0 it acc env) R s->
   wpAny (model X.prog X.w) A (pyIter it) (fun it' s'=>codeAny (model X.prog X.w) A (.compLoop (.ListComp bD gens scope pos) 0 it' acc env) R s') (notedBy (model X.prog X.w) A env fun x s'=>R (.error x) s') s->codeAny (model X.prog X.w) A (.compStart (.ListComp bD gens scope pos) 0 it acc env) R s):
  wpAny (model X.prog X.w) X.A (newList []) (fun acc s₃=>wpAny (model X.prog X.w) X.A (newFunctionEnv scope X.env.globals (dC X.env.cells scope.names []) [] X.env.qual none .none (some X.env)) (fun cenv s₄=>
   codeAny (model X.prog X.w) X.A (.compStart (.ListComp bD gens scope pos) 0 (.ref it) acc {cenv with scope:=relabel scope X.env}) (RR acc cenv.locals) s₄) E s₃) E s2:=by
 refine iw (wpAny_newFunctionEnv S.ocell (by intro y hy;simp at hy) (fun h₁ hns₁ hsb₁=>?_) S.kind)
 dsimp only at hns₁ hsb₁⊢
 generalize hH2:s2.heap.push {cls:=.type "list",dict:=none,data:=.seq ([]:List Value).toArray}=HH at hns₁ hsb₁⊢
 have hC:HH.objs.size=s2.heap.objs.size+1:=by rw[<-hH2,eB]
 have hDC:s2.heap.objs.size≠HH.objs.size:=by rw[hC];exact bP (lT _)
 have hCle:s2.heap.objs.size<=HH.objs.size:=by rw[hC];exact n0 _
 have old:∀b o,s2.heap.get? b=some o->h₁.get? b=some o:=fun b o e=>
  hsb₁.extBut b o (by rw[hC];exact bP (jx (bg e))) (aW _ (hH2▸aW _ e))
 have hacc:h₁.get? s2.heap.objs.size=some (LCg.lst []):=hsb₁.extBut _ _ hDC (aW _ (hH2▸bV _ rfl))
 have hfo:∀b∈fp,∃o,s2.heap.get? b=some o:=fun b hb=>by obtain⟨o,e,_⟩:=T.obj _ _ st2 b hb;exact⟨o,e⟩
 have flt:∀b∈fp,b<s2.heap.objs.size:=fun b hb=>by obtain⟨o,e⟩:=hfo b hb;exact bg e
 have I1:=Ij (tk:=s2.toks+([]:List (Str×Value)).length) I2 S f2 hfo old hCle hns₁ (aG _) hDC hacc
 have hrun':=hrun (dC X.env.cells scope.names []) HH.objs.size s2 H2 fp s2.heap.objs.size
 generalize hX':gD X (own++aB.map (·.2)) scope (dC X.env.cells scope.names []) HH.objs.size s2 H2 fp=X' at I1 hrun'
 have eP:X'.prog=X.prog:=by rw[<-hX'];rfl
 have eW:X'.w=X.w:=by rw[<-hX'];rfl
 have eK:X'.K=X.K:=by rw[<-hX'];rfl
 have eA:X'.A=X.A:=by rw[<-hX'];rfl
 have eE:X'.env=compEnvC scope (dC X.env.cells scope.names []) HH.objs.size X.env:=by rw[<-hX'];rfl
 have eX:X'.xe=fun _ _=>False:=by rw[<-hX'];rfl
 have ePn:X'.pn=[]:=by rw[<-hX'];rfl
 have eC:X'.calm=true:=by rw[<-hX'];exact hc
 have eS:X'.s₀=s2:=by rw[<-hX'];rfl
 have eH:X'.H₀=H2:=by rw[<-hX'];rfl
 have eF:X'.fs=gy X.stack:=by rw[<-hX'];rfl
 have eEx:X'.ex=fp:=by rw[<-hX'];rfl
 have ccell:∀x c,X'.env.cells.lookup x=some c->c<s2.heap.objs.size:=fun x c e=>by
  rw[eE]at e
  obtain⟨v,q⟩:=I2.cell x c (I2.clos_sub S e)
  exact q.lt
 have stat:∀{H':Hp} {o:Obj},(∀b∈fp,H' b=none)->∀b∈fp,cJ X' [(s2.heap.objs.size,o)] H' b:=fun{H' o} hn b hb=>by
  refine⟨hn b hb,?_,?_,.inl (by rw[eEx];exact hb),fun x c e=>?_,fun p hp=>?_⟩
  ·rw[eE];exact bP (cL (flt b hb) hCle)
  ·rw[eF];intro z
   rcases cE.mp (I2.stkSub b z)with q|q
   ·exact(f2 b hb).2.1 q
   ·exact(f2 b hb).2.2.1 q
  ·rw[eE]at e
   exact(f2 b hb).2.2.2.2.1 x c (I2.clos_sub S e)
  ·rw[ePn]at hp
   have e:p=(s2.heap.objs.size,o):=by simpa using hp
   rw[e]
   exact gv (flt b hb)
 have statD:∀{H':Hp},H' s2.heap.objs.size=none->cJ X' [] H' s2.heap.objs.size:=fun{H'} hn=>by
  refine⟨hn,?_,?_,.inr (by rw[eS];exact aG _),fun x c e=>bP (ccell x c e),fun p hp=>?_⟩
  ·rw[eE];exact hDC
  ·rw[eF];intro z
   rcases cE.mp (I2.stkSub _ z)with q|q
   ·exact absurd I2.lt (by rw[<-q];exact jA _)
   ·exact I2.nofs (aG _) q
  ·rw[ePn]at hp;cases hp
 have loop:∀s₃:Shared,s₃={s2 with heap:=h₁,toks:=s2.toks+([]:List (Str×Value)).length}->
   codeAny (model X.prog X.w) X.A (.compLoop (.ListComp bD gens scope pos) 0 (.ref it) (.ref s2.heap.objs.size) (compEnvC scope (dC X.env.cells scope.names []) HH.objs.size X.env))
    (RR (.ref s2.heap.objs.size) HH.objs.size) s₃:=by
  rintro s₃ rfl
  have run:=hrun' ⟨eX,ePn,eC⟩ statD [] _ H2 _ [] [] it fp tn J _ (RR (.ref s2.heap.objs.size) HH.objs.size) (fun p hp=>absurd hp (by simp)) (by rw[gW];exact I1) .nil (b_ _) (by rw[eP,eW,eK];exact T)
   (T.keep _ _ _ st2 fun b _ o e=>old b o e) (by rw[gW];exact stat fun b hb=>(f2 b hb).1) turns (fun s4 ys ak σ3 H3 I4 rv bI fin=>by
    rw[gW]at I4
    have pD4:=I4.pin (s2.heap.objs.size,LCg.lst ak) (by rw[ePn];simp)
    obtain⟨m4,hn4,_⟩:=I4.loc
    have b4:Un (gy X.stack) fp H2 H3 s2.heap s4.heap:=by
     have z:=I4.base
     rw[eF,eEx,eH,eS]at z
     exact z
    have o4:s4.os=s2.os:=by have z:=I4.os;rw[eS]at z;exact z
    have k4:cA X.prog X.w H3 s4.heap:=by have z:=I4.hok;rw[eP,eW]at z;exact z
    have Io:ah X a8 σ H3 s4:=I2.call' o4 b4 k4 I4.bare fun b hb=>by
     obtain⟨_,f1,_,f3,f4,f5⟩:=f2 b hb
     exact⟨f3,f1,f4,f5⟩
    refine hend _ _ s4 H3 ys ak m4 (aG _) hCle hDC Io pD4.2.1 ?_ pD4.1 ?_ rv bI fin
    ·have z:=I4.free;rw[eE]at z;exact z
    ·rw[eE]at hn4;exact hn4)
  rw[eP,eW,eA,eE]at run
  exact run
 exact hst (loop _ rfl) (T.self X.A 0 _ _ _ (T.keep _ _ _ st2 fun b _ o e=>old b o e) (loop _ rfl))
end
abbrev cf(X:Cx)(own:List Str)(aB:List (Nat×Str))(scope:Scope)(p:Cx->Prop):Prop:=∀cl C s₂ H₂ fp,p (gD X (own++aB.map (·.2)) scope cl C s₂ H₂ fp)
noncomputable def ic(J:It)(g:TG)(tt:TT)(te:TE)(Fin:List V->Hp->Prop)(σ₀:St)(H1:Hp):Prop:=jc g tt te J (fun ys _ H'=>Fin ys H') [] σ₀ H1
noncomputable def C7(J1:It)(g1:TG)(tt1:TT)(te:TE)(Fin:List V->St->Hp->Prop)(ys0:List V)(σ0:St)(H0:Hp):Prop:=jc g1 tt1 te J1 Fin ys0 σ0 H0
noncomputable def nJ(J:It)(g:TG)(tt:TT)(wi1:TI)(g1:TG)(tt1:TT)(te:TE)(Fin:List V->Hp->Prop)(σ₀:St)(H1:Hp):Prop:=jd g tt wi1 (jc g1 tt1 te) J (fun ys _ H'=>Fin ys H') [] σ₀ H1
noncomputable def C8(n:Nat)(aB:List (Nat×Str))(wi:TI)(body:It->(List V->St->Hp->Prop)->List V->St->Hp->Prop):TE:=fun σ H Q=>wi σ H fun J H1=>body J (fun ys _ H'=>∀D,H' D=none->Q (.ref D) (ab H' D (.lst ys))) [] (fj n aB σ) H1
noncomputable def vG(n:Nat)(aB:List (Nat×Str))(wi:TI)(g:TG)(tt:TT)(te:TE):TE:=fun σ H Q=>wi σ H fun J H1=>ic J g tt te (fun ys H'=>∀D,H' D=none->Q (.ref D) (ab H' D (.lst ys))) (fj n aB σ) H1
noncomputable def vH(n:Nat)(aB:List (Nat×Str))(wi:TI)(g:TG)(tt:TT)(wi1:TI)(g1:TG)(tt1:TT)(te:TE):TE:=fun σ H Q=>wi σ H fun J H1=>nJ J g tt wi1 g1 tt1 te (fun ys H'=>∀D,H' D=none->Q (.ref D) (ab H' D (.lst ys))) (fj n aB σ) H1
noncomputable def C9(n:Nat)(aB:List (Nat×Str))(wi:TI)(g:TG)(tt:TT)(wi1:TI)(g1:TG)(tt1:TT)(wi2:TI)(g2:TG)(tt2:TT)(te:TE):TE:=fun σ H Q=>wi σ H fun J H1=>jd g tt wi1 (jd g1 tt1 wi2 (jc g2 tt2 te)) J (fun ys _ H'=>∀D,H' D=none->Q (.ref D) (ab H' D (.lst ys))) [] (fj n aB σ) H1
theorem pP{prog:Program}{w:World}{A:Around}{R:Result->Shared->Prop}{s:Shared}{bD t i:Expr}{f:List Expr}{gens:List Comprehension}{k:Nat}{scope:Scope}{pos:Pos}{it acc:Value}{env:Env}(hk:gens[k]?=some ⟨t,i,f,0⟩)
  (h0:codeAny (model prog w) A (.compLoop (.ListComp bD gens scope pos) k it acc env) R s)
  (h:wpAny (model prog w) A (pyIter it) (fun it' s'=>codeAny (model prog w) A (.compLoop (.ListComp bD gens scope pos) k it' acc env) R s') (notedBy (model prog w) A env fun x s'=>R (.error x) s') s):
  codeAny (model prog w) A (.compStart (.ListComp bD gens scope pos) k it acc env) R s:=by
 refine A4 ?_
 show wpAny _ _ ((compStart (.ListComp bD gens scope pos) k it acc env).onRaise _) _ _ s
 refine wpAny_notedAt ?_
 unfold compStart
 have e:(clausesOf (.ListComp bD gens scope pos))[k]?=some ⟨t,i,f,0⟩:=hk
 rw[e]
 show wpAny _ _ (ask >>=_) _ _ s
 refine aa (oF (gw ?_))
 split
 ·first|exact aa (ao (ao ⟨rfl,h0⟩))|exact ao ⟨rfl,h0⟩
 ·refine aa (i9 ?_)
  show wpAny _ _ (standAt i.pos >>=_) _ _ s
  exact aa (kz (aa (cV h (fun it' s' h'=>ao ⟨rfl,h'⟩) fun _ _ z=>z)))
section
variable{X:Cx}{a8:List (Addr×Obj)}{σ:St}{scope:Scope}{own:List Str}{aB:List (Nat×Str)}{bD tg iter t1 i1 t2 i2:Expr}{ifs f1 f2:List Expr}{pos:Pos}{wi wi1 wi2:TI}{g g1 g2:TG}{tt tt1 tt2:TT}{te:TE}{more:List Comprehension}{body:It->(List V->St->Hp->Prop)->List V->St->Hp->Prop}
abbrev rW(X:Cx)(own:List Str)(aB:List (Nat×Str))(scope:Scope)(tg e:Expr)(body:It->(List V->St->Hp->Prop)->List V->St->Hp->Prop):Prop:=cf X own aB scope fun Y=>∀D,pN Y->(∀{H':Hp},H' D=none->cJ Y [] H' D)->pO Y D e 0 tg body
theorem vI(hc:X.calm=true)(S:bE X.N X.env.scope scope own aB)(hi:PI X tg iter wi)(hrun:rW X own aB scope tg (.ListComp bD (⟨tg,iter,ifs,0⟩::more) scope pos) body)
  (hs:∀x,foldedSetIterable iter X.env x=pure x):PE X (.ListComp bD (⟨tg,iter,ifs,0⟩::more) scope pos) (C8 own.length aB wi body):=by
 intro a8 s σ H Q I h
 rw[eval_ListComp]
 refine G0 (use:=none) rfl hs (vD (I.clos_cells S)) S.kind S.locs (aD (hi a8 s σ H _ I h) fun v s1 h1=>aD h1 fun itv s2 h2=>?_)
 obtain⟨it,fp,tn,J,H2,e,I2,T,st2,f2,turns⟩:=h2
 subst e
 refine C6 (RR:=fun acc C=>compPost (model X.prog X.w) X.A X.xe none (EP X a8 σ Q) acc C) hc S I2 T st2 f2 hrun turns ?_ (pP rfl)
 intro D C s' H' ys ak m hD hC hDC Io nD nC oD nsC rv bI fin
 refine⟨m,nsC,fun h' hs'=>?_⟩
 have J1:ah X a8 σ H' {s' with heap:=h',toks:=s'.toks}:=Io.chg (ch:=[C]) (fun b hb=>by
  have e:b=C:=by simpa using hb
  rw[e];exact I2.fpOk hC nC) fun b o hb e=>hs'.extBut _ _ (by simpa using hb) e
 have J2:=J1.track (o:=.lst ys) (I2.fpOk hD nD) ⟨bI,ak,_,rv,hs'.extBut _ _ hDC oD⟩
 exact⟨.ref D,_,J2,rfl,fin D nD⟩
theorem Ca{iy:Nat}{y:Str}{py spos:Pos}(hc:X.calm=true)(hN:X.N.Nodup)(hi':X.N[iy]?=some y)(hy:X.env.scope.names.lookup y=some .local)(S:bE X.N X.env.scope scope own aB)(hi:PI X tg iter wi)(hrun:rW X own aB scope tg (.ListComp bD (⟨tg,iter,ifs,0⟩::more) scope pos) body)
  (hsw:swapsWith (.ListComp bD (⟨tg,iter,ifs,0⟩::more) scope pos) (some (.Name y py)) spos.line X.env=pure true)
  (hs:∀x,foldedSetIterable iter X.env x=pure x):PS X (.Assign [.Name y py] (.ListComp bD (⟨tg,iter,ifs,0⟩::more) scope pos) spos) (ni (C8 own.length aB wi body) (dH iy)):=by
 intro a8 s σ H D I h
 rw[exec_Assign_Name_used _ _ _ _ hsw]
 refine aa (kz (aa ?_))
 show wpAny _ _ (do let _<-comprehension (.ListComp bD (⟨tg,iter,ifs,0⟩::more) scope pos) scope X.env _ (newList []) false (eval iter X.env) (some (assign (.Name y py) X.env))) _ _ s
 refine aa (cV (G0 (use:=some (assign (.Name y py) X.env)) (Q:=fun _ s'=>SP X a8 D .next s') rfl hs (vD (I.clos_cells S)) S.kind S.locs
  (aD (hi a8 s σ H _ I h) fun v s1 h1=>aD h1 fun itv s2 h2=>?_)) (fun _ s' hq=>ao (ao hq)) fun _ _ e=>e)
 obtain⟨it,fp,tn,J,H2,e,I2,T,st2,f2,turns⟩:=h2
 subst e
 refine C6 (RR:=fun acc C=>compPost (model X.prog X.w) X.A X.xe (some (assign (.Name y py) X.env)) (fun _ s'=>SP X a8 D .next s') acc C) hc S I2 T st2 f2 hrun turns ?_ (pP rfl)
 intro D' C s' H' ys ak m hD hC hDC Io nD nC oD nsC rv bI fin
 have J2:=Io.track (o:=.lst ys) (I2.fpOk hD nD) ⟨bI,ak,_,rv,oD⟩
 have fC:cJ X a8 (ab H' D' (.lst ys)) C:=I2.fpOk hC (by rw[az (Ne.symm hDC)];exact nC)
 show wpAny _ _ (assign (.Name y py) X.env (.ref D')) _ _ _
 refine wpAny_assign_Name (AO (v:=.ref D') J2 hN hi' (.inl hy) rfl (fun s5 I5 ⟨a,sb,ha⟩=>?_) (.inr hy))
 have hCa:C≠a:=by
  rcases ha with z|z
  ·rw[z];exact fC.2.1
  ·exact Ne.symm (fC.2.2.2.2.1 _ _ z)
 refine⟨m,nsC.sameBut sb hCa,fun h' hs'=>?_⟩
 have J3:ah X a8 (σ.set iy (some (.ref D'))) (ab H' D' (.lst ys)) {s5 with heap:=h',toks:=s5.toks}:=I5.chg (ch:=[C]) (fun b hb=>by
  have e:b=C:=by simpa using hb
  rw[e];exact fC) fun b o hb e=>hs'.extBut _ _ (by simpa using hb) e
 exact⟨_,_,J3,fin D' nD⟩
theorem Cb(hg:cf X own aB scope fun Y=>PG Y tg g)(ht:cf X own aB scope fun Y=>fT Y ifs tt)(he:cf X own aB scope fun Y=>PE Y bD te):rW X own aB scope tg (.ListComp bD [⟨tg,iter,ifs,0⟩] scope pos) (jc g tt te):=fun _ _ _ _ _ _ cx sd=>vE (i0:=iter) cx sd (fun _ _ _=>rfl) (hg _ _ _ _ _) (ht _ _ _ _ _) (he _ _ _ _ _)
theorem Cc(hg:cf X own aB scope fun Y=>PG Y tg g)(ht:cf X own aB scope fun Y=>fT Y ifs tt)(he:cf X own aB scope fun Y=>PE Y bD te)(hi1:cf X own aB scope fun Y=>PI Y t1 i1 wi1)(hg1:cf X own aB scope fun Y=>PG Y t1 g1)(ht1:cf X own aB scope fun Y=>fT Y f1 tt1)
  (hs1:∀cl C x,foldedSetIterable i1 (compEnvC scope cl C X.env) x=pure x):rW X own aB scope tg (.ListComp bD [⟨tg,iter,ifs,0⟩,⟨t1,i1,f1,0⟩] scope pos) (jd g tt wi1 (jc g1 tt1 te)):=fun _ _ _ _ _ _ cx sd=>
 vF (i0:=iter) (i1:=i1) (fs:=ifs) cx (fun _ _ _=>rfl) (pP rfl) (hg _ _ _ _ _) (ht _ _ _ _ _) (hi1 _ _ _ _ _) (hs1 _ _) (vE (i0:=i1) cx sd (fun _ _ _=>rfl) (hg1 _ _ _ _ _) (ht1 _ _ _ _ _) (he _ _ _ _ _))
theorem eL(hc:X.calm=true)(S:bE X.N X.env.scope scope own aB)(hi:PI X tg iter wi)(hg:cf X own aB scope fun Y=>PG Y tg g)(ht:cf X own aB scope fun Y=>fT Y ifs tt)(he:cf X own aB scope fun Y=>PE Y bD te)
  (hs:∀x,foldedSetIterable iter X.env x=pure x:=by intro _;rfl):PE X (.ListComp bD [⟨tg,iter,ifs,0⟩] scope pos) (vG own.length aB wi g tt te):=vI hc S hi (Cb hg ht he) hs
theorem kR{iy:Nat}{y:Str}{py spos:Pos}(hc:X.calm=true)(hN:X.N.Nodup)(hi':X.N[iy]?=some y)(hy:X.env.scope.names.lookup y=some .local)(S:bE X.N X.env.scope scope own aB)(hi:PI X tg iter wi)(hg:cf X own aB scope fun Y=>PG Y tg g)(ht:cf X own aB scope fun Y=>fT Y ifs tt)(he:cf X own aB scope fun Y=>PE Y bD te)
  (hsw:swapsWith (.ListComp bD [⟨tg,iter,ifs,0⟩] scope pos) (some (.Name y py)) spos.line X.env=pure true)
  (hs:∀x,foldedSetIterable iter X.env x=pure x:=by intro _;rfl):PS X (.Assign [.Name y py] (.ListComp bD [⟨tg,iter,ifs,0⟩] scope pos) spos) (ni (vG own.length aB wi g tt te) (dH iy)):=Ca hc hN hi' hy S hi (Cb hg ht he) hsw hs
theorem pQ(hc:X.calm=true)(S:bE X.N X.env.scope scope own aB)(hi:PI X tg iter wi)(hg:cf X own aB scope fun Y=>PG Y tg g)(ht:cf X own aB scope fun Y=>fT Y ifs tt)(he:cf X own aB scope fun Y=>PE Y bD te)(hi1:cf X own aB scope fun Y=>PI Y t1 i1 wi1)(hg1:cf X own aB scope fun Y=>PG Y t1 g1)(ht1:cf X own aB scope fun Y=>fT Y f1 tt1)
  (hs:∀x,foldedSetIterable iter X.env x=pure x:=by intro _;rfl) (hs1:∀cl C x,foldedSetIterable i1 (compEnvC scope cl C X.env) x=pure x:=by intro _ _ _;rfl):PE X (.ListComp bD [⟨tg,iter,ifs,0⟩,⟨t1,i1,f1,0⟩] scope pos) (vH own.length aB wi g tt wi1 g1 tt1 te):=vI hc S hi (Cc hg ht he hi1 hg1 ht1 hs1) hs
theorem Ik{iy:Nat}{y:Str}{py spos:Pos}(hc:X.calm=true)(hN:X.N.Nodup)(hi':X.N[iy]?=some y)(hy:X.env.scope.names.lookup y=some .local)(S:bE X.N X.env.scope scope own aB)(hi:PI X tg iter wi)(hg:cf X own aB scope fun Y=>PG Y tg g)(ht:cf X own aB scope fun Y=>fT Y ifs tt)(he:cf X own aB scope fun Y=>PE Y bD te)(hi1:cf X own aB scope fun Y=>PI Y t1 i1 wi1)(hg1:cf X own aB scope fun Y=>PG Y t1 g1)(ht1:cf X own aB scope fun Y=>fT Y f1 tt1)
  (hsw:swapsWith (.ListComp bD [⟨tg,iter,ifs,0⟩,⟨t1,i1,f1,0⟩] scope pos) (some (.Name y py)) spos.line X.env=pure true)
  (hs:∀x,foldedSetIterable iter X.env x=pure x:=by intro _;rfl) (hs1:∀cl C x,foldedSetIterable i1 (compEnvC scope cl C X.env) x=pure x:=by intro _ _ _;rfl):PS X (.Assign [.Name y py] (.ListComp bD [⟨tg,iter,ifs,0⟩,⟨t1,i1,f1,0⟩] scope pos) spos) (ni (vH own.length aB wi g tt wi1 g1 tt1 te) (dH iy)):=Ca hc hN hi' hy S hi (Cc hg ht he hi1 hg1 ht1 hs1) hsw hs
theorem Il(hc:X.calm=true)(S:bE X.N X.env.scope scope own aB)(hi:PI X tg iter wi)(hg:cf X own aB scope fun Y=>PG Y tg g)(ht:cf X own aB scope fun Y=>fT Y ifs tt)(he:cf X own aB scope fun Y=>PE Y bD te)(hi1:cf X own aB scope fun Y=>PI Y t1 i1 wi1)(hg1:cf X own aB scope fun Y=>PG Y t1 g1)(ht1:cf X own aB scope fun Y=>fT Y f1 tt1)
  (hi2:cf X own aB scope fun Y=>PI Y t2 i2 wi2) (hg2:cf X own aB scope fun Y=>PG Y t2 g2) (ht2:cf X own aB scope fun Y=>fT Y f2 tt2)
  (hs:∀x,foldedSetIterable iter X.env x=pure x:=by intro _;rfl) (hs1:∀cl C x,foldedSetIterable i1 (compEnvC scope cl C X.env) x=pure x:=by intro _ _ _;rfl) (hs2:∀cl C x,foldedSetIterable i2 (compEnvC scope cl C X.env) x=pure x:=by intro _ _ _;rfl):PE X (.ListComp bD [⟨tg,iter,ifs,0⟩,⟨t1,i1,f1,0⟩,⟨t2,i2,f2,0⟩] scope pos) (C9 own.length aB wi g tt wi1 g1 tt1 wi2 g2 tt2 te):=
 vI (body:=jd g tt wi1 (jd g1 tt1 wi2 (jc g2 tt2 te))) hc S hi (fun _ _ _ _ _ _ cx sd=>vF (i0:=iter) (i1:=i1) (fs:=ifs) cx (fun _ _ _=>rfl) (pP rfl) (hg _ _ _ _ _) (ht _ _ _ _ _) (hi1 _ _ _ _ _) (hs1 _ _) (vF (i0:=i1) (i1:=i2) (fs:=f1) cx (fun _ _ _=>rfl) (pP rfl) (hg1 _ _ _ _ _) (ht1 _ _ _ _ _) (hi2 _ _ _ _ _) (hs2 _ _) (vE (i0:=i2) cx sd (fun _ _ _=>rfl) (hg2 _ _ _ _ _) (ht2 _ _ _ _ _) (he _ _ _ _ _)))) hs
end
theorem Im{σ:St}{H:Hp}{Q:VK}{n:Nat}{aB:List (Nat×Str)}{wi:TI}{g:TG}{tt:TT}{wi1:TI}{g1:TG}{tt1:TT}{wi2:TI}{g2:TG}{tt2:TT}{te:TE}(q:wi σ H fun J H1=>jd g tt wi1 (jd g1 tt1 wi2 (jc g2 tt2 te)) J (fun ys _ H'=>∀D,H' D=none->Q (.ref D) (ab H' D (.lst ys))) [] (fj n aB σ) H1):C9 n aB wi g tt wi1 g1 tt1 wi2 g2 tt2 te σ H Q:=q
theorem Ip{σ:St}{H:Hp}{Q:VK}{n:Nat}{aB:List (Nat×Str)}{wi:TI}{g:TG}{tt:TT}{wi1:TI}{g1:TG}{tt1:TT}{te:TE}(q:wi σ H fun J H1=>nJ J g tt wi1 g1 tt1 te (fun ys H'=>∀D,H' D=none->Q (.ref D) (ab H' D (.lst ys))) (fj n aB σ) H1):vH n aB wi g tt wi1 g1 tt1 te σ H Q:=q
section
variable{σ:St}{H:Hp}{J:It}{g:TG}{tt:TT}{te:TE}{wi:TI}{inner:It->(List V->St->Hp->Prop)->List V->St->Hp->Prop}{Fin:List V->St->Hp->Prop}{ys0:List V}
theorem Iq(W:Nat->List V->St->Hp->Prop)(n:Nat)(w0:W 0 ys0 σ H)(fin:∀ys σ' H',W n ys σ' H'->J.stop n H'/\Fin ys σ' H')
  (step:∀i ys σ' H',i<n->W i ys σ' H'->J.go i H'/\ys.length<sizeLine/\∀x H2,J.yld i H' x H2->g x σ' H2 fun σ3 H3=>tt σ3 H3 fun b H4=>if b=true then te σ3 H4 fun y H5=>∃m',m'<n - i/\(i+1<=n/\m'=n - (i+1)/\W (i+1) (ys++[y]) σ3 H5)else ∃m',m'<n - i/\(i+1<=n/\m'=n - (i+1)/\W (i+1) ys σ3 H4)):jc g tt te J Fin ys0 σ H:=by
 refine⟨fun i m ys σ' H'=>i<=n/\m=n - i/\W i ys σ' H',⟨n,b_ _,rfl,w0⟩,?_⟩
 rintro i m ys σ' H' ⟨hi,rfl,hw⟩
 rcases dh i n with hlt|hge
 ·right
  exact step i ys σ' H' hlt hw
 ·left
  obtain rfl:i=n:=by omega
  exact fin _ _ _ hw
theorem Cd(W:Nat->List V->St->Hp->Prop)(n:Nat)(w0:W 0 ys0 σ H)(fin:∀ys σ' H',W n ys σ' H'->J.stop n H'/\Fin ys σ' H')
  (step:∀i ys σ' H',i<n->W i ys σ' H'->J.go i H'/\∀x H2,J.yld i H' x H2->g x σ' H2 fun σ3 H3=>tt σ3 H3 fun b H4=>if b=true then wi σ3 H4 fun J1 H5=>inner J1 (fun ys' σ5 H6=>∃m',m'<n - i/\(i+1<=n/\m'=n - (i+1)/\W (i+1) ys' σ5 H6)) ys σ3 H5 else ∃m',m'<n - i/\(i+1<=n/\m'=n - (i+1)/\W (i+1) ys σ3 H4)):jd g tt wi inner J Fin ys0 σ H:=by
 refine⟨fun i m ys σ' H'=>i<=n/\m=n - i/\W i ys σ' H',⟨n,b_ _,rfl,w0⟩,?_⟩
 rintro i m ys σ' H' ⟨hi,rfl,hw⟩
 rcases dh i n with hlt|hge
 ·right
  exact step i ys σ' H' hlt hw
 ·left
  obtain rfl:i=n:=by omega
  exact fin _ _ _ hw
end
section
variable{σ:St}{H:Hp}
theorem vJ{J1:It}{g1:TG}{tt1:TT}{te:TE}{Fin:List V->St->Hp->Prop}{ys0:List V}(W:Nat->List V->St->Hp->Prop)(n:Nat)(w0:W 0 ys0 σ H)(fin:∀ys σ' H',W n ys σ' H'->J1.stop n H'/\Fin ys σ' H')
  (step:∀i ys σ' H',i<n->W i ys σ' H'->J1.go i H'/\ys.length<sizeLine/\∀x H2,J1.yld i H' x H2->g1 x σ' H2 fun σ3 H3=>tt1 σ3 H3 fun b H4=>if b=true then te σ3 H4 fun y H5=>∃m',m'<n - i/\(i+1<=n/\m'=n - (i+1)/\W (i+1) (ys++[y]) σ3 H5)else ∃m',m'<n - i/\(i+1<=n/\m'=n - (i+1)/\W (i+1) ys σ3 H4)):C7 J1 g1 tt1 te Fin ys0 σ H:=by
 refine⟨fun i m ys σ' H'=>i<=n/\m=n - i/\W i ys σ' H',⟨n,b_ _,rfl,w0⟩,?_⟩
 rintro i m ys σ' H' ⟨hi,rfl,hw⟩
 rcases dh i n with hlt|hge
 ·right
  exact step i ys σ' H' hlt hw
 ·left
  obtain rfl:i=n:=by omega
  exact fin _ _ _ hw
theorem vK{J:It}{g:TG}{tt:TT}{wi1:TI}{g1:TG}{tt1:TT}{te:TE}{Fin:List V->Hp->Prop}(W:Nat->List V->St->Hp->Prop)(n:Nat)(w0:W 0 [] σ H)(fin:∀ys σ' H',W n ys σ' H'->J.stop n H'/\Fin ys H')
  (step:∀i ys σ' H',i<n->W i ys σ' H'->J.go i H'/\∀x H2,J.yld i H' x H2->g x σ' H2 fun σ3 H3=>tt σ3 H3 fun b H4=>if b=true then wi1 σ3 H4 fun J1 H5=>C7 J1 g1 tt1 te (fun ys' σ5 H6=>∃m',m'<n - i/\(i+1<=n/\m'=n - (i+1)/\W (i+1) ys' σ5 H6)) ys σ3 H5 else ∃m',m'<n - i/\(i+1<=n/\m'=n - (i+1)/\W (i+1) ys σ3 H4)):nJ J g tt wi1 g1 tt1 te Fin σ H:=by
 refine⟨fun i m ys σ' H'=>i<=n/\m=n - i/\W i ys σ' H',⟨n,b_ _,rfl,w0⟩,?_⟩
 rintro i m ys σ' H' ⟨hi,rfl,hw⟩
 rcases dh i n with hlt|hge
 ·right
  exact step i ys σ' H' hlt hw
 ·left
  obtain rfl:i=n:=by omega
  exact fin _ _ _ hw
end
noncomputable def Ir:TS:=fun _ _ _=>False
theorem je{X:Cx}{st:Stmt}:PS X st Ir:=fun _ _ _ _ _ _ h=>h.elim
noncomputable def vL(t T:String):Bool:=t==T||(t=="bool" && T=="int")
noncomputable def vM:List String:=["NoneType","bool","int","str","list","tuple","dict"]
theorem Iu(K:W.Frag):∀t∈vM,∀T∈["bool","int","str","list","tuple","dict"],W.kitOne K (.type t) (.type T)=some (vL t T):=by
 intro t ht T hT
 simp only[vM,cE,dk,eO]at ht hT
 rcases ht with rfl|rfl|rfl|rfl|rfl|rfl|rfl<;>rcases hT with rfl|rfl|rfl|rfl|rfl|rfl<;>first|rfl|kernel_rfl
noncomputable def pR(K:W.Frag)(H:Hp)(x:V)(t:String):Prop:=ib K H x (.type t)/\t∈vM
section
variable{X:Cx}{a8:List (Addr×Obj)}{σ:St}{H:Hp}{s:Shared}{A:Around}{E:Value->Shared->Prop}{Q:Value->Shared->Prop}
end
section
variable{X:Cx}
noncomputable def vN(K:W.Frag):List V->Hp->VK->Prop:=fun xs H Q=>∃x T t,xs=[x,.ty T]/\pR K H x t/\T∈["bool","int","str","list","tuple","dict"]/\Q (.bl (vL t T)) H
theorem Iw:cO X (.builtin "isinstance") (vN X.K):=by
 intro a8 s σ H xs us Q I r h
 obtain⟨x,T,t,rfl,k,hT,q⟩:=h
 obtain⟨u1,u2,rfl,r1,r2⟩:=pD r
 cases(show u2=Value.type T from r2)
 exact Hk I r1 k.1 (Iu X.K t k.2 T hT) fun tk=>⟨.bl _,H,I.tok _,rfl,q⟩
noncomputable def vO(K:W.Frag):List V->Hp->VK->Prop:=fun xs H Q=>∃(p:Addr) (bs:List Bool),xs=[.ref p]/\ai K H p (bs.map V.bl)/\Q (.bl (bs.all id)) H
theorem Ce:∀{bs:List Bool} {us:List Value},aP (bs.map V.bl) us->us=bs.map Value.bool
 |[],_,.nil=>rfl
 |T::r,_,.cons h t=>by
  have e:=Ce (bs:=r) t
  cases(show _=Value.bool T from h)
  rw[e];rfl
theorem Iy(bs:List Bool):(List.range bs.length).all (fun i=>bs.getD i true)=bs.all id:=by
 induction bs with
 |nil=>rfl
 |cons b r ih=>
  rw[cM,List.range_succ_eq_map,qY,r8,qY]
  show(b && (List.range r.length).all _)=_
  rw[<-ih];rfl
theorem Iz(hc:X.calm=true):cO X (.builtin "all") (vO X.K):=by
 intro a8 s σ H xs us Q I r h
 obtain⟨p,bs,rfl,hp,q⟩:=h
 obtain⟨u1,rfl,r1⟩:=fQ r
 cases(show u1=Value.ref p from r1)
 obtain⟨ak,rv,pl,hz⟩:=I.list hp
 have e:=Ce rv
 subst e
 have hlt:p<s.heap.objs.size:=by obtain⟨_,e,_⟩:=pl.isList;exact bg e
 refine call_all_walk (uG pl.isList ?_)
 refine⟨s.heap.objs.size,_,_,_,_,_,fun i=>bs.getD i true,rfl,Walks.list (A:=X.A.in1) (show X.A.in1.handled=none from I.ok.hd hc) _ p (bP hlt) (bs.map Value.bool).toArray,⟨⟨_,bV _ rfl,rfl,rfl⟩,pl.isList.push _⟩,?_,fun h' tk hk=>?_⟩
 ·intro i v A' Q' E' hv hq
  have hv':(bs.map Value.bool)[i]?=some v:=by simpa using hv
  rw[aI]at hv'
  cases e:bs[i]? with
  |none=>rw[e]at hv';cases hv'
  |some b=>
   rw[e]at hv'
   cases hv'
   refine j8 ?_
   have:bs.getD i true=b:=by rw[kg,e];rfl
   replace hq:Q' (bs.getD i true) A':=hq
   rw[this]at hq
   exact hq
 ·have e:(List.range (bs.map Value.bool).toArray.size).all (fun i=>bs.getD i true)=bs.all id:=by
   rw[ck,ar]
   exact Iy bs
  rw[e]
  refine⟨.bl _,H,I.kept (t':=tk) fun b o e=>hk b o (fun z=>?_) (aW _ e),rfl,q⟩
  have z':b=s.heap.objs.size:=by simpa using z
  exact absurd (bg e) (by rw[z'];exact jA _)
end
noncomputable def aY(P:Program)(w:World)(K:W.Frag)(mg:Str->Option Value)(base:Heap)(x:Str)(k:Nat)(ps:List Str)(sp:Sp):Prop:=
 ∃(f:Addr) (fd:FuncData),aK P w K mg base aV k f fd ps sp/\mg x=some (.ref f)/\W.keepIn K (.ref f)=true/\fS K fd ps []
section
variable{X:Cx}{k:Nat}{ps:List Str}{sp:Sp}{x:Str}{p pos:Pos}{e:Expr}{es:List Expr}{t:TA}{st:Stmt}{dS:List Stmt}{t1 u1:TS}
theorem IA(c:aY X.prog X.w X.K X.mg X.base x k ps sp)(hr:cw k X.A)(hg:Gl X x)(ha:PA X (e::es) t)(hdb:(x==("__debug__":Str))=false:=by decide)(he:starEach (e::es) X.env=(false,eval e X.env)::starEach es X.env:=by rfl)(hpl:(backTo pos (starEach es X.env)).any (·.1)=false:=by rfl):
  PE X (.Call (.Name x p) (e::es) [] pos) (rN sp [] E0 t):=by
 obtain⟨f,fd,F,hm,hk,hb⟩:=c
 exact Hn F hr hg hm hk hb .nil nH ha hdb he hpl
noncomputable def IB(t u:TS):TS:=fun D σ H=>∃mid:St->Hp->Prop,t {D with nx:=mid} σ H/\∀σ' H',mid σ' H'->u D σ' H'
theorem ie(h1:PS X st t1)(h2:gz X dS u1):gz X (st::dS) (IB t1 u1):=by
 intro a8 s σ H D I h
 obtain⟨mid,h,hm⟩:=h
 refine wpAny_execs_cons (aD (h1 a8 s σ H {D with nx:=mid} I h) fun f s1 q=>?_)
 cases f with
 |next=>
  obtain⟨σ',H',I',q⟩:=q
  exact h2 a8 s1 σ' H' D I' (hm _ _ q)
 |ret v=>exact q
 |brk=>exact q
 |cont=>exact q
end
set_option genInjectivity false in
inductive Dt where
 |int (i:Int)|bl (b:Bool)|str (x:Str)|non|lst (xs:List Dt)|tup (xs:List Dt)
mutual
inductive cK(H:Hp):V->Dt->Prop where
 |int (i:Int):cK H (.int i) (.int i)
 |bl (b:Bool):cK H (.bl b) (.bl b)
 |str (x:Str):cK H (.str x) (.str x)
 |non:cK H .non .non
 |lst {a:Addr} {vs:List V} {ds:List Dt}:H a=some (.lst vs)->bS H vs ds->cK H (.ref a) (.lst ds)
 |tup {a:Addr} {vs:List V} {ds:List Dt}:H a=some (.tup vs)->bS H vs ds->cK H (.ref a) (.tup ds)
inductive bS(H:Hp):List V->List Dt->Prop where
 |nil:bS H [] []
 |cons {v:V} {d:Dt} {vs:List V} {ds:List Dt}:cK H v d->bS H vs ds->bS H (v::vs) (d::ds)
end
theorem bS.length{H:Hp}:∀{vs:List V} {ds:List Dt},bS H vs ds->vs.length=ds.length
 |_,_,.nil=>rfl
 |_,_,.cons _ t=>by rw[cM,cM,bS.length t]
theorem bS.get{H:Hp}:∀{vs:List V} {ds:List Dt} {i:Nat} {v:V},bS H vs ds->vs[i]?=some v->∃d,ds[i]?=some d/\cK H v d
 |_,_,_,_,.nil,e=>by simp at e
 |_,_,0,_,.cons r _,e=>by simp at e;subst e;exact⟨_,rfl,r⟩
 |_,_,i+1,v,.cons _ t,e=>by
  obtain⟨d,h1,h2⟩:=bS.get (i:=i) (v:=v) t (by simpa using e)
  exact⟨d,by simpa using h1,h2⟩
theorem cK.mono{H H':Hp}(s:aw H H'){v:V}{d:Dt}(h:cK H v d):cK H' v d:=
 cK.rec (motive_1:=fun v d _=>cK H' v d) (motive_2:=fun vs ds _=>bS H' vs ds) (fun i=>.int i) (fun b=>.bl b) (fun x=>.str x) .non (fun e _ ih=>.lst (s _ _ e) ih) (fun e _ ih=>.tup (s _ _ e) ih) .nil (fun _ _ ih1 ih2=>.cons ih1 ih2) h
theorem bS.mono{H H':Hp}(s:aw H H'):∀{vs:List V} {ds:List Dt},bS H vs ds->bS H' vs ds
 |_,_,.nil=>.nil
 |_,_,.cons r t=>.cons (cK.mono s r) (bS.mono s t)
mutual
noncomputable def Dt.depth:Dt->Nat
 |.lst xs=>kT xs+1
 |.tup xs=>kT xs+1
 |_=>0
noncomputable def kT:List Dt->Nat
 |[]=>0
 |d::r=>max d.depth (kT r)
end
theorem pS:∀{ds:List Dt} {i:Nat} {d:Dt},ds[i]?=some d->d.depth<=kT ds
 |[],_,_,e=>by simp at e
 |x::r,0,d,e=>by simp at e;subst e;exact Nat.le_max_left _ _
 |x::r,i+1,d,e=>cN (pS (ds:=r) (i:=i) (by simpa using e)) (Nat.le_max_right _ _)
theorem cB:bootBuiltins "len"=some (.builtin "len"):=by decide+kernel
theorem vP:bootBuiltins "abs"=some (.builtin "abs"):=by decide+kernel
theorem iW:bootBuiltins "all"=some (.builtin "all"):=by decide+kernel
theorem rX:bootBuiltins "isinstance"=some (.builtin "isinstance"):=by decide+kernel
theorem pT:bootBuiltins "sorted"=some (.builtin "sorted"):=by decide+kernel
theorem mh:bootBuiltins "list"=some (.type "list"):=by decide+kernel
theorem mi:bootBuiltins "tuple"=some (.type "tuple"):=by decide+kernel
theorem IC:bootBuiltins "bool"=some (.type "bool"):=by decide+kernel
theorem Cf:bootBuiltins "int"=some (.type "int"):=by decide+kernel
theorem jQ:bootBuiltins "set"=some (.type "set"):=by decide+kernel
structure Blt(mg:Str->Option Value):Prop where
 z_len:mg "len"=none
 z_abs:mg "abs"=none
 z_all:mg "all"=none
 z_isinstance:mg "isinstance"=none
 z_zip:mg "zip"=none
 z_list:mg "list"=none
 z_tuple:mg "tuple"=none
 z_bool:mg "bool"=none
 z_int:mg "int"=none
 z_str:mg "str"=none
 z_range:mg "range"=none
 z_sorted:mg "sorted"=none
 z_set:mg "set"=none
theorem au{H:Hp}{p:Addr}{o:HO}(h:H p=none):aw H (ab H p o):=fun b u e=>by rw[az (bh e h)];exact e
noncomputable def cI(d:Addr)(H H':Hp):Prop:=∀b o,b≠d->H b=some o->H' b=some o
theorem cI.refl{d:Addr}{H:Hp}:cI d H H:=fun _ _ _ e=>e
theorem cI.trans{d:Addr}{H H1 H2:Hp}(a:cI d H H1)(b:cI d H1 H2):cI d H H2:=fun c o n e=>b c o n (a c o n e)
theorem aw.but{d:Addr}{H H':Hp}(a:aw H H'):cI d H H':=fun c o _ e=>a c o e
theorem hW{d:Addr}{H:Hp}{o:HO}:cI d H (ab H d o):=fun b u n e=>by rw[az n];exact e
theorem Cg{H:Hp}{c d:Addr}{ns:List Int}{a:Nat}{r e:Int}(h1:H d=some (.lst [.ref c,.int a,.int r,.int e]))(h2:H c=some (.lst (ns.map V.int))):c≠d:=by
 intro z
 subst z
 rw[h1]at h2
 have q:=cm h2
 injection q with q
 cases ns with
 |nil=>cases q
 |cons n r=>injection q with q _;cases q
section
variable{σ:St}{H:Hp}{Q:VK}{R:Bool->Hp->Prop}{D:gY}{K:W.Frag}
theorem du{i:Nat}{v:V}(h:σ[i]?=some (some v))(q:Q v H):dq i σ H Q:=⟨v,h,q⟩
theorem gE{v:V}(q:Q v H):tC v σ H Q:=q
theorem vQ{r:R2}{ta tb:TE}(q:ta σ H fun x H1=>tb σ H1 fun y H2=>r x y H2 Q):kJ r ta tb σ H Q:=q
theorem ID{r:V->Hp->VK->Prop}{ta:TE}(q:ta σ H fun x H1=>r x H1 Q):Bn r ta σ H Q:=q
theorem nK{g:Int->Int->V}{i j:Int}(q:Q (g i j) H):iD g (.int i) (.int j) H Q:=⟨i,j,rfl,rfl,q⟩
theorem rY{C:Int->Int->Prop}{g:Int->Int->V}{i j:Int}(c:C i j)(q:Q (g i j) H):rI C g (.int i) (.int j) H Q:=⟨i,j,rfl,rfl,c,q⟩
theorem IE{g:Int->V}{i:Int}(q:Q (g i) H):rU g (.int i) H Q:=⟨i,rfl,q⟩
theorem IF{x y:V}(s:rF x y=true)(q:Q (.bl (decide (x=y))) H):Br x y H Q:=⟨s,q⟩
theorem IG{x y:V}(s:rF x y=true)(q:Q (.bl (!decide (x=y))) H):v8 x y H Q:=⟨s,q⟩
theorem IH{t:TE}(q:t σ H fun x H'=>∃k,x=.bl k/\R k H'):pB t σ H R:=q
theorem Ci{t:TE}(q:t σ H fun x H'=>∃k,x=.bl k/\R k H'):tB t σ H R:=q
theorem pU{k:Bool}{P:Bool->Prop}(q:P k):∃k',V.bl k=.bl k'/\P k':=⟨k,rfl,q⟩
theorem II{t u:TT}(q:t σ H fun c H1=>if c=true then u σ H1 R else R false H1):AV t u σ H R:=q
theorem IJ{t u:TT}(q:t σ H fun c H1=>if c=true then R true H1 else u σ H1 R):AW t u σ H R:=q
theorem IK{t:TT}(q:t σ H fun c H1=>R (!c) H1):AX t σ H R:=q
theorem Cj{ta tb:TE}(q:ta σ H fun x H1=>∃c,x=.bl c/\if c=true then tb σ H1 Q else Q (.bl false) H1):A_ ta tb σ H Q:=q
theorem IL{ta tb:TE}(q:ta σ H fun x H1=>∃c,x=.bl c/\if c=true then Q (.bl true) H1 else tb σ H1 Q):B0 ta tb σ H Q:=q
theorem IM{ta:TE}(q:ta σ H fun x H1=>∃c,x=.bl c/\Q (.bl (!c)) H1):B1 ta σ H Q:=q
theorem IP{ta:TE}(q:ta σ H fun x H1=>Q (.bl (decide (x=.non))) H1):AR ta σ H Q:=q
theorem IQ{ta:TE}(q:ta σ H fun x H1=>Q (.bl (!decide (x=.non))) H1):AS ta σ H Q:=q
theorem ml{t u:TS}(q:t {D with nx:=u D} σ H):B3 t u D σ H:=q
theorem IR{te:TE}{g:TG}(q:te σ H fun x H1=>g x σ H1 D.nx):ni te g D σ H:=q
theorem fU{i:Nat}{v:V}{N:St->Hp->Prop}(q:N (σ.set i (some v)) H):dH i v σ H N:=q
theorem jf{te:TE}(q:te σ H D.rt):B5 te D σ H:=q
theorem IS{c:TT}{t u:TS}(q:c σ H fun b H1=>if b=true then t D σ H1 else u D σ H1):B6 c t u D σ H:=q
theorem Ck(q:D.nx σ H):B2 D σ H:=q
theorem IU{te:TE}(q:te σ H fun _ H1=>D.nx σ H1):B4 te D σ H:=q
theorem IV{ta:TE}{tr:TA}{N:List V->Hp->Prop}(q:ta σ H fun x H1=>tr σ H1 fun xs H2=>N (x::xs) H2):kK ta tr σ H N:=q
theorem vR{N:List V->Hp->Prop}(q:N [] H):iV σ H N:=q
theorem IW{r:List V->Hp->VK->Prop}{t:TA}(q:t σ H fun vs H1=>r vs H1 Q):rP r t σ H Q:=q
theorem IX{sp:Sp}{E:XK}{t:TA}(q:t σ H fun vs H1=>sp (vs++[]) H1 Q E):rN sp [] E t σ H Q:=q
theorem IY{t:TA}(q:t σ H fun xs H1=>xs.length<=sizeLine/\∀p,H1 p=none->Q (.ref p) (ab H1 p (.tup xs))):vd t σ H Q:=q
theorem IZ{t:TA}(q:t σ H fun xs H1=>xs.length<=sizeLine/\∀p,H1 p=none->Q (.ref p) (ab H1 p (.lst xs))):BG t σ H Q:=q
theorem nL{p:Addr}{xs:List V}{i:Int}{v:V}(h:ai K H p xs)(e:iF xs i=some v)(q:Q v H):vh K (.ref p) (.int i) H Q:=⟨p,xs,i,v,rfl,rfl,h,e,q⟩
theorem pV{p:Addr}{xs:List V}{i:Int}{v:V}(h:ax K H p xs)(e:iF xs i=some v)(q:Q v H):vi K (.ref p) (.int i) H Q:=⟨p,xs,i,v,rfl,rfl,h,e,q⟩
theorem I_{to ti:TE}{t:rA}{v:V}{N:St->Hp->Prop}(q:to σ H fun o H1=>ti σ H1 fun i H2=>t o i v H2 fun H3=>N σ H3):B9 to ti t v σ H N:=q
theorem J4{p:Addr}{xs:List V}{k:Int}{j:Nat}{v:V}{N:Hp->Prop}(h:H p=some (.lst xs))(e:jN xs.length k=some j)(q:N (ab H p (.lst (xs.set j v)))):BW (.ref p) (.int k) v H N:=⟨p,xs,k,j,rfl,rfl,h,e,q⟩
theorem ig{n:Nat}{t:hJ}{a:Addr}{xs:List V}{N:St->Hp->Prop}(h:ax K H a xs)(l:xs.length=n)(q:t xs σ H N):pj K n t (.ref a) σ H N:=⟨a,xs,rfl,h,l,q⟩
theorem rZ{t:TG}{u:hJ}{v:V}{r:List V}{N:St->Hp->Prop}(q:t v σ H fun σ' H'=>u r σ' H' N):ng t u (v::r) σ H N:=⟨v,r,rfl,q⟩
theorem Cm{N:St->Hp->Prop}(q:N σ H):rB [] σ H N:=⟨rfl,q⟩
theorem mm(q:R true H):hV σ H R:=q
theorem J5{r:V->Option Int->Option Int->Hp->VK->Prop}{te:TE}{tl th:TO}(q:te σ H fun x H1=>tl σ H1 fun l H2=>th σ H2 fun u H3=>r x l u H3 Q):BR r te tl th σ H Q:=q
theorem J6{N:Option Int->Hp->Prop}(q:N none H):BP σ H N:=q
theorem J7{t:TE}{N:Option Int->Hp->Prop}(q:t σ H fun x H1=>∃i,x=.int i/\N (some i) H1):BQ t σ H N:=q
theorem J8{i:Int}{P:Int->Prop}(q:P i):∃j,V.int i=.int j/\P j:=⟨i,rfl,q⟩
theorem J9{a:Addr}{xs:List V}{lo hi:Option Int}(h:ai K H a xs)(q:∀p,H p=none->Q (.ref p) (ab H p (.lst (fh xs lo hi)))):vj K (.ref a) lo hi H Q:=⟨a,xs,rfl,h,q⟩
theorem Ja{n:Nat}{aB:List (Nat×Str)}{wi:TI}{g:TG}{tt:TT}{te:TE}(q:wi σ H fun J H1=>ic J g tt te (fun ys H'=>∀D,H' D=none->Q (.ref D) (ab H' D (.lst ys))) (fj n aB σ) H1):vG n aB wi g tt te σ H Q:=q
theorem Jb{ta:TA}{N:It->Hp->Prop}(q:ta σ H fun vs H1=>∃a b,vs=[.ref a,.ref b]/\
 ((∃xs ys,ai K H1 a xs/\ai K H1 b ys/\N (kQ (fun H xs=>ai K H a xs) (fun H ys=>ai K H b ys)) H1)\/
  (∃xs ys,ax K H1 a xs/\ax K H1 b ys/\N (kQ (fun H xs=>ax K H a xs) (fun H ys=>ax K H b ys)) H1))):vB K ta σ H N:=q
theorem Jc{tl:TE}{N:It->Hp->Prop}(q:tl σ H fun x H1=>∃a,x=.ref a/\(∃xs,ai K H1 a xs)/\N (kE K a) H1):rC K tl σ H N:=q
theorem Jd{tl:TE}{N:It->Hp->Prop}(q:tl σ H fun x H1=>∃a,x=.ref a/\(∃xs,ax K H1 a xs)/\N (kH K a) H1):pz K tl σ H N:=q
theorem Je{ta:TA}{N:It->Hp->Prop}(q:ta σ H fun vs H1=>∃j:Int,vs=[.int j]/\ -(2 ^ 62)<=j/\j<2 ^ 62/\N (l_ 0 j.toNat) H1):Bi ta σ H N:=q
noncomputable def r_(K:W.Frag):List V->Hp->VK->Prop:=fun xs H Q=>∃p ys,xs=[.ref p]/\(ai K H p ys\/ax K H p ys)/\Q (.int ys.length) H
noncomputable def Cn:List V->Hp->VK->Prop:=fun xs H Q=>∃i,xs=[.int i]/\Q (.int (if i<0 then -i else i)) H
noncomputable def se(K:W.Frag):List V->Hp->VK->Prop:=fun xs H Q=>∃p ys,xs=[.ref p]/\(ai K H p ys\/ax K H p ys)/\∀l,H l=none->Q (.ref l) (ab H l (.lst ys))
theorem sf{p:Addr}{ys:List V}(h:ai K H p ys)(q:Q (.int ys.length) H):r_ K [.ref p] H Q:=⟨p,ys,rfl,.inl h,q⟩
theorem Jf{p:Addr}{ys:List V}(h:ax K H p ys)(q:Q (.int ys.length) H):r_ K [.ref p] H Q:=⟨p,ys,rfl,.inr h,q⟩
theorem Jg{i:Int}(q:Q (.int (if i<0 then -i else i)) H):Cn [.int i] H Q:=⟨i,rfl,q⟩
theorem Jh{p:Addr}{ys:List V}(h:ai K H p ys)(q:∀l,H l=none->Q (.ref l) (ab H l (.lst ys))):se K [.ref p] H Q:=⟨p,ys,rfl,.inl h,q⟩
theorem Ji{x:V}{T t:String}(k:pR K H x t)(hT:T∈["bool","int","str","list","tuple","dict"])(q:Q (.bl (vL t T)) H):vN K [x,.ty T] H Q:=⟨x,T,t,rfl,k,hT,q⟩
end
section
variable{X:Cx}
theorem vS:cO X (.builtin "abs") Cn:=GX
end
section
variable{X:Cx}{K:W.Frag}
theorem fI(h:X.K=K):pF X (vh K):=by subst h;exact HD
theorem fk(h:X.K=K):pF X (vi K):=by subst h;exact HE
theorem pW(h:X.K=K):jM X (vj K):=by subst h;exact HJ
theorem cQ(h:X.K=K):cO X (.builtin "len") (r_ K):=by subst h;exact HM
theorem nM(h:X.K=K):cO X (.type "list") (se K):=by subst h;exact HN
theorem sh(h:X.K=K):cO X (.builtin "isinstance") (vN K):=by subst h;exact Iw
theorem iX(h:X.K=K)(hc:X.calm=true):cO X (.builtin "all") (vO K):=by subst h;exact Iz hc
theorem Co(h:X.K=K):bJ X (compareOp .In) (ma K false):=by subst h;exact HK
theorem mn(h:X.K=K):bJ X (compareOp .NotIn) (ma K true):=by subst h;exact HL
theorem fm{tg l:Expr}{tl:TE}(h:X.K=K)(hl:PE X l tl):PI X tg l (rC K tl):=by subst h;exact GS hl
theorem fo{tg l:Expr}{tl:TE}(h:X.K=K)(hl:PE X l tl):PI X tg l (pz K tl):=by subst h;exact GT hl
theorem vT{es:List Expr}{kk:Nat}{tpos:Pos}{a b:Expr}{ta:TA}{p pos:Pos}(h:X.K=K)(hg:Gl X "zip")(hm:X.mg "zip"=none)(ha:PA X [a,b] ta)(hs:starEach [a,b] X.env=[(false,eval a X.env),(false,eval b X.env)]:=by rfl)(hs2:starEach [b] X.env=[(false,eval b X.env)]:=by rfl):
  PI X (.Tuple es kk tpos) (.Call (.Name "zip" p) [a,b] [] pos) (vB K ta):=by subst h;exact Ii hg hm ha hs hs2
theorem fV{es:List Expr}{k:Nat}{t:hJ}{n:Nat}{pos:Pos}(h:X.K=K)(hc:X.calm=true)(hh:lZ X es t)
  (hn:(assignEach es X.env).length=n:=by rfl) (hst:(assignEach es X.env).findIdx? (·.1)=none:=by rfl):PG X (.Tuple es k pos) (pj K n t):=by subst h;exact GL hc hh hn hst
end
theorem Jj{i j:Int}(h:0<j)(h2:j.natAbs<2 ^ 500):vw i j:=⟨h,oJ (C2 h2 (by decide)) (by decide)⟩
abbrev kL:=NameKind.local
abbrev kF:=NameKind.free
abbrev kG:=NameKind.globalImplicit
noncomputable def cS(l:List (Str×NameKind)):Scope:={kind:=.function,names:=(".0",.local)::l,isGenerator:=false,isCoroutine:=false,more:=[]}
theorem bc{N P:List Str}{sc:Scope}(h:decide (sc.kind=.function/\sc.isCoroutine=false/\sc.isGenerator=false/\N.Nodup/\N.take P.length=P/\(∀x∈P,sc.names.lookup x=some .local \/sc.names.lookup x=some .cell)/\∀y∈sc.names,y.2≠ .free)=true:=by kernel_rfl):a_ N P sc:=by
 obtain⟨a,b,c,d,e,f,g⟩:=fN h
 exact⟨a,b,c,d,e,f,g⟩
theorem cg{N:List Str}{osc sc:Scope}{own:List Str}{aB:List (Nat×Str)}(h:decide (sc.kind=.function/\(∀y∈sc.names,y.2≠ .cell)/\(∀y∈sc.names,y.2=.local ->sc.names.lookup y.1=some .local)/\(∀y∈sc.names,y.2=.free->osc.names.lookup y.1=some .cell\/osc.names.lookup y.1=some .free)/\∀p∈aB,N[p.1]?=some p.2/\sc.names.lookup p.2=some .free)=true:=by kernel_rfl):bE N osc sc own aB:=by
 obtain⟨a,b,c,d,e⟩:=fN h
 exact⟨a,b,c,d,e⟩
theorem pC{X:Cx}{k:Nat}{ps:List Str}{sp:Sp}{x:Str}{p pos:Pos}{e:Expr}{es:List Expr}{t:TA}(c:aY X.prog X.w X.K X.mg X.base x k ps sp)(ha:PA X (e::es) t)(hr:cw k X.A:=by exact cw.mono (by assumption) (by omega))(hg:Gl X x:=by rfl)(hdb:(x==("__debug__":Str))=false:=by decide)(he:starEach (e::es) X.env=(false,eval e X.env)::starEach es X.env:=by rfl)(hpl:(backTo pos (starEach es X.env)).any (·.1)=false:=by rfl):
  PE X (.Call (.Name x p) (e::es) [] pos) (rN sp [] E0 t):=IA c hr hg ha hdb he hpl
end L2
namespace L2
open PySem
noncomputable def dM(xs:Array Nat):Prop:=xs.toList.Pairwise (· < ·)
theorem dM.lt{xs:Array Nat}(h:dM xs)(d:Nat):∀a b,a<b->b<xs.size->xs.getD a d<xs.getD b d:=fun a b hab hb=>by
 have:=(Qv.mp h) a b (by simpa using oJ hab hb) (by simpa using hb) hab
 simpa[Array.getD,hb,oJ hab hb]using this
theorem vU{xs:Array Nat}{j:Nat}(hs:∀a b,a<b->b<xs.size->xs.getD a j<xs.getD b j):∀(fuel lo hi:Nat),hi - lo<=fuel->lo<=hi->hi<=xs.size->(∀i,i<lo->xs.getD i j<j)->(∀i,hi<=i->i<xs.size->j<=xs.getD i j)->
  SetTable.below.go xs j fuel lo hi<=xs.size/\(∀i,i<SetTable.below.go xs j fuel lo hi->xs.getD i j<j)/\(∀i,SetTable.below.go xs j fuel lo hi<=i->i<xs.size->j<=xs.getD i j)
 |0,lo,hi,hf,hl,hh,h1,h2=>by
  unfold SetTable.below.go
  exact⟨by omega,h1,fun i a b=>h2 i (by omega) b⟩
 |fuel+1,lo,hi,hf,hl,hh,h1,h2=>by
  unfold SetTable.below.go
  by_cases hlt:lo<hi
  ·rw[aH hlt]
   dsimp only
   by_cases hm:xs.getD ((lo+hi) / 2) j<j
   ·rw[aH hm]
    refine vU hs fuel _ _ (by omega) (by omega) hh (fun i hi'=>?_) h2
    by_cases e:i=(lo+hi) / 2
    ·rw[e];exact hm
    ·exact oJ (hs i ((lo+hi) / 2) (by omega) (by omega)) hm
   ·rw[av hm]
    refine vU hs fuel _ _ (by omega) (by omega) (by omega) h1 (fun i hi' hsz=>?_)
    by_cases e:i=(lo+hi) / 2
    ·rw[e];omega
    ·have:=hs ((lo+hi) / 2) i (by omega) hsz
     omega
  ·rw[av hlt]
   exact⟨by omega,h1,fun i a b=>h2 i (by omega) b⟩
theorem Cp{xs:Array Nat}(h:dM xs)(j:Nat):SetTable.below xs j<=xs.size/\(∀i,i<SetTable.below xs j->xs.getD i j<j)/\(∀i,SetTable.below xs j<=i->i<xs.size->j<=xs.getD i j):=by
 unfold SetTable.below
 exact vU (h.lt j) xs.size 0 xs.size (by omega) (b_ _) (aG _) (fun i hi=>absurd hi (mY _)) (fun i a b=>absurd b (by omega))
theorem Cq{xs:Array Nat}(h:dM xs){j k:Nat}(hk:k<=xs.size)(h1:∀i,i<k->xs.getD i j<j)(h2:∀i,k<=i->i<xs.size->j<=xs.getD i j):SetTable.below xs j=k:=by
 obtain⟨b0,b1,b2⟩:=Cp h j
 rcases Nat.lt_trichotomy (SetTable.below xs j) k with z|z|z
 ·have:=b2 _ (aG _) (by omega)
  have:=h1 _ z
  omega
 ·exact z
 ·have:=h2 k (aG _) (by omega)
  have:=b1 _ z
  omega
theorem Jk{xs:Array Nat}(h:dM xs):SetTable.below xs 0=0:=Cq h (b_ _) (fun i hi=>absurd hi (mY _)) fun _ _ _=>b_ _
theorem Jl{xs:Array Nat}(h:dM xs){i j:Nat}(e:xs[i]?=some j):SetTable.below xs (j+1)=i+1:=by
 obtain⟨hi,ej⟩:=Array.getElem?_eq_some_iff.mp e
 have g:∀d,xs.getD i d=j:=fun d=>by simp[Array.getD,hi,ej]
 refine Cq h (by omega) (fun k hk=>?_) fun k hk hs=>?_
 ·rcases dh k i with z|z
  ·have:=h.lt (j+1) k i z hi
   rw[g]at this
   omega
  ·have z':k=i:=by omega
   rw[z',g];omega
 ·have:=h.lt (j+1) i k (by omega) hs
  rw[g]at this
  omega
theorem Jm{t:SetTable}{j:Nat}(h:dM t.place)(hn:t.place[SetTable.below t.place j]?≠some j):dM (t.put j).1.place:=by
 obtain⟨b0,b1,b2⟩:=Cp h j
 show dM (SetTable.insertAt t.place (SetTable.below t.place j) j)
 generalize SetTable.below t.place j=p at*
 unfold dM
 rw[SetTable.toList_insertAt]
 have hp:t.place.toList.Pairwise (· < ·):=h
 have hp':=hp
 rw[<-Gc p t.place.toList,List.pairwise_append]at hp'
 obtain⟨q1,q2,q3⟩:=hp'
 have lo:∀a∈t.place.toList.take p,a<j:=fun a ha=>by
  obtain⟨i,hi,e⟩:=Gh ha
  rw[e9]at hi
  rw[List.getElem_take]at e
  have:=b1 i (by omega)
  have hs:i<t.place.size:=by simp at hi;omega
  simp[Array.getD,hs]at this
  rw[<-e]
  simpa using this
 have hi':∀a∈t.place.toList.drop p,j<a:=fun a ha=>by
  obtain⟨i,hi,e⟩:=Gh ha
  rw[lU]at hi
  rw[List.getElem_drop]at e
  have hs:p+i<t.place.size:=by simp at hi;omega
  have c:=b2 (p+i) (by omega) hs
  simp[Array.getD,hs]at c
  have e':t.place[p+i]=a:=by simpa using e
  rw[e']at c
  rcases dh j a with z|z
  ·exact z
  ·have z':a=j:=by omega
   subst z'
   exfalso
   have hp0:p<t.place.size:=by omega
   have c0:=b2 p (aG _) hp0
   simp[Array.getD,hp0]at c0
   rcases zT i with i0|i0
   ·subst i0
    exact hn (by rw[ox hp0];exact congrArg some (by simpa using e'))
   ·have:=h.lt 0 p (p+i) (by omega) hs
    simp[Array.getD,hs,hp0]at this
    rw[e']at this
    omega
 rw[List.pairwise_append]
 refine⟨q1,FZ.mpr ⟨hi',q2⟩,fun a ha b hb=>?_⟩
 rcases cE.mp hb with rfl|hb
 ·exact lo a ha
 ·exact q3 a ha b hb
theorem vV{t:SetTable}{h:Int}{j:Nat}{dm:Option Nat}:∀(fuel:Nat) (p:SetTable.Probe),(∀d,p.dummy=some d->t.slot d=.dummy)->SetTable.probe.go t (fun _=>h+1) h fuel p=some (.empty j dm)->
  t.slot j=.empty/\∀d,dm=some d->t.slot d=.dummy
 |0,p,_,e=>by unfold SetTable.probe.go at e;cases e
 |fuel+1,p,hp,e=>by
  unfold SetTable.probe.go at e
  have adv:∀q:SetTable.Probe,(t.advance q).dummy=q.dummy:=fun q=>by unfold SetTable.advance;split<;>rfl
  split at e
  ·rename_i hs
   have e':=cm e
   injection e' with e1 e2
   subst e1;subst e2
   exact⟨hs,hp⟩
  ·rename_i hs
   refine vV fuel _ (fun d hd=>?_) e
   rw[adv]at hd
   have hd':some p.j=some d:=hd
   cases hd'
   exact hs
  ·rename_i i hs
   split at e
   ·cases e
   ·refine vV fuel _ (fun d hd=>?_) e
    rw[adv]at hd
    exact hp d hd
theorem Cr{t:SetTable}{j:Nat}(h:t.slot j=.empty\/t.slot j=.dummy):t.place[SetTable.below t.place j]?≠some j:=fun e=>by
 unfold SetTable.slot at h
 dsimp only at h
 rw[e]at h
 simp at h
theorem Jn{t:SetTable}{h:Int}{j:Nat}{d:Bool}(e:t.freeSlot h=some (j,d)):t.place[SetTable.below t.place j]?≠some j:=by
 unfold SetTable.freeSlot at e
 split at e
 ·rename_i j' dm hp
  have q:=vV (10*SetTable.turns t.mask) _ (fun d hd=>by cases hd) hp
  have e':=cm e
  injection e' with e1 _
  subst e1
  cases dm with
  |none=>exact Cr (.inl q.1)
  |some d=>exact Cr (.inr (q.2 d rfl))
 ·cases e
theorem Jo(n:Nat):dM (Array.range n):=by
 unfold dM
 rw[Array.toList_range]
 exact List.pairwise_lt_range
theorem si(t:SetTable)(n:Nat):dM (t.standIn n).place:=Jo n
theorem Jp{t:SetTable}{es:Array (Int×Value)}{h:Int}{x:Value}(r:dM t.place):dM (layNew t es h x).2.1.place/\(layNew t es h x).2.1.led=t.led:=by
 unfold layNew
 split
 ·rename_i slot wd e
  dsimp only
  unfold SetTable.orStandIn
  split
  ·exact⟨Jm r (Jn e),rfl⟩
  ·exact⟨si _ _,rfl⟩
 ·exact⟨si _ _,rfl⟩
theorem vW{mask finger moves:Nat}{led plain:Bool}{hs:Array Int}{t:SetTable}{o:Array Nat}(e:SetTable.laid mask finger moves led plain hs=some (t,o)):dM t.place/\t.led=led:=by
 unfold SetTable.laid at e
 cases q:SetTable.layClean mask hs with
 |none=>rw[q]at e;cases e
 |some owner=>
  rw[q]at e
  have e':=cm e
  injection e' with e1 _
  subst e1
  refine⟨?_,rfl⟩
  unfold dM
  dsimp only
  rw[List.pairwise_map]
  refine List.Pairwise.filterMap _ (fun a a' hlt b hb b' hb'=>?_) (List.pairwise_lt_range (n:=mask+1))
  cases q1:owner.getD a none with
  |none=>rw[q1]at hb;cases hb
  |some v=>
   rw[q1]at hb
   cases q2:owner.getD a' none with
   |none=>rw[q2]at hb';cases hb'
   |some v'=>
    rw[q2]at hb'
    cases hb
    cases hb'
    exact hlt
theorem Jq{t:SetTable}{es:Array (Int×Value)}{n:Nat}:dM (relayAll t es n).2.1.place/\(relayAll t es n).2.1.led=t.led:=by
 unfold relayAll
 split
 ·rename_i t' order e
  dsimp only
  split
  ·exact vW e
  ·exact⟨si _ _,rfl⟩
 ·exact⟨si _ _,rfl⟩
end L2
namespace L2
open PySem PySem.Spec PyProof.Rows
noncomputable def bt(w:World):Bool:=w.params.followText "set-order"
noncomputable def bT(e:Int×Value):Int:=match e.2 with
 |.int k _=>k
 |_=>0
noncomputable def gF(e:Int×Value):Prop:=∃k tok,e=(hashInt k,Value.int k tok)
noncomputable def aQ(w:World)(h:Heap)(a:Addr)(ks:List Int):Prop:=∃(o:Obj) (es:Array (Int×Value)) (ep:Nat) (t:SetTable),h.get? a=some o/\o.ExactSet/\o.data=.set es ep t/\
 es.toList.map bT=ks/\(∀e∈es.toList,gF e)/\ks.Nodup/\ks.length<scanBound/\t.fits es.size=true/\dM t.place/\(t.led=true\/bt w=true)
theorem aQ.at{w:World}{h h':Heap}{a:Addr}{ks:List Int}(g:aQ w h a ks)(k:∀o,h.get? a=some o->h'.get? a=some o):aQ w h' a ks:=by
 obtain⟨o,es,ep,t,e,r⟩:=g
 exact⟨o,es,ep,t,k o e,r⟩
theorem aQ.lt{w:World}{h:Heap}{a:Addr}{ks:List Int}(g:aQ w h a ks):a<h.objs.size:=by
 obtain⟨o,es,ep,t,e,r⟩:=g
 exact bg e
section
variable{prog:Program}{w:World}{A:Around}{E:Value->Shared->Prop}{s:Shared}
theorem vX{l:List (Int×Value)}(h:∀e∈l,gF e):ElemsOf (intKind prog w) l:=fun e he=>by
 obtain⟨k,tok,rfl⟩:=h e he
 exact⟨⟨k,rh _ _ _ _,rfl⟩,rfl⟩
theorem vY{e:Int×Value}(h:gF e)(k:Int):(intKind prog w).is k e.2=decide (bT e=k):=by
 obtain⟨k',tok,rfl⟩:=h
 show Value.isInt k (.int k' tok)=_
 by_cases z:k'=k
 ·subst z;simp[Value.isInt,bT]
 ·rw[cz (by exact z)]
  simp[Value.isInt,z]
theorem find_none{l:List (Int×Value)}(h:∀e∈l,gF e){k:Int}:l.findIdx? (fun e=>(intKind prog w).is k e.2)=none↔k∉l.map bT:=by
 rw[List.findIdx?_eq_none_iff]
 constructor
 ·intro q hm
  obtain⟨e,he,ek⟩:=Qd.mp hm
  have:=q e he
  rw[vY (h e he),bZ ek]at this
  cases this
 ·intro q e he
  rw[vY (h e he)]
  exact cz fun ek=>q (Qd.mpr ⟨e,he,ek⟩)
theorem vZ{h:Heap}{a:Addr}{o:Obj}{es:Array (Int×Value)}{ep:Nat}{t:SetTable}(ho:h.get? a=some o)(cX:o.ExactSet)(hd:o.data=.set es ep t)
  {es':Array (Int×Value)} {t':SetTable} (bA:∀e∈es'.toList,gF e) (da:(es'.toList.map bT).Nodup) (hb:es'.size<scanBound) (hf:t'.fits es'.size=true) (hr:dM t'.place) (hl:t'.led=true\/bt w=true):
  (h.update a (Obj.putSet es' t')).get? a=some {o with data:=.set es' (ep+1) t'}/\aQ w (h.update a (Obj.putSet es' t')) a (es'.toList.map bT):=by
 have hg:(h.update a (Obj.putSet es' t')).get? a=some {o with data:=.set es' (ep+1) t'}:=by
  have:=zO (Obj.putSet es' t') ho (by rw[putSet_of es' t' hd];rfl)
  rw[putSet_of es' t' hd]at this;exact this
 exact⟨hg,_,es',ep+1,t',hg,cX,rfl,rfl,bA,da,by simpa using hb,hf,hr,hl⟩
theorem Cs{g:Bool->Sem Unit}(hg:∀(b:Bool) (s₁:Shared) (Q':Unit->Shared->Prop),Q' () s₁->wpAny (model prog w) A (g b) Q' E s₁)
  {a:Addr} {o:Obj} {es:Array (Int×Value)} {ep:Nat} {t:SetTable} (ho:s.heap.get? a=some o) (cX:o.ExactSet) (hd:o.data=.set es ep t)
  {es1:Array (Int×Value)} {t2:SetTable} (hel1:∀e∈es1.toList,gF e) (da:(es1.toList.map bT).Nodup) (hb1:es1.size<scanBound) (hf2:t2.fits es1.size=true) (hr:dM t2.place) (hl:t2.led=true\/bt w=true)
  {wasDummy:Bool} {R:Option Bool->Shared->Prop}
  (h:∀h' ks,Heap.SameBut a s.heap h'->aQ w h' a ks->ks.Perm (es1.toList.map bT)->R (some true) {s with heap:=h'}):
  wpAny (model prog w) A (do
    storeSet a es1 t2
    if(!wasDummy && t2.tooFull)=true then do
      g (relayAll t2 es1 (SetTable.grown es1.size)).2.2
      storeSet a (relayAll t2 es1 (SetTable.grown es1.size)).1 (relayAll t2 es1 (SetTable.grown es1.size)).2.1
      pure (some true)
     else pure (some true)) R E s:=by
 refine aa (oE ho hd ?_ (lQ hb1))
 obtain⟨ho1,hS1⟩:=vZ (w:=w) ho cX hd hel1 da hb1 hf2 hr hl
 have hsb1:=lP s.heap a (Obj.putSet es1 t2)
 split
 ·have hp:=relayAll_perm t2 es1 (SetTable.grown es1.size)
  have hfr:=relayAll_fits t2 es1 (SetTable.grown es1.size)
  obtain⟨rr,rl⟩:=Jq (t:=t2) (es:=es1) (n:=SetTable.grown es1.size)
  generalize relayAll t2 es1 (SetTable.grown es1.size)=Rl at hp hfr rr rl⊢
  obtain⟨es2,t3,gave2⟩:=Rl
  dsimp only at hp hfr rr rl⊢
  have pm:(es2.toList.map bT).Perm (es1.toList.map bT):=hp.map _
  have hsz:es2.size=es1.size:=by rw[<-gq,hp.length_eq,gq]
  have hb2:es2.size<scanBound:=by rw[hsz];exact hb1
  refine aa (hg _ _ _ ?_)
  refine aa (oE ho1 rfl ?_ (lQ hb2))
  obtain⟨_,hS2⟩:=vZ (w:=w) ho1 cX rfl (fun e he=>hel1 e (hp.mem_iff.mp he)) (pm.nodup_iff.mpr da) hb2 hfr rr (by rw[rl];exact hl)
  exact ao (h _ _ (hsb1.trans (lP _ a _)) hS2 pm)
 ·exact ao (h _ _ hsb1 hS1 (iS _))
theorem sj{a:Addr}{ks:List Int}{k:Int}{tok:Tok}{Q:Bool->Shared->Prop}(hS:aQ w s.heap a ks)(hroom:ks.length+1<scanBound)
  (h:∀h' ks',Heap.SameBut a s.heap h'->aQ w h' a ks'->ks'.Perm (if k∈ks then ks else k::ks)->Q (decide (k∉ks)) {s with heap:=h'}):
  wpAny (model prog w) A (setAddHashed a (.int k tok) (hashInt k)) Q E s:=by
 obtain⟨o,es,ep,t,ho,cX,hd,rfl,bA,da,hb,hf,hr,hl⟩:=hS
 have hbs:es.size<scanBound:=by simpa using hb
 have hel':ElemsOf (intKind prog w) es.toList:=vX bA
 unfold setAddHashed setAddHashedIn
 refine c_ (aa (cU ho hd hf ?_))
 dsimp only
 rw[byScan_of (knd:=intKind prog w) rfl hbs hel']
 simp only[↓reduceIte]
 unfold setAddByScan
 refine aa (aa (i9 (aa (wpAny_setScan_of (knd:=intKind prog w) (k:=k) (rh _ _ _ _) ho hd hf hel' ?_))))
 cases hq:List.findIdx? (fun e=>(intKind prog w).is k e.2) es.toList with
 |some j=>
  have hin:k∈es.toList.map bT:=by
   rcases Classical.em (k∈es.toList.map bT)with z|z
   ·exact z
   ·rw[(find_none (prog:=prog) (w:=w) bA).mpr z]at hq;cases hq
  refine ao (ao ?_)
  have e:s={s with heap:=s.heap}:=by cases s;rfl
  have q:=h s.heap _ (j9 a s.heap) ⟨o,es,ep,t,ho,cX,hd,rfl,bA,da,hb,hf,hr,hl⟩ (by rw[aH hin])
  rw[cz (fun z=>z hin)]at q
  rw[e];exact q
 |none=>
  have hin:k∉es.toList.map bT:=(find_none (prog:=prog) (w:=w) bA).mp hq
  have hperm:=layNew_perm t es (hashInt k) (.int k tok)
  have hfits:=layNew_fits t es (hashInt k) (.int k tok)
  obtain⟨rr,rl⟩:=Jp (es:=es) (h:=hashInt k) (x:=.int k tok) hr
  have hgw:∀(b:Bool) {s₁:Shared} {Q':Unit->Shared->Prop},Q' () s₁->wpAny (model prog w) A (match b with|true=>rule "set.scan.the-table-gave-way"|false=>pure ()) Q' E s₁:=
   fun b s₁ Q' hq=>by cases b<;>first|exact ao hq|exact i9 hq
  dsimp only
  generalize hL:layNew t es (hashInt k) (.int k tok)=L at hperm hfits rr rl
  obtain⟨es1,t1,wasDummy,gave⟩:=L
  dsimp only at hperm hfits rr rl⊢
  rw[Array.toList_push]at hperm
  have hel1:∀e∈es1.toList,gF e:=fun e he=>by
   rcases iu.mp (hperm.mem_iff.mp he)with z|z
   ·exact bA e z
   ·rw[lN]at z;exact⟨k,tok,z⟩
  have pm:(es1.toList.map bT).Perm (k::es.toList.map bT):=by
   refine(hperm.map _).trans ?_
   rw[cF]
   exact List.perm_append_comm
  have hnd1:(es1.toList.map bT).Nodup:=pm.nodup_iff.mpr (lO.mpr ⟨hin,da⟩)
  have hsz1:es1.size=es.size+1:=by rw[<-gq,hperm.length_eq,bF,gq];rfl
  have hb1:es1.size<scanBound:=by rw[hsz1];simpa using hroom
  have hend:∀h' ks',Heap.SameBut a s.heap h'->aQ w h' a ks'->ks'.Perm (es1.toList.map bT)->Q true {s with heap:=h'}:=fun h' ks' sb g p=>by
   have q:=h h' ks' sb g (by rw[av hin];exact p.trans pm)
   rw[bZ hin]at q
   exact q
  refine aa (hgw _ ?_)
  have hl1:t1.led=true\/bt w=true:=by rw[rl];exact hl
  split
  ·refine aa ?_
   rw[hashByValue_scannable 8 (show Value.scannable (.int k tok)=true from rfl)]
   refine ao ?_
   refine Cs ?_ ho cX hd hel1 hnd1 hb1 ?_ ?_ ?_ ?_
   ·intro b s₁ Q' hq;cases b<;>first|exact ao hq|exact i9 hq
   ·split
    ·exact hfits
    ·exact SetTable.fits_plain_off hfits
   ·split
    ·exact rr
    ·exact rr
   ·split
    ·exact hl1
    ·exact hl1
   ·intro h' ks' hsb g p;exact ao (hend h' ks' hsb g p)
  ·refine aa (ao ?_)
   simp only[↓reduceIte]
   refine Cs ?_ ho cX hd hel1 hnd1 hb1 hfits rr hl1 ?_
   ·intro b s₁ Q' hq;cases b<;>first|exact ao hq|exact i9 hq
   ·intro h' ks' hsb g p;exact ao (hend h' ks' hsb g p)
theorem Ct{Q:Value->Shared->Prop}(h:∀h',aQ w h' s.heap.objs.size []->h'.objs.size=s.heap.objs.size+1->(∀b o,s.heap.get? b=some o->h'.get? b=some o)->Q (.ref s.heap.objs.size) {s with heap:=h'}):
  wpAny (model prog w) A (newSet (.type "set")) Q E s:=by
 unfold newSet setsByText
 refine aa (aa (oF (ao ?_)))
 dsimp only
 simp only[newObj]
 refine aa (wpAny_alloc (ao (h _ ⟨_,#[],0,_,bV _ rfl,⟨rfl,rfl,rfl⟩,rfl,rfl,fun e he=>by simp at he,mZ,by decide,by rfl,List.Pairwise.nil,?_⟩ (eB ..) fun b o e=>aW _ e)))
 show(!w.params.followText "set-order")=true\/bt w=true
 unfold bt
 cases w.params.followText "set-order"<;>simp
end
section
variable{prog:Program}{w:World}{A:Around}{E:Value->Shared->Prop}{s:Shared}
theorem Jr{R:Result->Shared->Prop}{I S l:Addr}{items:Array Value}{ns:List Int}(hh:A.in1.handled=none)(hi:IntsAre items.toList ns)(hb:items.size+1<scanBound)(n1:S≠I)(n2:S≠l)(n3:l≠I):
  ∀(k i:Nat) (s:Shared) (ks:List Int),items.size - i=k->i<=items.size->s.heap.IsListIter I l i->s.heap.IsList l items->aQ w s.heap S ks->ks.length<=i->(∀x,x∈ks↔x∈ns.take i)->
   (∀h' tk ks',(∀b o,b≠S->b≠I->s.heap.get? b=some o->h'.get? b=some o)->aQ w h' S ks'->(∀x,x∈ks'↔x∈ns)->R (.ok (.ret .none)) {s with heap:=h',toks:=tk})->
   codeAny (model prog w) A (.builtin "set.update.loop" ⟨[.ref S,.ref I],[]⟩) R s:=by
 have bI:items.size=ns.length:=by have:=oI hi;simpa using this
 intro k
 induction k with
 |zero=>
  intro i s ks hk hle hit hl hS hlk hm hR
  have hin:i=items.size:=by omega
  subst hin
  refine lV zH ?_
  rw[oA qS _]
  show wpAny _ A.in1 (pyNext (.ref I) >>=_) _ _ s
  refine aa (G8 hh hit hl (by simp) fun h' eb=>?_)
  show wpAny _ A.in1 (ret Value.none) _ _ _
  refine ao (hR h' s.toks ks (fun b o _ b2 e=>eb b o b2 e) (hS.at fun o e=>eb _ _ n1 e) fun x=>?_)
  rw[hm x,bI,jy]
 |succ k ih=>
  intro i s ks hk hle hit hl hS hlk hm hR
  have hlt:i<items.size:=by omega
  obtain⟨t,hv⟩:=IntsAre.int_at hi i items[i] (by simp[hlt])
  have hgd:ns.getD i 0=ns[i]'(by omega):=by simp[kg,show i<ns.length by omega]
  refine lV zH ?_
  rw[oA qS _]
  show wpAny _ A.in1 (pyNext (.ref I) >>=_) _ _ s
  refine aa (G6 hit hl (x:=items[i]) (by simp[hlt]) fun h1 hit1 sb1=>?_)
  have hS1:aQ w h1 S ks:=hS.at fun o e=>sb1.extBut _ _ n1 e
  show wpAny _ A.in1 (holding [items[i]] (setAdd S items[i]) >>=_) _ _ _
  rw[hv]
  refine aa (c_ ?_)
  unfold setAdd
  refine c_ ?_
  refine aa ((intKind prog w).pyHash (k:=ns.getD i 0) (rh _ _ _ _) ?_)
  refine sj (s:={s with heap:=h1,toks:=s.toks+1}) hS1 (by omega) fun h2 ks2 sb2 hS2 p2=>?_
  have hm2:∀x,x∈ks2↔x∈ns.take (i+1):=fun x=>by
   rw[p2.mem_iff,List.take_add_one,iu,<-hm x,show ns[i]?=some (ns.getD i 0) by rw[hgd];exact aN _]
   split
   ·rename_i hin
    simp only[oB,lN]
    exact⟨.inl,fun z=>z.elim id fun e=>e▸hin⟩
   ·simp only[cE,oB,lN,dk,eO]
    exact Or.comm
  have hl2:ks2.length<=i+1:=by
   rw[p2.length_eq]
   split
   ·omega
   ·rw[cM];omega
  refine ao ⟨uM qS _,ih (i+1) _ ks2 (by omega) hlt ?_ ?_ hS2 hl2 hm2 fun h' tk ks' kp hS' hm'=>?_⟩
  ·exact hit1.extBut sb2.extBut (Ne.symm n1)
  ·exact(hl.extBut sb1.extBut n3).extBut sb2.extBut (Ne.symm n2)
  ·exact hR h' tk ks' (fun b o b1 b2 e=>kp b o b1 b2 (sb2.extBut _ _ b1 (sb1.extBut _ _ b2 e))) hS' hm'
theorem Cu(a:Value){Q₁:Value->Shared->Prop}
  (h:Q₁ (.ref s.heap.objs.size) {s with heap:=s.heap.push {cls:=.type "set",dict:=none,data:=.set #[] 0 (.fresh 0 0 (!bt w))}}):
  codeAny (model prog w) A (.call (.builtin "set.__new__") ⟨[.type "set",a],[]⟩) (wants Q₁ E) s:=by
 refine A4 ?_
 show wpAny _ A.in1 (do checkBuiltinCall "set.__new__" ⟨[.type "set",a],[]⟩;again (.builtin "set.__new__" ⟨[.type "set",a],[]⟩)) _ _ s
 refine aa (wpAny_of_eq (PySem.F.newCall_set_1 a) (ao ⟨uM PySem.F.plain_set_new _,lV PySem.F.entry_set_new ?_⟩))
 rw[oA PySem.F.plain_set_new _]
 unfold Builtin.«set.__new__» Builtin.Frozenset.newClass
 have uR:=sub_set_self
 obtain⟨hp,g,d,tk,os⟩:=s
 dsimp only
 wp_walk
 refine oF (ao ?_)
 dsimp only
 simp only[newObj]
 refine aa (wpAny_alloc (ao ?_))
 exact ao h
set_option maxHeartbeats 8000000 in
theorem Js{l:Addr}{items:Array Value}{ns:List Int}{Q:Value->Shared->Prop}(hh:A.handled=none)(hl:s.heap.IsList l items)(hi:IntsAre items.toList ns)(hb:items.size+1<scanBound)
  (h:∀(h':Heap) (tk:Nat) (ks:List Int),aQ w h' s.heap.objs.size ks->(∀x,x∈ks↔x∈ns)->(∀b o,b<s.heap.objs.size->s.heap.get? b=some o->h'.get? b=some o)->Q (.ref s.heap.objs.size) {s with heap:=h',toks:=tk}):
  wpAny (model prog w) A (call (.type "set") [.ref l]) Q E s:=by
 obtain⟨c,tl,hmro⟩:=PySem.F.called_set.mro
 have hmade:=PySem.F.called_set.made
 have uR:=PySem.F.called_set.sub
 refine wpAny_call (A4 ?_)
 show wpAny _ _ (callAny (.type "set") _) _ _ _
 refine ao ⟨Code.quiet_builtin _ (by decide+kernel),lV PySem.F.entry_type_call ?_⟩
 rw[Around.under_plain (weight_type_call_type "set" [.ref l] []) rfl]
 have h1:=PySem.F.called_set.notType
 have h2:=PySem.F.called_set.canCreate
 have hct:=PySem.F.typeCall_set_1 (.ref l)
 repeat (any_goals (first|assumption|wp_step))
 refine lW (Cu (w:=w) (.ref l) (E:=E) (Q₁:=fun obj s₁=>obj=.ref s.heap.objs.size/\s₁={s with heap:=s.heap.push {cls:=.type "set",dict:=none,data:=.set #[] 0 (.fresh 0 0 (!bt w))}}) ⟨rfl,rfl⟩) fun r s₁ hr=>?_
 cases r with
 |error e=>exact hr
 |ok fl=>
  cases fl with
  |ret obj=>
   obtain⟨rfl,rfl⟩:=hr
   generalize hled:(!bt w)=led
   have hS:(s.heap.push {cls:=.type "set",dict:=none,data:=.set #[] 0 (.fresh 0 0 led)}).get? s.heap.objs.size=some {cls:=.type "set",dict:=none,data:=.set #[] 0 (.fresh 0 0 led)}:=bV _ rfl
   have hT:Shared.TypeIs {s with heap:=s.heap.push {cls:=.type "set",dict:=none,data:=.set #[] 0 (.fresh 0 0 led)}} (.ref s.heap.objs.size) "set":=⟨_,hS,rfl⟩
   have hli:=PySem.F.called_set.init.lookup
   have hbi:=PySem.F.called_set.init.bind (.ref s.heap.objs.size)
   repeat (any_goals (first|assumption|wp_step))
   refine lW (codeAny_call_builtin (R:=wants (fun r s₂=>r=.none/\∃h' tk ks,s₂={s with heap:=h',toks:=tk}/\aQ w h' s.heap.objs.size ks/\(∀x,x∈ks↔x∈ns)/\
     (∀b o,b<s.heap.objs.size->s.heap.get? b=some o->h'.get? b=some o)) E) PySem.F.called_set.init.plain PySem.F.entry_set_init (check_set_init_1 hT ?_)) fun r₂ s₂ hr₂=>?_
   ·obtain⟨ol,hol,hcl,nl,hdl⟩:=hl
    obtain⟨ocls,odict,odata,oslots⟩:=ol
    simp only at hcl hdl
    subst hcl;subst hdl
    have hol':(s.heap.push {cls:=.type "set",dict:=none,data:=.set #[] 0 (.fresh 0 0 led)}).get? l=some {cls:=.type "list",dict:=odict,data:=.seq items nl,slots:=oslots}:=aW _ hol
    have hsls:=PySem.F.sub_list_set
    have hslf:=PySem.F.sub_list_frozenset
    have hne:(Value.type "list"==Value.type "dict")=false:=by decide
    have hl1:(s.heap.push {cls:=.type "set",dict:=none,data:=.set #[] 0 (.fresh 0 0 led)}).IsList l items:=⟨_,hol',rfl,nl,rfl⟩
    unfold Builtin.«set.__init__» noKeywords Builtin.Frozenset.updateFrom
    generalize hPI:pyIter=PI
    wp_walk
    subst hPI
    refine uG hl1 ?_
    refine aa (wpAny_runValue ?_)
    have hlS:l<s.heap.objs.size:=bg hol
    have hh3:A.in1.in1.in1.handled=none:=by simp[hh]
    have hSz:(s.heap.push {cls:=.type "set",dict:=none,data:=.set #[] 0 (.fresh 0 0 led)}).objs.size=s.heap.objs.size+1:=eB ..
    have e1:s.heap.objs.size≠(s.heap.push {cls:=.type "set",dict:=none,data:=.set #[] 0 (.fresh 0 0 led)}).objs.size:=by rw[hSz];exact bP (lT _)
    have e2:l≠(s.heap.push {cls:=.type "set",dict:=none,data:=.set #[] 0 (.fresh 0 0 led)}).objs.size:=by rw[hSz];exact bP (jx hlS)
    refine Jr (w:=w) hh3 hi hb e1 (gv hlS) e2 (items.size - 0) 0 _ [] (by omega) (b_ _)
     ⟨_,bV _ rfl,rfl,rfl⟩ (hl1.push _) ⟨_,#[],0,_,aW _ hS,⟨rfl,rfl,rfl⟩,rfl,rfl,fun e he=>by simp at he,mZ,by decide,by rfl,List.Pairwise.nil,?_⟩ (aG _) (fun x=>by simp) ?_
    ·show led=true\/bt w=true
     rw[<-hled]
     cases bt w<;>simp
    ·intro h' tk ks' kp hS' hm'
     show wpAny _ _ _ _ _ _
     refine ao ?_
     show wpAny _ _ (ret Value.none) _ _ _
     refine ao ⟨rfl,h',tk,ks',rfl,hS',hm',fun b o hb e=>?_⟩
     exact kp b o (bP hb) (by rw[hSz];exact bP (jx hb)) (aW _ (aW _ e))
   ·cases r₂ with
    |error e=>exact hr₂
    |ok fl₂=>
     cases fl₂ with
     |ret r=>
      obtain⟨rfl,h',tk,ks,rfl,hS',hm',hk'⟩:=hr₂
      repeat (any_goals (first|assumption|wp_step))
      exact h _ _ _ hS' hm' hk'
     |_=>exact hr₂.elim
  |_=>exact hr.elim
end
namespace FF
theorem slot_si_next:Slot "set_iterator" "__next__" "set_iterator.__next__":=
 .of (owner:="set_iterator") (n:="__next__") (by rw[typeLookup_type,G9];kernel_rfl) (by decide+kernel) (by decide+kernel) (by decide+kernel)
  (by first|exact .inl (by decide+kernel)|exact .inr (by decide+kernel)) (by rw[A7];kernel_rfl)
theorem slot_si_iter:Slot "set_iterator" "__iter__" "set_iterator.__iter__":=
 .of (owner:="set_iterator") (n:="__iter__") (by rw[typeLookup_type,G9];kernel_rfl) (by decide+kernel) (by decide+kernel) (by decide+kernel)
  (by first|exact .inl (by decide+kernel)|exact .inr (by decide+kernel)) (by rw[A7];kernel_rfl)
theorem entry_si_next:entryFor table "set_iterator.__next__"=some Builtin.«set_iterator.__next__»:=entryFor_of_tree (by kernel_rfl)
theorem Cv:Manifest.owners.lookup (String.ofList ['r','o','t','a','r','e','t','i','_','t','e','s'].reverse)=some Manifest.sig_set_iterator:=by kernel_rfl
theorem args_si_next(a:Value):argsOk "set_iterator.__next__" ⟨[a],[]⟩:=by
 unfold argsOk;rw[signature?_of (id:="set_iterator.__next__") (n:=['_','_','t','x','e','n','_','_']) (o:=['r','o','t','a','r','e','t','i','_','t','e','s']) (by kernel_rfl) Cv];kernel_rfl
theorem entry_si_iter:entryFor table "set_iterator.__iter__"=some Builtin.«dict_keyiterator.__iter__»:=
 A8 (id':="dict_keyiterator.__iter__") (by kernel_rfl) (by first|rfl|decide+kernel) (by decide+kernel) (by kernel_rfl)
theorem args_si_iter(a:Value):argsOk "set_iterator.__iter__" ⟨[a],[]⟩:=by
 unfold argsOk;rw[signature?_of (id:="set_iterator.__iter__") (n:=['_','_','r','e','t','i','_','_']) (o:=['r','o','t','a','r','e','t','i','_','t','e','s']) (by kernel_rfl) Cv];kernel_rfl
theorem entry_set_iter:entryFor table "set.__iter__"=some Builtin.«frozenset.__iter__»:=
 A8 (id':="frozenset.__iter__") (by kernel_rfl) rfl (by decide+kernel) (by kernel_rfl)
end FF
abbrev sk(first:Value)(i:Nat)(S:Addr)(n ep:Nat):Obj:={cls:=.type "set_iterator",dict:=none,data:=.fields #[first,rawInt i,.ref S,rawInt n,rawInt ep],slots:= #[]}
section
variable{prog:Program}{w:World}{A:Around}{E:Value->Shared->Prop}{s:Shared}
theorem Jt{n:Nat}{Q:Nat->Shared->Prop}(hn:n≠0)(h:∀i d,i<n->Q i {s with drawn:=d}):wpAny (model prog w) A (choose .order n) Q E s:=fun Γ p hΓ=>by
 unfold choose
 rw[Sem.wp_choose]
 refine⟨hn,?_⟩
 rw[Sem.wp_pure]
 exact h _ _ (Nat.mod_lt _ (Nat.pos_of_ne_zero hn))
theorem sq{α:Type}:∀(l:List α) (i:Nat) (h:i<l.length),(l[i]::l.eraseIdx i).Perm l
 |x::r,0,_=>iS _
 |x::r,i+1,h=>(List.Perm.swap _ _ _).trans (List.Perm.cons _ (sq r i (by simpa using h)))
theorem Cw{α:Type}:∀(n:Nat) (xs:List α) (s:Shared) (Q:List α->Shared->Prop),xs.length=n->(∀ys d,ys.Perm xs->Q ys {s with drawn:=d})->wpAny (model prog w) A (drawOrder n xs) Q E s
 |0,xs,s,Q,hl,h=>by
  have e:xs=[]:=Qt.mp hl
  subst e
  unfold drawOrder
  exact ao (h [] s.drawn (iS _))
 |n+1,[],s,Q,hl,h=>by simp at hl
 |n+1,x::r,s,Q,hl,h=>by
  unfold drawOrder
  refine aa (Jt (by simp) fun i d hi=>?_)
  rw[aN hi]
  dsimp only
  refine aa (Cw n _ _ _ (by rw[uy hi,hl];rfl) fun ys d' p=>ao ?_)
  have:=h ((x::r)[i]::ys) d' ((List.Perm.cons _ p).trans (sq _ i hi))
  exact this
end
theorem Cy{α:Type}(next:Nat->Nat):∀(fuel k:Nat) (left:List α) (out:Array α),left.length=fuel->(pickOrder.go next fuel k left out).toList.Perm (out.toList++left)
 |0,k,left,out,h=>by
  have e:left=[]:=Qt.mp h
  subst e
  unfold pickOrder.go
  rw[gW]
 |fuel+1,k,left,out,h=>by
  unfold pickOrder.go
  have hi:next k % left.length<left.length:=Nat.mod_lt _ (by omega)
  rw[aN hi]
  dsimp only
  refine(Cy next fuel (k+1) _ _ (by rw[uy hi,h];rfl)).trans ?_
  rw[Array.toList_push,km]
  exact List.Perm.append_left _ (sq _ _ hi)
theorem Cz{α:Type}(next:Nat->Nat)(xs:Array α):(pickOrder next xs).toList.Perm xs.toList:=by
 have:=Cy next xs.size 0 xs.toList #[] (by simp)
 simpa[pickOrder]using this
section
variable{prog:Program}{w:World}{A:Around}{E:Value->Shared->Prop}{s:Shared}{I S:Addr}{first:Value}{i n ep:Nat}{o:Obj}{es:Array (Int×Value)}{t:SetTable}
theorem CA{Q:Fin->Shared->Prop}{slot:Nat}(hI:s.heap.get? I=some (sk (rawInt slot) i S n ep))(hS:s.heap.get? S=some o)(hd:o.data=.set es ep t)(hf:t.fits es.size=true)(hn:es.size=n)
  (h:wpAny (model prog w) A (setNext S slot i ep) (fun r s'=>wpAny (model prog w) A (match r with
   |some (x,next)=>do
    setField (.ref I) 0 (rawInt next)
    setField (.ref I) 1 (rawInt ((i:Int)+1))
    ret x
   |none=>do
    setField (.ref I) 2 .none
    raiseNew (<-newExc (.type "StopIteration") [])) Q E s') E s):
  wpAny (model prog w) A (Builtin.«set_iterator.__next__» ⟨[.ref I],[]⟩) Q E s:=by
 show wpAny _ _ (fieldsOf (.ref I) >>=_) _ _ _
 refine aa (wpAny_fieldsOf hI rfl ?_)
 show wpAny _ _ (setEntries S >>=_) _ _ _
 unfold setEntries
 refine aa (aa (cU hS hd hf (ao ?_)))
 have e:((es.size:Int) !=(n:Int))=false:=by rw[hn];simp
 show wpAny _ _ (if((es.size:Int) !=(n:Int))=true then _ else _) _ _ _
 rw[e,av cq]
 refine aa (cV h (fun r s' hr=>?_) fun _ _ z=>z)
 cases r with
 |none=>exact hr
 |some p=>obtain⟨x,next⟩:=p;exact hr
end
section
variable{prog:Program}{w:World}{A:Around}{E:Value->Shared->Prop}{s:Shared}{I S:Addr}{first:Value}{i n ep:Nat}{o:Obj}{es:Array (Int×Value)}{t:SetTable}
theorem mq{Q:Bool->Shared->Prop}(h:Q (bt w) s):wpAny (model prog w) A setsByText Q E s:=by
 unfold setsByText
 exact aa (oF (ao h))
theorem CB{slot:Nat}{Q:Option (Value×Nat)->Shared->Prop}(hS:s.heap.get? S=some o)(hd:o.data=.set es ep t)(hf:t.fits es.size=true)(hb:bt w=false)(hdr:(!t.plain && decide (es.size >1))=false)(hl:t.led=true)
  (h:Q (match es[SetTable.below t.place slot]?,t.place[SetTable.below t.place slot]? with
   |some (_,x),some j=>some (x,j+1)
   |_,_=>none) s):wpAny (model prog w) A (setNext S slot i ep) Q E s:=by
 unfold setNext
 refine aa (cU hS hd hf ?_)
 dsimp only
 refine aa (mq ?_)
 rw[hb,av cq]
 show wpAny _ _ (if(!t.plain && decide (es.size >1))=true then _ else _) _ _ _
 rw[hdr,av cq]
 refine aa ?_
 show wpAny _ _ (if(!t.led && !es.isEmpty)=true then _ else _) _ _ _
 rw[hl]
 exact ao (ao h)
theorem CC{slot:Nat}{Q:Option (Value×Nat)->Shared->Prop}(hS:s.heap.get? S=some o)(hd:o.data=.set es ep t)(hf:t.fits es.size=true)(hb:bt w=true)
  (h:Q (((pickOrder (w.params.setOrder S ep) es)[i]?).map fun e=>(e.2,slot)) s):wpAny (model prog w) A (setNext S slot i ep) Q E s:=by
 unfold setNext
 refine aa (cU hS hd hf ?_)
 dsimp only
 refine aa (mq ?_)
 rw[hb,aH rfl]
 have e:(ep !=ep)=false:=by simp
 rw[e,av cq]
 unfold setWalk
 refine aa (aa (cU hS hd hf ?_))
 dsimp only
 refine aa (mq ?_)
 rw[hb,aH rfl]
 exact aa (oF (ao (ao h)))
theorem CF{Q:Fin->Shared->Prop}(hh:A.handled=none)(hE:∀h' e,(∀b o,s.heap.get? b=some o->h'.get? b=some o)->(∃o,h'.get? e=some o/\o.cls=.type "StopIteration")->E (.ref e) {s with heap:=h'}):
  wpAny (model prog w) A (do raiseNew (<-newExc (.type "StopIteration") [])) Q E s:=by
 refine aa ?_
 simp only[newExc,newTuple]
 refine aa (iw ?_ (by size_fits))
 refine aa (m:=firstArgMember _ _) (wpAny_of_eq (a:=Value.none) (by first|rfl|(simp only[firstArgMember];rfl)) ?_)
 refine iw ?_ (by size_fits)
 simp only[raiseNew]
 refine aa (wpAny_handled ?_)
 rw[hh]
 refine aa (ao (wpAny_throw ?_))
 exact hE _ _ (fun b o e=>aW _ (aW _ e)) ⟨_,bV _ rfl,rfl⟩
theorem sr{Q:Option Value->Shared->Prop}(hI:s.heap.get? I=some (sk first i S n ep))
  (h:wpAny (model prog w) A.in1 (Builtin.«set_iterator.__next__» ⟨[.ref I],[]⟩) (fun fin s'=>∃v,fin=.done (.ret v)/\Q (some v) s') (fun e s'=>(∃a o,e=.ref a/\s'.heap.get? a=some o/\o.cls=.type "StopIteration")/\Q none s') s):
  wpAny (model prog w) A (pyNext (.ref I)) Q E s:=by
 have hT:s.TypeIs (.ref I) "set_iterator":=⟨_,hI,rfl⟩
 unfold pyNext
 refine aa (wpAny_attempt (oy (name:=Str.ofString "__next__") hT FF.slot_si_next
  (ix FF.slot_si_next hT FF.entry_si_next (cV h (fun fin s' ⟨v,e,q⟩=>⟨v,e,ao q⟩) fun e s' ⟨⟨a,o,e1,ho,hc⟩,q⟩=>?_) (FF.args_si_next _))))
 subst e1
 refine aa (uI (T:="StopIteration") (b:=true) ⟨o,ho,hc⟩ isSubtype_stop ?_)
 exact ao q
end
section
variable{prog:Program}{w:World}{A:Around}{I S:Addr}{ep:Nat}{o:Obj}{es:Array (Int×Value)}{t:SetTable}
theorem CG(hh:A.handled=none)(hIS:S≠I)(hd:o.data=.set es ep t)(hf:t.fits es.size=true)(vs:List Value)(hv:vs.length=es.size)(G:Nat->Nat->Prop)
  (hgo:∀(A':Around) (i slot:Nat) (s:Shared) (Q:Option (Value×Nat)->Shared->Prop) (E:Value->Shared->Prop) (v:Value),G i slot->s.heap.get? S=some o->vs[i]?=some v->(∀slot',G (i+1) slot'->Q (some (v,slot')) s)->wpAny (model prog w) A' (setNext S slot i ep) Q E s)
  (hend:∀(A':Around) (slot:Nat) (s:Shared) (Q:Option (Value×Nat)->Shared->Prop) (E:Value->Shared->Prop),G es.size slot->s.heap.get? S=some o->Q none s->wpAny (model prog w) A' (setNext S slot es.size ep) Q E s):
  Walks prog w A I [I,S] [I] es.size (fun i v=>vs[i]?=some v) (fun i h=>h.get? S=some o/\∃slot:Nat,G i slot/\h.get? I=some (sk (rawInt slot) i S es.size ep)) where
 sub:=fun b hb=>by simp at hb;simp[hb]
 frame:=fun i h h' st k=>by
  obtain⟨h1,slot,g,h2⟩:=st
  exact⟨k S (by simp) o h1,slot,g,k I (by simp) _ h2⟩
 item:=fun i s Q E hi st hQ=>by
  obtain⟨h1,slot,g,h2⟩:=st
  have hiv:i<vs.length:=by omega
  refine sr h2 (CA h2 h1 hd hf rfl (hgo _ i slot s _ _ vs[i] g h1 (aN hiv) fun slot' g'=>?_))
  refine aa (j7 h2 (by simp) fun h3 h3I sb3=>?_)
  refine aa (j7 h3I (by simp) fun h4 h4I sb4=>?_)
  refine ao ⟨_,rfl,?_⟩
  refine hQ _ h4 s.toks (aN hiv) ⟨sb4.extBut _ _ hIS (sb3.extBut _ _ hIS h1),slot',g',?_⟩ fun b o' hb e=>?_
  ·rw[h4I];rfl
  ·have hb':b≠I:=by simpa using hb
   exact sb4.extBut _ _ hb' (sb3.extBut _ _ hb' e)
 done:=fun s Q E st hQ=>by
  obtain⟨h1,slot,g,h2⟩:=st
  refine sr h2 (CA h2 h1 hd hf rfl (hend _ slot s _ _ g h1 ?_))
  refine aa (j7 h2 (by simp) fun h3 h3I sb3=>?_)
  refine CF (show A.in1.handled=none from hh) fun h4 e k4 he=>⟨?_,hQ h4 s.toks fun b o' hb q=>k4 _ _ (sb3.extBut _ _ (by simpa using hb) q)⟩
  obtain⟨oe,q1,q2⟩:=he
  exact⟨e,oe,rfl,q1,q2⟩
 self:=fun i s Q E st hQ=>by
  obtain⟨h1,slot,g,h2⟩:=st
  have hT:s.TypeIs (.ref I) "set_iterator":=⟨_,h2,rfl⟩
  refine wpAny_pyIter_slot hT FF.slot_si_iter (ix FF.slot_si_iter hT FF.entry_si_iter ?_ (FF.args_si_iter _))
  show wpAny _ _ (ret (.ref I)) _ _ s
  exact ao ⟨_,rfl,"set_iterator",_,hT,FF.slot_si_next.lookup,hQ⟩
end
abbrev jg(ps:List Nat):Obj:={cls:=.type "tuple",data:=.seq (ps.map fun(p:Nat)=>rawInt p).toArray}
section
variable{prog:Program}{w:World}{A:Around}{I S TT:Addr}{ep:Nat}{o:Obj}{es:Array (Int×Value)}{t:SetTable}
theorem Ju(hh:A.handled=none)(n1:S≠I)(n2:TT≠I)(hd:o.data=.set es ep t)(hf:t.fits es.size=true)(ps:List Nat)(hps:ps.Perm (List.range es.size))(vs:List Value)
  (hvi:∀(i p:Nat),ps[i]?=some p->∃e,es[p]?=some e/\vs[i]?=some e.2):
  Walks prog w A I [I,S,TT] [I] es.size (fun i v=>vs[i]?=some v) (fun i h=>h.get? S=some o/\h.get? TT=some (jg ps)/\h.get? I=some (sk (.ref TT) i S es.size ep)) where
 sub:=fun b hb=>by simp at hb;simp[hb]
 frame:=fun i h h' st k=>by
  obtain⟨h1,h0,h2⟩:=st
  exact⟨k S (by simp) o h1,k TT (by simp) _ h0,k I (by simp) _ h2⟩
 item:=fun i s Q E hi st hQ=>by
  obtain⟨h1,h0,h2⟩:=st
  have hpl:ps.length=es.size:=by rw[hps.length_eq,iR]
  have hip:i<ps.length:=by omega
  obtain⟨e,he,hve⟩:=hvi i ps[i] (aN hip)
  refine sr h2 ?_
  show wpAny _ _ (fieldsOf (.ref I) >>=_) _ _ _
  refine aa (wpAny_fieldsOf h2 rfl ?_)
  show wpAny _ _ (setEntries S >>=_) _ _ _
  unfold setEntries
  refine aa (aa (cU h1 hd hf (ao ?_)))
  have e0:((es.size:Int) !=(es.size:Int))=false:=by simp
  show wpAny _ _ (if((es.size:Int) !=(es.size:Int))=true then _ else _) _ _ _
  rw[e0,av cq]
  show wpAny _ _ (seqItems? (.ref TT) >>=_) _ _ _
  refine aa (ku h0 rfl ?_)
  have e1:(ps.map fun(p:Nat)=>rawInt p).toArray[((i:Int)).toNat]?=some (rawInt ps[i]):=by simp[hip]
  dsimp only
  rw[e1]
  show wpAny _ _ (setNextDrawn S ps[i] ep >>=_) _ _ _
  unfold setNextDrawn
  refine aa (aa (cU h1 hd hf ?_))
  dsimp only
  have e2:(ep !=ep)=false:=by simp
  rw[e2,av cq,he]
  refine ao ?_
  refine aa (j7 h2 (by simp) fun h3 h3I sb3=>?_)
  refine ao ⟨_,rfl,?_⟩
  refine hQ _ h3 s.toks hve ⟨sb3.extBut _ _ n1 h1,sb3.extBut _ _ n2 h0,?_⟩ fun b o' hb q=>sb3.extBut _ _ (by simpa using hb) q
  rw[h3I];rfl
 done:=fun s Q E st hQ=>by
  obtain⟨h1,h0,h2⟩:=st
  have hpl:ps.length=es.size:=by rw[hps.length_eq,iR]
  refine sr h2 ?_
  show wpAny _ _ (fieldsOf (.ref I) >>=_) _ _ _
  refine aa (wpAny_fieldsOf h2 rfl ?_)
  show wpAny _ _ (setEntries S >>=_) _ _ _
  unfold setEntries
  refine aa (aa (cU h1 hd hf (ao ?_)))
  have e0:((es.size:Int) !=(es.size:Int))=false:=by simp
  show wpAny _ _ (if((es.size:Int) !=(es.size:Int))=true then _ else _) _ _ _
  rw[e0,av cq]
  show wpAny _ _ (seqItems? (.ref TT) >>=_) _ _ _
  refine aa (ku h0 rfl ?_)
  have e1:(ps.map fun(p:Nat)=>rawInt p).toArray[((es.size:Int)).toNat]?=none:=by simp[hpl]
  dsimp only
  rw[e1]
  refine aa (j7 h2 (by simp) fun h3 h3I sb3=>?_)
  refine aa (j7 h3I (by simp) fun h4 h4I sb4=>?_)
  refine CF (show A.in1.handled=none from hh) fun h5 e k5 he=>⟨?_,hQ h5 s.toks fun b o' hb q=>k5 _ _ (sb4.extBut _ _ (by simpa using hb) (sb3.extBut _ _ (by simpa using hb) q))⟩
  obtain⟨oe,q1,q2⟩:=he
  exact⟨e,oe,rfl,q1,q2⟩
 self:=fun i s Q E st hQ=>by
  obtain⟨h1,h0,h2⟩:=st
  have hT:s.TypeIs (.ref I) "set_iterator":=⟨_,h2,rfl⟩
  refine wpAny_pyIter_slot hT FF.slot_si_iter (ix FF.slot_si_iter hT FF.entry_si_iter ?_ (FF.args_si_iter _))
  show wpAny _ _ (ret (.ref I)) _ _ s
  exact ao ⟨_,rfl,"set_iterator",_,hT,FF.slot_si_next.lookup,hQ⟩
end
theorem su:∀{l:List (Int×Value)},(∀e∈l,gF e)->IntsAre (l.map (·.2)) (l.map bT)
 |[],_=>.nil
 |e::r,h=>by
  obtain⟨k,tok,rfl⟩:=h e dR
  exact .cons k tok (su fun x hx=>h x (d_ _ hx))
theorem Jv(es:Array (Int×Value))(d:Int×Value):(List.range es.size).map (fun p=>es.getD p d)=es.toList:=by
 apply List.ext_getElem
 ·simp
 ·intro i h1 h2
  have hi:i<es.size:=by simpa using h1
  simp[Array.getD,hi]
theorem Jw{t:SetTable}{n:Nat}(h:t.fits n=true):t.place.size=n:=by
 simp only[SetTable.fits,fF,beq_iff_eq]at h
 exact h.1
section
variable{prog:Program}{w:World}{A:Around}{E:Value->Shared->Prop}{s:Shared}{S:Addr}{ks:List Int}
theorem Jx{Q:Value->Shared->Prop}(hS:aQ w s.heap S ks)
  (h:∀(I:Addr) (fp wr:List Addr) (St:Nat->Heap->Prop) (vs:List Value) (ns:List Int) (h':Heap) (d':Drawn),(∀A':Around,A'.handled=none->Walks prog w A' I fp wr ks.length (fun i v=>vs[i]?=some v) St)->St 0 h'->
   (∀b∈fp,b<h'.objs.size)->I∈fp->(∀b∈wr,s.heap.objs.size<=b)->(∀b∈fp,b=S\/s.heap.objs.size<=b)->IntsAre vs ns->ns.Perm ks->(∀b o,s.heap.get? b=some o->h'.get? b=some o)->Q (.ref I) {s with heap:=h',drawn:=d'}):
  wpAny (model prog w) A (pyIter (.ref S)) Q E s:=by
 obtain⟨o,es,ep,t,ho,cX,hd,rfl,bA,da,hb,hf,hr,hl⟩:=hS
 have hT:s.TypeIs (.ref S) "set":=⟨o,ho,cX.1⟩
 have hSlt:S<s.heap.objs.size:=bg ho
 have hkl:(es.toList.map bT).length=es.size:=by simp
 refine wpAny_pyIter_slot hT PySem.F.slot_set_iter (ix PySem.F.slot_set_iter hT FF.entry_set_iter ?_ (PySem.F.args_set_iter_1 _))
 show wpAny _ _ (Builtin.Frozenset.sizeOf S >>=_) _ _ _
 unfold Builtin.Frozenset.sizeOf setEntries
 refine aa (aa (aa (cU ho hd hf (ao (ao ?_)))))
 unfold setDrawn
 refine aa (aa (cU ho hd hf ?_))
 dsimp only
 refine aa (mq (ao ?_))
 show wpAny _ _ (if(!bt w && (!t.plain && decide (es.size >1)))=true then _ else _) _ _ _
 have old:∀(x:Obj) b u,s.heap.get? b=some u->(s.heap.push x).get? b=some u:=fun x b u e=>aW _ e
 by_cases hdr:(!bt w && (!t.plain && decide (es.size >1)))=true
 ·rw[aH hdr]
  refine aa (Cw es.size (List.range es.size) _ _ (by simp) fun ps d pps=>?_)
  refine aa (wpAny_newTuple ?_ (by rw[ar,pps.length_eq,iR];exact lQ (by simpa using hb)))
  unfold setEpoch
  refine aa (aa (cU (s:={s with heap:=s.heap.push (jg ps),drawn:=d}) (old _ _ _ ho) hd hf (ao ?_)))
  show wpAny _ _ (do ret (<-newFields "set_iterator" [.ref s.heap.objs.size,rawInt 0,.ref S,rawInt es.size,rawInt ep])) _ _ {s with heap:=s.heap.push (jg ps),drawn:=d}
  refine aa (iw (ao ⟨_,rfl,"set_iterator",_,⟨_,bV _ rfl,rfl⟩,FF.slot_si_next.lookup,?_⟩))
  have hz:(s.heap.push (jg ps)).objs.size=s.heap.objs.size+1:=eB ..
  have n1:S≠(s.heap.push (jg ps)).objs.size:=by rw[hz];exact bP (jx hSlt)
  have n2:s.heap.objs.size≠(s.heap.push (jg ps)).objs.size:=by rw[hz];exact bP (lT _)
  have pe:(ps.map fun p=>es.getD p (0,.none)).Perm es.toList:=by
   have:=pps.map fun p=>es.getD p (0,Value.none)
   rw[Jv]at this
   exact this
  have plt:∀p∈ps,p<es.size:=fun p hp=>by simpa using pps.mem_iff.mp hp
  have ke:(es.toList.map bT).length=es.size:=hkl
  rw[ke]at h
  refine h (s.heap.push (jg ps)).objs.size [(s.heap.push (jg ps)).objs.size,S,s.heap.objs.size] [(s.heap.push (jg ps)).objs.size] _ ((ps.map fun p=>es.getD p (0,.none)).map (·.2)) ((ps.map fun p=>es.getD p (0,.none)).map bT) _ d
   (fun A' hh'=>Ju hh' n1 n2 hd hf ps pps _ fun i p hp=>?_) ⟨aW _ (old _ _ _ ho),aW _ (bV _ rfl),bV _ rfl⟩ (fun b hb=>?_) (by simp) (fun b hb=>?_) (by simp[hz])
   (su fun e he=>bA e (pe.mem_iff.mp he)) (pe.map _) (fun b u e=>aW _ (aW _ e))
  ·have hlt:=plt p (dE hp)
   refine⟨es[p],ox hlt,?_⟩
   rw[gX,aI,hp]
   simp[Array.getD,hlt]
  ·rw[eB,hz]
   simp only[cE,dk,eO]at hb
   rcases hb with rfl|rfl|rfl
   ·rw[hz];exact lT _
   ·exact jx (jx hSlt)
   ·exact jx (lT _)
  ·have e:b=(s.heap.push (jg ps)).objs.size:=by simpa using hb
   rw[e,hz];exact n0 _
 ·rw[av hdr]
  refine aa (ao ?_)
  unfold setEpoch
  refine aa (aa (cU ho hd hf (ao ?_)))
  show wpAny _ _ (do ret (<-newFields "set_iterator" [rawInt 0,rawInt 0,.ref S,rawInt es.size,rawInt ep])) _ _ s
  refine aa (iw (ao ⟨_,rfl,"set_iterator",_,⟨_,bV _ rfl,rfl⟩,FF.slot_si_next.lookup,?_⟩))
  have hne:S≠s.heap.objs.size:=bP hSlt
  have flt:∀(x:Obj),∀b∈[s.heap.objs.size,S],b<(s.heap.push x).objs.size:=fun x b hb=>by
   rw[eB]
   simp only[cE,dk,eO]at hb
   rcases hb with rfl|rfl
   ·exact lT _
   ·exact jx hSlt
  by_cases hbt:bt w=true
  ·have pp:=Cz (w.params.setOrder S ep) es
   have hps:(pickOrder (w.params.setOrder S ep) es).size=es.size:=by rw[<-gq,pp.length_eq,gq]
   have ke:(es.toList.map bT).length=es.size:=hkl
   rw[ke]at h
   refine h s.heap.objs.size [s.heap.objs.size,S] [s.heap.objs.size] _ ((pickOrder (w.params.setOrder S ep) es).toList.map (·.2)) ((pickOrder (w.params.setOrder S ep) es).toList.map bT) _ s.drawn
    (fun A' hh'=>CG hh' hne hd hf ((pickOrder (w.params.setOrder S ep) es).toList.map (·.2)) (by simp[hps]) (fun _ _=>True) (fun A'' i slot s' Q' E' v _ hS' hv hq=>CC hS' hd hf hbt ?_) fun A'' slot s' Q' E' _ hS' hq=>CC hS' hd hf hbt ?_)
    ⟨old _ _ _ ho,0,trivial,bV _ rfl⟩ (flt _) (by simp) (by simp) (by simp) (su fun e he=>bA e (pp.mem_iff.mp he)) (pp.map _) (old _)
   ·rw[aI,zP]at hv
    cases q:(pickOrder (w.params.setOrder S ep) es)[i]? with
    |none=>rw[q]at hv;cases hv
    |some e=>
     rw[q]at hv
     cases hv
     exact hq slot trivial
   ·rw[zN (by omega)]
    exact hq
  ·have hbf:bt w=false:=by cases q:bt w<;>simp_all
   have hled:t.led=true:=hl.resolve_right hbt
   have hdr':(!t.plain && decide (es.size >1))=false:=by
    rw[hbf]at hdr
    simpa using hdr
   have hpl:=Jw hf
   have ke:(es.toList.map bT).length=es.size:=hkl
   rw[ke]at h
   refine h s.heap.objs.size [s.heap.objs.size,S] [s.heap.objs.size] _ (es.toList.map (·.2)) (es.toList.map bT) _ s.drawn
    (fun A' hh'=>CG hh' hne hd hf (es.toList.map (·.2)) (by simp) (fun i slot=>SetTable.below t.place slot=i) (fun A'' i slot s' Q' E' v hg hS' hv hq=>CB hS' hd hf hbf hdr' hled ?_) fun A'' slot s' Q' E' hg hS' hq=>CB hS' hd hf hbf hdr' hled ?_)
    ⟨old _ _ _ ho,0,Jk hr,bV _ rfl⟩ (flt _) (by simp) (by simp) (by simp) (su bA) (iS _) (old _)
   ·rw[hg]
    rw[aI,zP]at hv
    cases q:es[i]? with
    |none=>rw[q]at hv;cases hv
    |some e=>
     rw[q]at hv
     cases hv
     have hi:i<t.place.size:=by rw[hpl];exact(Array.getElem?_eq_some_iff.mp q).1
     rw[ox hi]
     exact hq _ (Jl hr (ox hi))
   ·rw[hg,zN (aG _)]
    exact hq
end
namespace FF
theorem look_set_len:typeLookup (.type "set") "__len__"=pure (some (.builtin "set.__len__")):=by rw[typeLookup_type,G9];kernel_rfl
end FF
section
variable{prog:Program}{w:World}{A:Around}{E:Value->Shared->Prop}{s:Shared}{S:Addr}{ks:List Int}
theorem Jy{Q:Bool->Shared->Prop}(hT:s.TypeIs (.ref S) "set")(h:Q false s):wpAny (model prog w) A (Builtin.List.listLengthHint (.ref S)) Q E s:=by
 unfold Builtin.List.listLengthHint
 refine aa (A1 hT FF.look_set_len ?_)
 (generalize hid:("set.__len__":String)=id0;(fail_if_success (clear hid id0));wp_delta;rw[show splitId id0=some ("set","__len__")from by subst hid;decide+kernel];subst hid)
 refine aa (uI (b:=true) hT sub_set_self ?_)
 simp only[Bool.not_true,qV,kA]
 refine aa (wpAny_typeOf hT ?_)
 exact ao h
theorem Jz{Q:List Value->Shared->Prop}(hh:A.handled=none)(hS:aQ w s.heap S ks)
  (h:∀(vs:List Value) (ns:List Int) (h':Heap) (d':Drawn) (tk:Nat),IntsAre vs ns->ns.Perm ks->(∀b o,s.heap.get? b=some o->h'.get? b=some o)->s.heap.objs.size<h'.objs.size->Q vs {s with heap:=h',drawn:=d',toks:=tk}):
  wpAny (model prog w) A (collect (.ref S)) Q E s:=by
 have hSlt:=hS.lt
 have hkb:ks.length<=sizeLine:=by obtain⟨_,_,_,_,_,_,_,_,_,_,hb,_⟩:=hS;exact lQ hb
 unfold collect
 refine aa (wpAny_runValue (lV PySem.F.entry_proto_collect ?_))
 rw[oA PySem.F.plain_proto_collect _]
 show wpAny _ A.in1 (newList [] >>=fun l=>again (.builtin "list.__iadd__" ⟨[l,.ref S],[]⟩)) _ _ s
 refine aa (iw ?_)
 refine ao ⟨uM PySem.F.plain_list_iadd _,lV PySem.F.entry_list_iadd ?_⟩
 rw[oA PySem.F.plain_list_iadd _]
 generalize hh1:s.heap.push {cls:=.type "list",data:=.seq ([]:List Value).toArray}=h1
 have z1:h1.objs.size=s.heap.objs.size+1:=by rw[<-hh1];exact eB ..
 have old1:∀b o,s.heap.get? b=some o->h1.get? b=some o:=fun b o e=>by rw[<-hh1];exact aW _ e
 have hL1:h1.get? s.heap.objs.size=some {cls:=.type "list",data:=.seq #[]}:=by rw[<-hh1];exact bV _ rfl
 have hS1:aQ w h1 S ks:=hS.at fun o e=>old1 _ _ e
 have hT1:Shared.TypeIs {s with heap:=h1} (.ref S) "set":=by obtain⟨o,_,_,_,e,x,_⟩:=hS1;exact⟨o,e,x.1⟩
 have hne:(s.heap.objs.size==S)=false:=by simpa using(gv hSlt)
 have h0:Builtin.List.listSameRef (.ref s.heap.objs.size) (.ref S)=false:=hne
 show wpAny _ A.in1 (Builtin.List.listExtendWith (.ref s.heap.objs.size) (.ref S) (.ref s.heap.objs.size)) _ _ _
 unfold Builtin.List.listExtendWith
 refine aa (wpAny_typeOf hT1 ?_)
 rw[av (by rw[h0];decide)]
 refine aa (Jx hS1 fun I fp wr St vs ns h2 d2 W st2 ft2 hI hw2 hf2 hi2 hp2 old2=>?_)
 have hS2:aQ w h2 S ks:=hS1.at fun o e=>old2 _ _ e
 have hT2:Shared.TypeIs {s with heap:=h2,drawn:=d2} (.ref S) "set":=by obtain⟨o,_,_,_,e,x,_⟩:=hS2;exact⟨o,e,x.1⟩
 have hL2:=old2 _ _ hL1
 refine aa (c_ (Jy hT2 ?_))
 rw[aH (by rfl)]
 refine aa (i9 ?_)
 unfold Builtin.List.listTouch
 refine aa (aa (listUpdate_at hL2 rfl ?_))
 have hL3:=A3 hL2 (fun xs:Array Value=>xs.push .none)
 refine listUpdate_at hL3 rfl ?_
 have hL4:=A3 hL3 (fun xs:Array Value=>xs.pop)
 have hLf:s.heap.objs.size∉fp:=fun hm=>by
  rcases hf2 _ hm with z|z
  ·exact absurd hSlt (by rw[<-z];exact jA _)
  ·rw[show Shared.heap {s with heap:=h1}=h1 from rfl,z1]at z
   exact absurd z (Nat.not_succ_le_self _)
 have W':=(W A.in1 (show A.in1.handled=none from hh)).toS
 have up:∀b∈fp,∀o,h2.get? b=some o->((h2.update s.heap.objs.size (Obj.mapSeq fun xs:Array Value=>xs.push .none)).update s.heap.objs.size (Obj.mapSeq fun xs:Array Value=>xs.pop)).get? b=some o:=fun b hb o e=>by
  have hb':s.heap.objs.size≠b:=fun z=>hLf (by rw[z];exact hb)
  rw[mV _ _ hb',mV _ _ hb']
  exact e
 have st4:=(W A.in1 (show A.in1.handled=none from hh)).frame 0 _ _ st2 up
 refine ao ⟨uM PySem.F.plain_extend_loop _,codeAny_extend_loopS W' hkb s.heap.objs.size hLf _ ks.length 0 _ _ _ rfl (b_ _) st4 hL4 (ItemsOf.nil _) fun s' acc' c' hm hS' hacc=>?_⟩
 show wpAny _ A (load s.heap.objs.size >>=_) _ _ s'
 refine aa (wpAny_load hS' (ao ?_))
 obtain⟨h5,g5,d5,t5,o5⟩:=s'
 obtain rfl:g5=s.gens:=hm.gens
 obtain rfl:d5=d2:=hm.drawn
 obtain rfl:o5=s.os:=hm.os
 have ev:acc'.toList=vs:=by
  have hvl:vs.length=ks.length:=by rw[oI hi2,hp2.length_eq]
  apply List.ext_getElem?
  intro i
  rw[zP]
  cases q:acc'[i]? with
  |some v=>exact(hacc.2 i v q).symm
  |none=>
   have:acc'.size<=i:=by simpa using q
   rw[iQ (by have:=hacc.1;omega)]
 show Q acc'.toList _
 rw[ev]
 refine h vs ns h5 d5 t5 hi2 hp2 (fun b o e=>?_) (bg hS')
 have hbL:b≠s.heap.objs.size:=bP (bg e)
 refine hm.heap b o (fun z=>?_) ?_
 ·rcases cE.mp z with z|z
  ·exact hbL z
  ·have:=hw2 b z
   rw[show Shared.heap {s with heap:=h1}=h1 from rfl,z1]at this
   exact absurd (bg e) (Nat.not_lt.mpr (Nat.le_of_succ_le this))
 ·show((h2.update _ _).update _ _).get? b=some o
  rw[mV _ _ (Ne.symm hbL),mV _ _ (Ne.symm hbL)]
  exact old2 _ _ (old1 _ _ e)
end
section
variable{prog:Program}{w:World}{A:Around}{E:Value->Shared->Prop}{s:Shared}{S:Addr}{ks:List Int}
theorem JA{Q:Value->Shared->Prop}(hh:A.handled=none)(hS:aQ w s.heap S ks)(h64:ks.length<64)
  (h:∀(L:Addr) (n:Nat) (out:Array Value) (ns:List Int) (h':Heap) (d':Drawn) (tk:Nat),IntsAre out.toList ns->ns.Perm ks->ns.Pairwise (· <= ·)->h'.get? L=some (seqObj "list" out n)->s.heap.objs.size<=L->
   (∀b o,s.heap.get? b=some o->h'.get? b=some o)->Q (.ref L) {s with heap:=h',drawn:=d',toks:=tk}):
  wpAny (model prog w) A (call (.builtin "sorted") [.ref S]) Q E s:=by
 refine Calls.call_function_entry kind_sorted plain_sorted entry_sorted (args_sorted1 _) ?_
 unfold Builtin.«sorted»
 refine aa (m:=checkCount "sorted" 1 1 _) (ao ?_)
 refine aa (Jz hh hS fun vs ns h2 d2 t2 hi hp old hlt=>?_)
 have hvl:vs.length<64:=by rw[oI hi,hp.length_eq];exact h64
 refine aa (wpAny_newList ?_ (by rw[m_];omega))
 have hoL:(h2.push (seqObj "list" vs.toArray 0)).get? h2.objs.size=some (seqObj "list" vs.toArray 0):=bV _ rfl
 show wpAny _ _ _ _ _ {s with heap:=h2.push (seqObj "list" vs.toArray 0),drawn:=d2,toks:=t2}
 refine aa (c_ (ix slot_list_sort ⟨_,hoL,rfl⟩ entry_list_sort (list_sort_tree hoL hi hvl fun out ns' a1 a2 a3=>⟨_,rfl,?_⟩) (args_list_sort _)))
 have hz:s.heap.objs.size<=h2.objs.size:=uO hlt
 have keep:∀b o,s.heap.get? b=some o->(sortedHeap (h2.push (seqObj "list" vs.toArray 0)) h2.objs.size vs out).get? b=some o:=fun b o e=>by
  have e2:=old b o e
  have hb:b<h2.objs.size:=bg e2
  unfold sortedHeap
  rw[mV _ _ (gv hb)]
  refine aW _ (aW _ ?_)
  rw[mV _ _ (gv hb)]
  exact aW _ e2
 have ho1:=A3 hoL (fun _=>(#[]:Array Value))
 have ho3:=A3 (aW (seqObj "list" #[] 0) (aW (seqObj "tuple" vs.toArray 0) ho1)) (fun _=>out)
 exact ao ⟨_,rfl,h h2.objs.size _ out ns' _ d2 t2 a1 (a2.trans hp) a3 ho3 hz keep⟩
theorem JB{Q:Value->Shared->Prop}(hS:aQ w s.heap S ks)(h:∀tk tk',Q (.int ks.length tk) {s with toks:=tk'}):
  wpAny (model prog w) A (call (.builtin "len") [.ref S]) Q E s:=by
 obtain⟨o,es,ep,t,ho,cX,hd,rfl,bA,da,hb,hf,hr,hl⟩:=hS
 have hb':es.size<4096:=by simpa[scanBound]using hb
 refine call_len_set ho cX hd hf (by omega) ?_
 have e:((es.toList.map bT).length:Int)=es.size:=by simp
 have q:=h (s.toks+1) (s.toks+1+1)
 rw[e]at q
 exact q
end
section
variable{prog:Program}{w:World}{A:Around}{E:Value->Shared->Prop}{s:Shared}
theorem CH{a:Addr}{ks:List Int}{k:Int}{tok:Tok}{Q:Option Nat->Shared->Prop}(hS:aQ w s.heap a ks)(h:∀r:Option Nat,r.isSome=decide (k∈ks)->Q r s):
  wpAny (model prog w) A (setFind a (.int k tok) (hashInt k)) Q E s:=by
 obtain⟨o,es,ep,t,ho,cX,hd,rfl,bA,da,hb,hf,hr,hl⟩:=hS
 have hbs:es.size<scanBound:=by simpa using hb
 have hel':ElemsOf (intKind prog w) es.toList:=vX bA
 unfold setFind setFindIn
 refine aa (cU ho hd hf ?_)
 dsimp only
 rw[byScan_of (knd:=intKind prog w) rfl hbs hel']
 simp only[↓reduceIte]
 refine aa (i9 ?_)
 refine aa (wpAny_setScan_of (knd:=intKind prog w) (k:=k) (rh _ _ _ _) ho hd hf hel' ?_)
 cases hq:List.findIdx? (fun e=>(intKind prog w).is k e.2) es.toList with
 |none=>
  have hin:k∉es.toList.map bT:=(find_none (prog:=prog) (w:=w) bA).mp hq
  exact ao (h none (by rw[cz hin];rfl))
 |some j=>
  have hin:k∈es.toList.map bT:=by
   rcases Classical.em (k∈es.toList.map bT)with z|z
   ·exact z
   ·rw[(find_none (prog:=prog) (w:=w) bA).mpr z]at hq;cases hq
  exact ao (h (some (0+j)) (by rw[bZ hin];rfl))
theorem CI{Q:Bool->Shared->Prop}{l:List Addr}(hl:∀a∈l,∃ks,aQ w s.heap a ks)(h:Q true s):wpAny (model prog w) A (setsQuiet l) Q E s:=by
 unfold setsQuiet
 refine aa (cV (wpAny_forIn_list _ (fun dS b s'=>s'=s/\b=(none,())/\∀a∈dS,∃ks,aQ w s.heap a ks) (fun b s'=>s'=s/\b=(none,())) ?_ ?_ _ _ ⟨rfl,rfl,hl⟩) ?_ fun _ _ z=>z)
 ·rintro a dS b s' ⟨rfl,rfl,hm⟩
  obtain⟨ks,o,es,ep,t,ho,cX,hd,rfl,bA,da,hb,hf,hr,hl⟩:=hm a (dR ..)
  unfold setEntries
  refine aa (aa (cU ho hd hf (ao ?_)))
  refine aa (cV (wpAny_forIn_array' _ (fun dS b s₁=>s₁=s'/\b=(none,())/\∀e∈dS,gF e) (fun b s₁=>s₁=s'/\b=(none,())) ?_ ?_ _ _ ⟨rfl,rfl,bA⟩) ?_ fun _ _ z=>z)
  ·rintro e rest2 b s₁ ⟨rfl,rfl,hm2⟩
   obtain⟨k,tok,rfl⟩:=hm2 e (dR ..)
   exact ao ⟨rfl,rfl,fun x hx=>hm2 x (d_ _ hx)⟩
  ·rintro b s₁ ⟨rfl,rfl,_⟩
   exact⟨rfl,rfl⟩
  ·rintro b s₁ ⟨rfl,rfl⟩
   exact ao ⟨rfl,rfl,fun x hx=>hm x (d_ _ hx)⟩
 ·rintro b s' ⟨rfl,rfl,_⟩
  exact⟨rfl,rfl⟩
 ·rintro b s' ⟨rfl,rfl⟩
  exact ao h
end
section
variable{prog:Program}{w:World}{A:Around}{E:Value->Shared->Prop}{s:Shared}
theorem CJ{a:Addr}{ks:List Int}{Q:Array (Int×Value)->Shared->Prop}{o:Obj}{es:Array (Int×Value)}{ep:Nat}{t:SetTable}(ho:s.heap.get? a=some o)(hd:o.data=.set es ep t)(hf:t.fits es.size=true)
  (hl:t.led=true\/bt w=true) (hp:(bt w||(t.led && t.plain)||decide (es.size<=1))=true) (h:∀es':Array (Int×Value),es'.toList.Perm es.toList->Q es' s):
  wpAny (model prog w) A (setWalk a) Q E s:=by
 unfold setWalk
 refine aa (cU ho hd hf ?_)
 dsimp only
 refine aa (mq ?_)
 by_cases hb:bt w=true
 ·rw[hb,aH rfl]
  refine aa (oF ?_)
  exact ao (h _ (Cz _ _))
 ·rw[av hb]
  have hled:t.led=true:=hl.resolve_right hb
  have hbf:bt w=false:=by simpa using hb
  have e:(!t.plain && decide (es.size >1))=false:=by
   rw[hbf,hled]at hp
   by_cases q:t.plain=true
   ·simp[q]
   ·have q':t.plain=false:=by simpa using q
    rw[q']at hp⊢
    simp at hp
    simp;omega
  refine gw ?_
  rw[av (by show ¬((!t.plain && decide (es.size >1))=true);rw[e];decide)]
  show wpAny _ _ (do(if(!t.led && decide (es.size >1))=true then unsupported "set:maker-not-led" else pure PUnit.unit);pure es) _ _ _
  rw[hled]
  refine aa ?_
  rw[av (by simp)]
  exact ao (ao (h es (iS _)))
theorem CK{a f:Addr}{ks kf:List Int}{others:List Addr}{Q:Array (Int×Value)->Shared->Prop}(hS:aQ w s.heap a ks)(hF:aQ w s.heap f kf)(hq:∀b∈others,∃k,aQ w s.heap b k)
  (h:∀(es:Array (Int×Value)) (h':Heap),(∀e∈es.toList,gF e)->(es.toList.map bT).Perm ks->Heap.SameBut f s.heap h'->aQ w h' f kf->Q es {s with heap:=h'}):
  wpAny (model prog w) A (setWalkUnseen a others (some f)) Q E s:=by
 have hSq:∃k,aQ w s.heap a k:=⟨_,hS⟩
 obtain⟨o,es,ep,t,ho,cX,hd,rfl,bA,da,hb,hf,hr,hl⟩:=hS
 have e0:s={s with heap:=s.heap}:=by cases s;rfl
 unfold setWalkUnseen
 refine aa (cU ho hd hf ?_)
 dsimp only
 refine aa (mq ?_)
 by_cases hp:(bt w||(t.led && t.plain)||decide (es.size<=1))=true
 ·rw[aH hp]
  refine(CJ (ks:=[]) ho hd hf hl hp fun es' pe=>?_)
  rw[e0]
  exact h es' s.heap (fun e he=>bA e (pe.mem_iff.mp he)) (pe.map _) (j9 _ _) hF
 ·rw[av hp]
  refine aa (CI (fun b hb=>?_) ?_)
  ·rcases cE.mp hb with z|z
   ·rw[z];exact hSq
   ·exact hq b z
  refine gw ?_
  rw[av (by decide)]
  refine aa (i9 ?_)
  have hbf:bt w=false:=by simp at hp;exact hp.1.1
  have hled:t.led=true:=hl.resolve_right (by rw[hbf];decide)
  have hF':=hF
  obtain⟨of,ef,epf,tf,hof,hexf,hdf,hkf,helf,hndf,hbf2,hff,hrf,hlf⟩:=hF
  refine aa (cU hof hdf hff ?_)
  dsimp only
  refine gw ?_
  split
  ·refine aa (oE hof hdf ?_ (lQ (by rw[<-hkf]at hbf2;simpa using hbf2)))
   obtain⟨_,hS1⟩:=vZ (w:=w) hof hexf hdf (es':=ef) (t':={tf with led:=tf.led && t.led,plain:=tf.plain && t.plain}) helf (by rw[hkf];exact hndf) (by rw[<-hkf]at hbf2;simpa using hbf2) hff hrf (by
    show(tf.led && t.led)=true\/_
    rw[hled];rcases hlf with z|z
    ·left;rw[z];rfl
    ·right;exact z)
   rw[hkf]at hS1
   exact ao (h es _ bA (iS _) (lP _ _ _) hS1)
  ·refine aa (ao ?_)
   refine ao ?_
   rw[e0]
   exact h es s.heap bA (iS _) (j9 _ _) hF'
theorem JC{a:Addr}{ks:List Int}{others:List Addr}{Q:Array (Int×Value)->Shared->Prop}(hS:aQ w s.heap a ks)(hq:∀b∈others,∃k,aQ w s.heap b k)
  (h:∀(es:Array (Int×Value)),(∀e∈es.toList,gF e)->(es.toList.map bT).Perm ks->Q es s):
  wpAny (model prog w) A (setWalkUnseen a others none) Q E s:=by
 have hSq:∃k,aQ w s.heap a k:=⟨_,hS⟩
 obtain⟨o,es,ep,t,ho,cX,hd,rfl,bA,da,hb,hf,hr,hl⟩:=hS
 unfold setWalkUnseen
 refine aa (cU ho hd hf ?_)
 dsimp only
 refine aa (mq ?_)
 by_cases hp:(bt w||(t.led && t.plain)||decide (es.size<=1))=true
 ·rw[aH hp]
  exact(CJ (ks:=[]) ho hd hf hl hp fun es' pe=>(h es' (fun e he=>bA e (pe.mem_iff.mp he)) (pe.map _)))
 ·rw[av hp]
  refine aa (CI (fun b hb=>?_) ?_)
  ·rcases cE.mp hb with z|z
   ·rw[z];exact hSq
   ·exact hq b z
  refine gw ?_
  rw[av (by decide)]
  refine aa (i9 ?_)
  exact ao (h es bA (iS _))
end
namespace FF
theorem entry_set_and:entryFor table "set.__and__"=some Builtin.«frozenset.__and__»:=
 A8 (id':="frozenset.__and__") (by kernel_rfl) rfl (by decide+kernel) (by kernel_rfl)
theorem entry_set_sub:entryFor table "set.__sub__"=some Builtin.«frozenset.__sub__»:=
 A8 (id':="frozenset.__sub__") (by kernel_rfl) rfl (by decide+kernel) (by kernel_rfl)
end FF
section
variable{prog:Program}{w:World}{A:Around}{E:Value->Shared->Prop}{s:Shared}
theorem mv{a:Addr}{Q:Bool->Shared->Prop}(hT:s.TypeIs (.ref a) "set")(h:Q true s):wpAny (model prog w) A (Builtin.Frozenset.isAnySet (.ref a)) Q E s:=by
 unfold Builtin.Frozenset.isAnySet
 show wpAny _ _ (isInstance (.ref a) (.type "set") >>=_) _ _ _
 refine aa (uI (b:=true) hT sub_set_self ?_)
 exact ao h
theorem nN{a:Addr}{ks:List Int}{Q:Nat->Shared->Prop}(hS:aQ w s.heap a ks)(h:Q ks.length s):wpAny (model prog w) A (Builtin.Frozenset.sizeOf a) Q E s:=by
 obtain⟨o,es,ep,t,ho,cX,hd,rfl,bA,da,hb,hf,hr,hl⟩:=hS
 unfold Builtin.Frozenset.sizeOf setEntries
 refine aa (aa (cU ho hd hf (ao (ao ?_))))
 have e:(es.toList.map bT).length=es.size:=by simp
 rw[e]at h
 exact h
theorem v_{a:Addr}{Q:Value->Shared->Prop}(hT:s.TypeIs (.ref a) "set")(h:Q (.type "set") s):wpAny (model prog w) A (Builtin.Frozenset.baseOf a) Q E s:=by
 unfold Builtin.Frozenset.baseOf
 refine aa (uI (b:=true) hT sub_set_self ?_)
 exact ao h
theorem aQ.type{h:Heap}{a:Addr}{ks:List Int}(g:aQ w h a ks){s':Shared}(e:s'.heap=h):s'.TypeIs (.ref a) "set":=by
 obtain⟨o,_,_,_,ho,x,_⟩:=g
 exact⟨o,by rw[e];exact ho,x.1⟩
theorem w6{r:Addr}{p:Int->Bool}{f:Int×Value->PUnit->Sem (ForInStep PUnit)}{h0:Heap}{n:Nat}(hn:n<scanBound)
  (turn:∀(k:Int) (tok:Tok) (kr:List Int) (s':Shared) (R:ForInStep PUnit->Shared->Prop),Heap.SameBut r h0 s'.heap->aQ w s'.heap r kr->kr.length+1<scanBound->
   (∀h' kr',Heap.SameBut r s'.heap h'->aQ w h' r kr'->kr'.Perm (if p k then(if k∈kr then kr else k::kr)else kr)->R (.yield ()) {s' with heap:=h'})->wpAny (model prog w) A (f (hashInt k,.int k tok) ()) R E s'):
  ∀(es:List (Int×Value)) (kr:List Int) (s':Shared) (Q:PUnit->Shared->Prop),(∀e∈es,gF e)->Heap.SameBut r h0 s'.heap->aQ w s'.heap r kr->kr.length+es.length<=n->
   (∀h' kr',Heap.SameBut r h0 h'->aQ w h' r kr'->(∀x,x∈kr'↔x∈kr\/(x∈es.map bT/\p x=true))->Q () {s' with heap:=h'})->wpAny (model prog w) A (forIn es () f) Q E s'
 |[],kr,s',Q,bA,hb,hS,bI,h=>by
  have e0:s'={s' with heap:=s'.heap}:=by cases s';rfl
  rw[A9]
  refine ao ?_
  rw[e0]
  exact h _ kr hb hS fun x=>by simp
 |e::dS,kr,s',Q,bA,hb,hS,bI,h=>by
  obtain⟨k,tok,rfl⟩:=bA e (dR ..)
  rw[uJ]
  simp only[cM]at bI
  refine aa (turn k tok kr s' _ hb hS (by omega) fun h' kr' sb g pm=>?_)
  have hl:kr'.length<=kr.length+1:=by
   rw[pm.length_eq];split
   ·split
    ·exact n0 _
    ·simp
   ·exact n0 _
  refine w6 hn turn dS kr' {s' with heap:=h'} Q (fun e he=>bA e (d_ _ he)) (hb.trans sb) g (by omega) fun h2 kr2 sb2 g2 m2=>?_
  refine h h2 kr2 sb2 g2 fun x=>?_
  rw[m2,pm.mem_iff,cG,cE]
  have ek:bT (hashInt k,Value.int k tok)=k:=rfl
  rw[ek]
  by_cases hp:p k=true
  ·rw[aH hp]
   by_cases hin:k∈kr
   ·rw[aH hin]
    constructor
    ·rintro(z|z)
     ·exact .inl z
     ·exact .inr ⟨.inr z.1,z.2⟩
    ·rintro(z|⟨z|z,q⟩)
     ·exact .inl z
     ·rw[z];exact .inl hin
     ·exact .inr ⟨z,q⟩
   ·rw[av hin,cE]
    constructor
    ·rintro((z|z)|z)
     ·rw[z];exact .inr ⟨.inl rfl,hp⟩
     ·exact .inl z
     ·exact .inr ⟨.inr z.1,z.2⟩
    ·rintro(z|⟨z|z,q⟩)
     ·exact .inl (.inr z)
     ·exact .inl (.inl z)
     ·exact .inr ⟨z,q⟩
  ·rw[av hp]
   constructor
   ·rintro(z|z)
    ·exact .inl z
    ·exact .inr ⟨.inr z.1,z.2⟩
   ·rintro(z|⟨z|z,q⟩)
    ·exact .inl z
    ·rw[z]at q;exact absurd q hp
    ·exact .inr ⟨z,q⟩
theorem pX{a:Addr}{o:Obj}{es:Array (Int×Value)}{ep:Nat}{t:SetTable}{id:String}{Q:Unit->Shared->Prop}(ho:s.heap.get? a=some o)(hd:o.data=.set es ep t)(hf:t.fits es.size=true)(h:Q () s):
  wpAny (model prog w) A (Builtin.Frozenset.unchanged id a ep) Q E s:=by
 unfold Builtin.Frozenset.unchanged setEpoch
 refine aa (aa (cU ho hd hf (ao ?_)))
 refine gw ?_
 rw[av (by simp)]
 exact ao h
end
section
variable{prog:Program}{w:World}{A:Around}{E:Value->Shared->Prop}{s:Shared}
theorem CL{a b:Addr}(h:a≠b):(Value.ref b==Value.ref a)=false:=by
 have n:Value.ref b≠Value.ref a:=fun e=>h (by injection e with e;exact e.symm)
 first|exact beq_eq_false_iff_ne.mpr n|simp[n]|(simp;exact Ne.symm h)
theorem JD{a b:Addr}{ka kb:List Int}{id:String}{Q:Value->Shared->Prop}(hA:aQ w s.heap a ka)(hB:aQ w s.heap b kb)(hab:a≠b)
  (h:∀h' kr,aQ w h' s.heap.objs.size kr->(∀x,x∈kr↔x∈ka/\x∈kb)->h'.objs.size=s.heap.objs.size+1->(∀c o,s.heap.get? c=some o->h'.get? c=some o)->Q (.ref s.heap.objs.size) {s with heap:=h'}):
  wpAny (model prog w) A (Builtin.Frozenset.intersection id a (.ref b)) Q E s:=by
 unfold Builtin.Frozenset.intersection
 refine gw ?_
 rw[av (by rw[CL hab];decide)]
 refine aa (v_ (hA.type rfl) ?_)
 refine aa (Ct fun h1 hR hz1 old1=>?_)
 refine aa (ao ?_)
 have hA1:aQ w h1 a ka:=hA.at fun o e=>old1 _ _ e
 have hB1:aQ w h1 b kb:=hB.at fun o e=>old1 _ _ e
 refine aa (c_ ?_)
 refine aa (mv (hB1.type rfl) ?_)
 rw[aH rfl]
 refine aa (ao ?_)
 refine aa (nN hB1 ?_)
 refine aa (nN hA1 ?_)
 have hra:s.heap.objs.size≠a:=gv hA.lt
 have hrb:s.heap.objs.size≠b:=gv hB.lt
 have main:∀(asked walked:Addr) (kq kw:List Int),aQ w h1 asked kq->aQ w h1 walked kw->s.heap.objs.size≠asked->s.heap.objs.size≠walked->(∀x,x∈kw/\x∈kq↔x∈ka/\x∈kb)->
   wpAny (model prog w) A (do
    let was<-setEpoch walked
    for (h,x)in<-setWalkUnseen walked [asked,s.heap.objs.size] (some s.heap.objs.size) do
     holding [x] do
      if(<-setFind asked x h).isSome then
       let _<-setAddHashed s.heap.objs.size x h
     Builtin.Frozenset.unchanged id walked was) (fun _ s'=>wpAny (model prog w) A (pure (Value.ref s.heap.objs.size)) Q E s') E {s with heap:=h1}:=fun asked walked kq kw hq hw nq nw hm=>by
  have hw':=hw
  obtain⟨ow,esw,epw,tw,how,hexw,hdw,rfl,helw,hndw,hbw,hfw,hrw,hlw⟩:=hw
  unfold setEpoch
  refine aa (aa (cU how hdw hfw (ao ?_)))
  refine aa (CK hw' hR (fun c hc=>?_) fun es h2 bA pm sb2 hR2=>?_)
  ·simp only[cE,dk,eO]at hc
   rcases hc with rfl|rfl
   ·exact⟨_,hq⟩
   ·exact⟨_,hR⟩
  have hq2:aQ w h2 asked kq:=hq.at fun o e=>by rw[sb2.2 _ (Ne.symm nq)];exact e
  have how2:h2.get? walked=some ow:=by rw[sb2.2 _ (Ne.symm nw)];exact how
  have bI:es.toList.length=esw.size:=by
   have:=pm.length_eq
   simpa using this
  have hbw':esw.size<scanBound:=by simpa using hbw
  rw[<-Gm]
  refine aa (w6 (p:=fun x=>decide (x∈kq)) (h0:=h2) (n:=esw.size) hbw' (fun k tok kr s' R sb hS hb hR'=>?_) es.toList [] {s with heap:=h2} _ bA (j9 _ _) hR2 (by simp[<-bI]) fun h3 kr sb3 g3 m3=>?_)
  ·have hqs:aQ w s'.heap asked kq:=hq2.at fun o e=>by rw[sb.2 _ (Ne.symm nq)];exact e
   have hows:s'.heap.get? walked=some ow:=by rw[sb.2 _ (Ne.symm nw)];exact how2
   have e0:s'={s' with heap:=s'.heap}:=by cases s';rfl
   refine aa (c_ (aa (CH hqs fun r hr=>?_)))
   refine gw ?_
   rw[hr]
   by_cases hin:k∈kq
   ·rw[aH (bZ hin)]
    refine aa (sj hS hb fun h4 kr4 sb4 g4 p4=>ao ?_)
    refine aa (pX (s:={s' with heap:=h4}) (by show h4.get? walked=_;rw[sb4.2 _ (Ne.symm nw)];exact hows) hdw hfw (ao ?_))
    refine hR' h4 kr4 sb4 g4 ?_
    rw[aH (bZ hin)];exact p4
   ·rw[av (by rw[cz hin];decide)]
    refine ao ?_
    refine aa (pX hows hdw hfw (ao ?_))
    rw[e0]
    refine hR' s'.heap kr (j9 _ _) hS ?_
    rw[av (by rw[cz hin];decide)]
  ·refine ao (ao (h h3 kr g3 (fun x=>?_) ?_ fun c o e=>?_))
   ·rw[m3,pm.mem_iff,<-hm x]
    simp
   ·rw[sb3.1,sb2.1,hz1]
   ·have hc:c≠s.heap.objs.size:=bP (bg e)
    rw[sb3.2 _ hc,sb2.2 _ hc];exact old1 _ _ e
 by_cases gL:kb.length >ka.length
 ·rw[aH gL]
  exact main b a kb ka hB1 hA1 hrb hra fun x=>eG
 ·rw[av gL]
  exact main a b ka kb hA1 hB1 hra hrb fun x=>⟨fun z=>⟨z.2,z.1⟩,fun z=>⟨z.2,z.1⟩⟩
theorem JE{a b:Addr}{ka kb:List Int}{Q:Value->Shared->Prop}(hA:aQ w s.heap a ka)(hB:aQ w s.heap b kb)(hab:a≠b)
  (h:∀h' kr,aQ w h' s.heap.objs.size kr->(∀x,x∈kr↔x∈ka/\x∈kb)->h'.objs.size=s.heap.objs.size+1->(∀c o,s.heap.get? c=some o->h'.get? c=some o)->Q (.ref s.heap.objs.size) {s with heap:=h'}):
  wpAny (model prog w) A (binaryOp .BitAnd (.ref a) (.ref b)) Q E s:=by
 refine wpAny_binaryOp_same (T:="set") (hA.type rfl) (hB.type rfl) PySem.F.fills_set_and PySem.F.slot_set_and (ix PySem.F.slot_set_and (hA.type rfl) FF.entry_set_and ?_ (PySem.F.args_set_and_2 _ _))
 show wpAny _ _ (do
  if !(<-(Builtin.Frozenset.isAnySet (.ref a)<&&>Builtin.Frozenset.isAnySet (.ref b)))then rule "frozenset.__and__.declined";return<-ret .notImplemented
  ret (<-Builtin.Frozenset.intersection "frozenset.__and__" (<-Builtin.Frozenset.addrOf (.ref a)) (.ref b))) _ _ _
 refine aa (aa (mv (hA.type rfl) (mv (hB.type rfl) ?_)))
 refine gw ?_
 rw[av (by decide)]
 refine aa (ao ?_)
 refine aa (JD hA hB hab fun h' kr g m z old=>?_)
 exact ao ⟨_,rfl,⟨by simp,h h' kr g m z old⟩⟩
end
noncomputable def lg(mask i:Nat):Nat:=(i*5+1) % (mask+1)
noncomputable def lit(mask:Nat):Nat->Nat->Nat
 |0,i=>i
 |t+1,i=>lit mask t (lg mask i)
noncomputable def pY(mask:Nat):Nat->Nat->Nat->Nat
 |0,_,acc=>acc
 |n+1,i,acc=>pY mask n (lg mask i) (acc|||(1<<<i))
theorem CM(mask j:Nat):∀(n i acc:Nat),(pY mask n i acc).testBit j=true->acc.testBit j=true\/∃t,t<n/\lit mask t i=j
 |0,i,acc,h=>.inl h
 |n+1,i,acc,h=>by
  rcases CM mask j n (lg mask i) _ h with z|⟨t,ht,e⟩
  ·rw[Nat.testBit_or,Bool.or_eq_true]at z
   rcases z with z|z
   ·exact .inl z
   ·right
    refine⟨0,Nat.succ_pos _,?_⟩
    rw[Nat.testBit_shiftLeft,fF,mX]at z
    obtain⟨z1,z2⟩:=z
    have:j - i=0:=by
     rcases zT (j - i)with q|q
     ·exact q
     ·exfalso
      have z3:=Nat.ge_two_pow_of_testBit z2
      have:2 ^ 1<=2 ^ (j - i):=Nat.pow_le_pow_right (by decide) q
      omega
    show i=j
    omega
  ·exact .inr ⟨t+1,Nat.succ_lt_succ ht,e⟩
noncomputable def iI(mask:Nat):Prop:=∀i j,i<=mask->j<=mask->∃t,t<=mask/\lit mask t i=j
theorem nO{mask:Nat}(h:((List.range (mask+1)).all fun i=>pY mask (mask+1) i 0==2 ^ (mask+1) - 1)=true):iI mask:=fun i j hi hj=>by
 have e:=zI.mp h i (FW.mpr (Nat.lt_succ_of_le hi))
 have e':pY mask (mask+1) i 0=2 ^ (mask+1) - 1:=by simpa using e
 have hb:(pY mask (mask+1) i 0).testBit j=true:=by
  rw[e',Nat.testBit_two_pow_sub_one]
  exact bZ (Nat.lt_succ_of_le hj)
 rcases CM mask j _ _ _ hb with z|⟨t,ht,e⟩
 ·simp at z
 ·exact⟨t,Nat.le_of_lt_succ ht,e⟩
theorem CN:iI 7:=nO (by decide+kernel)
theorem JF:iI 15:=nO (by decide+kernel)
theorem JG:iI 31:=nO (by decide+kernel)
theorem JH:iI 63:=nO (by decide+kernel)
theorem JI:iI 127:=nO (by decide+kernel)
theorem JJ:iI 255:=nO (by decide+kernel)
theorem JK:((List.range 256).all fun n=>[8,16,32,64,128,256].contains (SetTable.sizeAbove n) && decide (n<SetTable.sizeAbove n))=true:=by decide+kernel
theorem CO{n:Nat}(h:n<256):iI (SetTable.sizeAbove n - 1)/\n<=SetTable.sizeAbove n - 1/\SetTable.sizeAbove n<=256:=by
 have e:=zI.mp JK n (FW.mpr h)
 rw[fF,mX]at e
 obtain⟨e1,e2⟩:=e
 have e3:SetTable.sizeAbove n∈[8,16,32,64,128,256]:=by simpa using e1
 simp only[cE,dk,eO]at e3
 refine⟨?_,by omega,by omega⟩
 rcases e3 with q|q|q|q|q|q<;>rw[q]
 ·exact CN
 ·exact JF
 ·exact JG
 ·exact JH
 ·exact JI
 ·exact JJ
noncomputable def lp(mask:Nat):Nat->Nat×Nat->Nat×Nat
 |0,p=>p
 |t+1,p=>lp mask t (SetTable.leap mask p.1 p.2)
theorem CP(mask:Nat):∀(a b:Nat) (p:Nat×Nat),lp mask (a+b) p=lp mask b (lp mask a p)
 |0,b,p=>by rw[Nat.zero_add];rfl
 |a+1,b,p=>by rw[Nat.succ_add];exact CP mask a b _
theorem CQ(mask:Nat):∀(t:Nat) (p:Nat×Nat),(lp mask t p).2=p.2 / 32 ^ t
 |0,p=>by simp[lp]
 |t+1,p=>by
  show(lp mask t (SetTable.leap mask p.1 p.2)).2=_
  rw[CQ mask t]
  show p.2 / 32 / 32 ^ t=_
  rw[Nat.div_div_eq_div_mul,Nat.pow_succ,Nat.mul_comm]
theorem CS(mask:Nat):∀(t i:Nat),lp mask t (i,0)=(lit mask t i,0)
 |0,i=>rfl
 |t+1,i=>by
  show lp mask t (SetTable.leap mask i 0)=_
  have e:SetTable.leap mask i 0=(lg mask i,0):=by simp[SetTable.leap,lg]
  rw[e]
  exact CS mask t (lg mask i)
theorem CT(mask:Nat):∀(t:Nat) (p:Nat×Nat),p.1<=mask->(lp mask t p).1<=mask
 |0,p,h=>h
 |t+1,p,h=>CT mask t _ (Nat.le_of_lt_succ (Nat.mod_lt _ (Nat.succ_pos _)))
theorem CU{mask:Nat}{owner:Array (Option Nat)}:∀(fuel i p:Nat),SetTable.layClean.free mask owner fuel i p=none->∀t,t<fuel->(owner.getD (lp mask t (i,p)).1 (some 0)).isNone=false
 |0,i,p,h,t,ht=>absurd ht (mY _)
 |fuel+1,i,p,h,t,ht=>by
  unfold SetTable.layClean.free at h
  split at h
  ·cases h
  ·rename_i hn
   cases t with
   |zero=>
    have hm:0∈List.range (SetTable.runEnd mask i+1 - i):=by
     rw[FW];unfold SetTable.runEnd;split<;>omega
    have q:=FX.mp hn 0 hm
    show(owner.getD i (some 0)).isNone=false
    rw[Nat.add_zero]at q
    exact Qe.mpr q
   |succ t=>exact CU fuel _ _ h t (Nat.lt_of_succ_lt_succ ht)
theorem CV{mask:Nat}{owner:Array (Option Nat)}:∀(fuel i p j:Nat),SetTable.layClean.free mask owner fuel i p=some j->(owner.getD j (some 0)).isNone=true
 |0,i,p,j,h=>by cases h
 |fuel+1,i,p,j,h=>by
  unfold SetTable.layClean.free at h
  split at h
  ·rename_i k hk
   injection h with h
   rw[<-h]
   exact List.find?_some (p:=fun k=>(owner.getD (i+k) (some 0)).isNone) hk
  ·exact CV fuel _ _ j h
theorem JL(h:Int):SetTable.bits h<2 ^ 64:=by
 unfold SetTable.bits
 have h1:0<=h % (2 ^ 64:Int):=uK _ (by decide)
 have h2:h % (2 ^ 64:Int)<2 ^ 64:=zU _ (by decide)
 omega
theorem JM{mask:Nat}(hc:iI mask){owner:Array (Option Nat)}(hz:owner.size=mask+1){q:Nat}(hq:owner[q]?=some none)(h:Int):
  ∃j,SetTable.layClean.free mask owner (SetTable.turns mask) (SetTable.bits h % (mask+1)) (SetTable.bits h)=some j/\owner[j]?=some none:=by
 cases e:SetTable.layClean.free mask owner (SetTable.turns mask) (SetTable.bits h % (mask+1)) (SetTable.bits h)with
 |some j=>
  refine⟨j,rfl,?_⟩
  have:=CV _ _ _ _ e
  rw[mU]at this
  cases z:owner[j]? with
  |none=>rw[z]at this;simp at this
  |some v=>rw[z]at this;cases v with
   |none=>rfl
   |some v=>simp at this
 |none=>
  exfalso
  have hqm:q<=mask:=by
   have:q<owner.size:=by
    apply Nat.lt_of_not_le;intro hc'
    rw[zN hc']at hq;cases hq
   omega
  have h0:SetTable.bits h % (mask+1)<=mask:=Nat.le_of_lt_succ (Nat.mod_lt _ (Nat.succ_pos _))
  have hp:(lp mask 13 (SetTable.bits h % (mask+1),SetTable.bits h)).2=0:=by
   rw[CQ]
   exact Nat.div_eq_of_lt (cL (JL h) (by decide))
  have hi:=CT mask 13 (SetTable.bits h % (mask+1),SetTable.bits h) h0
  obtain⟨t,ht,et⟩:=hc _ q hi hqm
  have f:=CU _ _ _ e (13+t) (by unfold SetTable.turns;omega)
  rw[CP,show lp mask 13 (SetTable.bits h % (mask+1),SetTable.bits h)=((lp mask 13 (SetTable.bits h % (mask+1),SetTable.bits h)).1,0)from Prod.ext rfl hp,CS,et,mU,hq]at f
  simp at f
noncomputable def jh(m:Nat)(owner:Array (Option Nat)):List Nat:=(List.range m).filterMap fun j=>owner.getD j none
theorem CW{f g:Nat->Option Nat}:∀{l:List Nat},(∀x∈l,g x=f x)->l.filterMap g=l.filterMap f
 |[],_=>rfl
 |x::r,h=>by
  have hx:=h x (dR ..)
  have ih:=CW fun y hy=>h y (d_ _ hy)
  cases e:f x with
  |none=>rw[uA e,uA (hx.trans e),ih]
  |some v=>rw[uz e,uz (hx.trans e),ih]
theorem CZ{f g:Nat->Option Nat}{j k:Nat}(hj:f j=none)(gj:g j=some k)(hg:∀x,x≠j->g x=f x):∀l:List Nat,l.Nodup->j∈l->(l.filterMap g).Perm (k::l.filterMap f)
 |[],_,h=>by simp at h
 |x::r,hn,h=>by
  obtain⟨n1,n2⟩:=lO.mp hn
  by_cases e:x=j
  ·subst e
   rw[uz gj,uA hj]
   have:r.filterMap g=r.filterMap f:=CW fun y hy=>hg y fun z=>n1 (z▸hy)
   rw[this]
  ·have hr:j∈r:=(cE.mp h).resolve_left (fun z=>e z.symm)
   have ih:=CZ hj gj hg r n2 hr
   cases fx:f x with
   |none=>rw[uA (by rw[hg x e,fx]),uA fx];exact ih
   |some v=>rw[uz (by rw[hg x e,fx]:g x=some v),uz fx];exact(ih.cons v).trans (List.Perm.swap _ _ _)
theorem C_{mask:Nat}(hc:iI mask):∀(hs:List Int) (owner:Array (Option Nat)) (k:Nat),owner.size=mask+1->(jh (mask+1) owner).Perm (List.range k)->k+hs.length<=mask->
  ∃owner':Array (Option Nat),hs.foldl (fun acc h=>do
   let(owner,k)<-acc
   let j<-SetTable.layClean.free mask owner (SetTable.turns mask) (SetTable.bits h % (mask+1)) (SetTable.bits h)
   pure (owner.setIfInBounds j (some k),k+1)) (some (owner,k))=some (owner',k+hs.length)/\owner'.size=mask+1/\(jh (mask+1) owner').Perm (List.range (k+hs.length))
 |[],owner,k,hz,hv,hl=>⟨owner,rfl,hz,hv⟩
 |h::hs,owner,k,hz,hv,hl=>by
  simp only[cM]at hl
  have hq:∃q:Nat,owner[q]?=some none:=by
   apply Classical.byContradiction
   intro hno
   have hall:∀j∈List.range (mask+1),((owner.getD j none).isSome)=true:=fun j hj=>by
    have hj':j<owner.size:=by rw[hz];exact FW.mp hj
    rw[mU,ox hj']
    cases z:owner[j]with
    |some v=>rfl
    |none=>exact absurd ⟨j,by rw[ox hj',z]⟩ hno
   have bI:(jh (mask+1) owner).length=mask+1:=by
    unfold jh
    rw[List.filterMap_length_eq_length.mpr hall,iR]
   rw[hv.length_eq,iR]at bI
   omega
  obtain⟨q,hq⟩:=hq
  obtain⟨j,ej,hj⟩:=JM hc hz hq h
  have hjm:j<mask+1:=by
   rw[<-hz];apply Nat.lt_of_not_le;intro hc'
   rw[zN hc']at hj;cases hj
  have hset:(jh (mask+1) (owner.setIfInBounds j (some k))).Perm (List.range (k+1)):=by
   have p:=CZ (f:=fun x=>owner.getD x none) (g:=fun x=>(owner.setIfInBounds j (some k)).getD x none) (j:=j) (k:=k)
    (by show owner.getD j none=none;rw[mU,hj];rfl)
    (by show(owner.setIfInBounds j (some k)).getD j none=some k;rw[mU,Array.getElem?_setIfInBounds_self_of_lt (by rw[hz];exact hjm)];rfl)
    (fun x hx=>by show(owner.setIfInBounds j (some k)).getD x none=owner.getD x none;rw[mU,mU,Array.getElem?_setIfInBounds_ne (Ne.symm hx)])
    (List.range (mask+1)) List.nodup_range (FW.mpr hjm)
   refine p.trans ((hv.cons k).trans ?_)
   rw[ko]
   exact(List.perm_append_singleton k _).symm
  obtain⟨o',e1,e2,e3⟩:=C_ hc hs (owner.setIfInBounds j (some k)) (k+1) (by rw[Array.size_setIfInBounds,hz]) hset (by omega)
  refine⟨o',?_,e2,?_⟩
  ·rw[List.foldl_cons]
   have:(do
     let(owner,k)<-some (owner,k)
     let j<-SetTable.layClean.free mask owner (SetTable.turns mask) (SetTable.bits h % (mask+1)) (SetTable.bits h)
     pure (owner.setIfInBounds j (some k),k+1))=some (owner.setIfInBounds j (some k),k+1):=by
    show((SetTable.layClean.free mask owner (SetTable.turns mask) (SetTable.bits h % (mask+1)) (SetTable.bits h)).bind fun j=>some (owner.setIfInBounds j (some k),k+1))=_
    rw[ej];rfl
   rw[this,e1]
   simp only[cM]
   congr 2;omega
  ·simp only[cM]
   rw[show k+(hs.length+1)=k+1+hs.length by omega]
   exact e3
theorem D0{mask finger moves:Nat}{led plain:Bool}{hs:Array Int}(hc:iI mask)(hl:hs.size<=mask):
  ∃t o,SetTable.laid mask finger moves led plain hs=some (t,o)/\o.toList.Perm (List.range hs.size)/\t.fits hs.size=true/\t.mask=mask/\t.dummies= #[]:=by
 obtain⟨o',e1,e2,e3⟩:=C_ hc hs.toList (Array.replicate (mask+1) none) 0 (by simp) (by
  have:jh (mask+1) (Array.replicate (mask+1) none)=[]:=by
   unfold jh
   rw[List.filterMap_eq_nil_iff]
   intro j hj
   rw[mU]
   cases z:(Array.replicate (mask+1) (none:Option Nat))[j]? with
   |none=>rfl
   |some v=>rw[Array.getElem?_replicate]at z;split at z<;>simp_all
  rw[this];simp) (by simpa using hl)
 have elay:SetTable.layClean mask hs=some o':=by
  unfold SetTable.layClean
  rw[<-Array.foldl_toList,e1]
  rfl
 have bI:((List.range (mask+1)).filterMap fun j=>(o'.getD j none).map (j,·)).map (·.2)=jh (mask+1) o':=by
  rw[List.map_filterMap]
  unfold jh
  congr 1
  funext j
  cases o'.getD j none<;>rfl
 have e3':(jh (mask+1) o').Perm (List.range hs.size):=by simpa using e3
 refine⟨_,_,by unfold SetTable.laid;rw[elay];rfl,?_,?_,rfl,rfl⟩
 ·show(List.map (fun x:Nat×Nat=>x.2) ((List.range (mask+1)).filterMap fun j=>(o'.getD j none).map (j,·))).Perm _
  rw[bI];exact e3'
 ·unfold SetTable.fits SetTable.fill
  have hl2:((List.range (mask+1)).filterMap fun j=>(o'.getD j none).map (j,·)).length=hs.size:=by
   rw[<-ar (f:=(·.2)),bI,e3'.length_eq,iR]
  simp only[ck,ar,hl2]
  simpa using hl
noncomputable def ij(w:World)(h:Heap)(a:Addr)(ks:List Int)(o:Obj)(es:Array (Int×Value))(ep:Nat)(t:SetTable):Prop:=h.get? a=some o/\o.ExactSet/\o.data=.set es ep t/\
 es.toList.map bT=ks/\(∀e∈es.toList,gF e)/\ks.Nodup/\ks.length<scanBound/\t.fits es.size=true/\dM t.place/\(t.led=true\/bt w=true)
theorem ij.g{w:World}{h:Heap}{a:Addr}{ks:List Int}{o:Obj}{es:Array (Int×Value)}{ep:Nat}{t:SetTable}(x:ij w h a ks o es ep t):aQ w h a ks:=⟨o,es,ep,t,x⟩
section
variable{prog:Program}{w:World}{A:Around}{E:Value->Shared->Prop}{s:Shared}
theorem sv{h:Heap}{a:Addr}{o:Obj}{es:Array (Int×Value)}{ep:Nat}{t:SetTable}(ho:h.get? a=some o)(cX:o.ExactSet)(hd:o.data=.set es ep t)
  {es':Array (Int×Value)} {t':SetTable} (bA:∀e∈es'.toList,gF e) (da:(es'.toList.map bT).Nodup) (hb:es'.size<scanBound) (hf:t'.fits es'.size=true) (hr:dM t'.place) (hl:t'.led=true\/bt w=true):
  ij w (h.update a (Obj.putSet es' t')) a (es'.toList.map bT) {o with data:=.set es' (ep+1) t'} es' (ep+1) t':=by
 have hg:(h.update a (Obj.putSet es' t')).get? a=some {o with data:=.set es' (ep+1) t'}:=by
  have:=zO (Obj.putSet es' t') ho (by rw[putSet_of es' t' hd];rfl)
  rw[putSet_of es' t' hd]at this;exact this
 exact⟨hg,cX,rfl,rfl,bA,da,by simpa using hb,hf,hr,hl⟩
theorem D1{es:Array (Int×Value)}{o:Array Nat}(hp:o.toList.Perm (List.range es.size)):(o.filterMap (es[·]?)).toList.Perm es.toList:=by
 rw[Array.toList_filterMap]
 exact(hp.filterMap _).trans (by rw[filterMap_getElem?_range])
theorem D4{a:Addr}{ks:List Int}{o:Obj}{es:Array (Int×Value)}{ep:Nat}{t:SetTable}{n:Nat}{Q:Unit->Shared->Prop}(hS:ij w s.heap a ks o es ep t)(hn:n<256)(hk:es.size<=n)
  (h:∀h' ks' o' es' t',Heap.SameBut a s.heap h'->ij w h' a ks' o' es' (ep+1) t'->ks'.Perm ks->t'.dummies= #[]->t'.mask=SetTable.sizeAbove n - 1->es'.size=es.size->Q () {s with heap:=h'}):
  wpAny (model prog w) A (setRelay a n) Q E s:=by
 obtain⟨ho,cX,hd,rfl,bA,da,hb,hf,hr,hl⟩:=hS
 have hbs:es.size<scanBound:=by simpa using hb
 obtain⟨hc,hle,h256⟩:=CO hn
 obtain⟨t',od,e,hp,hf',hm',hdm'⟩:=D0 (mask:=SetTable.sizeAbove n - 1) (finger:=t.finger) (moves:=t.movedTo (SetTable.sizeAbove n - 1)) (led:=t.led) (plain:=t.plain) (hs:=es.map (·.1)) hc (by rw[Ab];omega)
 obtain⟨rr,rl⟩:=vW e
 rw[Ab]at hp hf'
 unfold setRelay
 refine aa (cU ho hd hf ?_)
 dsimp only
 refine gw ?_
 rw[av (by rw[m_];omega)]
 have e':t.relaid (es.map (·.1)) n=some (t',od):=e
 rw[e']
 have pe:=D1 hp
 have hz:(od.filterMap (es[·]?)).size=es.size:=by rw[<-gq,pe.length_eq,gq]
 refine aa ?_
 show wpAny _ _ (if((od.filterMap (es[·]?)).size !=es.size)=true then _ else pure (od.filterMap (es[·]?),t')) _ _ _
 rw[av (by rw[hz];simp)]
 refine ao ?_
 dsimp only
 refine oE ho hd ?_ (by rw[hz];exact lQ hbs)
 have hS':=sv (w:=w) ho cX hd (es':=od.filterMap (es[·]?)) (t':=t') (fun x hx=>bA x (pe.mem_iff.mp hx)) ((pe.map _).nodup_iff.mpr da) (by rw[hz];exact hbs) (by rw[hz];exact hf') rr (by rw[rl];exact hl)
 exact h _ _ _ _ _ (lP _ _ _) hS' (pe.map _) hdm' hm' hz
theorem JN{Q:Value->Shared->Prop}(h:∀h' o,ij w h' s.heap.objs.size [] o #[] 0 (.fresh 0 0 (!bt w))->h'.objs.size=s.heap.objs.size+1->(∀b o,s.heap.get? b=some o->h'.get? b=some o)->Q (.ref s.heap.objs.size) {s with heap:=h'}):
  wpAny (model prog w) A (newSet (.type "set")) Q E s:=by
 unfold newSet setsByText
 refine aa (aa (oF (ao ?_)))
 dsimp only
 simp only[newObj]
 refine aa (wpAny_alloc (ao (h _ _ ⟨bV _ rfl,⟨rfl,rfl,rfl⟩,rfl,rfl,fun e he=>by simp at he,mZ,by decide,by rfl,List.Pairwise.nil,?_⟩ (eB ..) fun b o e=>aW _ e)))
 show(!w.params.followText "set-order")=true\/bt w=true
 unfold bt
 cases w.params.followText "set-order"<;>simp
theorem D9{a r:Addr}{ks:List Int}{o ofr:Obj}{es:Array (Int×Value)}{ep epr:Nat}{t tr:SetTable}{Q:Unit->Shared->Prop}(hS:ij w s.heap a ks o es ep t)(hR:ij w s.heap r [] ofr #[] epr tr)(hdm:tr.dummies= #[])(hc:iI tr.mask)(hle:es.size<=tr.mask){each:Sem Unit}
  (h:∀h' kr,Heap.SameBut r s.heap h'->aQ w h' r kr->kr.Perm ks->Q () {s with heap:=h'}):
  wpAny (model prog w) A (match tr.road t with
   |.slotForSlot=>storeSet r es {t with finger:=tr.finger,led:=tr.led && t.led,moves:=tr.moves,plain:=tr.plain && t.plain}
   |.clean=>do
    let p<-(do
     let some (t,order):=SetTable.laid tr.mask tr.finger tr.moves (led:=tr.led && t.led) (plain:=tr.plain && t.plain) (es.map (·.1))|unsupported "internal:set-table-without-room"
     let es':=order.filterMap (es[·]?)
     if es'.size !=es.size then unsupported "internal:set-table-lost-an-element"
     pure (es',t):Sem (Array (Int×Value)×SetTable))
    storeSet r p.1 p.2
   |.oneByOne=>each) Q E s:=by
 obtain⟨ho,cX,hd,rfl,bA,da,hb,hf,hr,hl⟩:=hS
 obtain⟨hor,hexr,hdr,hkr,helr,hndr,hbr,hfr,hrr,hlr⟩:=hR
 have hbs:es.size<scanBound:=by simpa using hb
 have hl':(tr.led && t.led)=true\/bt w=true:=by
  rcases hl with z|z
  ·rcases hlr with y|y
   ·left;rw[z,y];rfl
   ·exact .inr y
  ·exact .inr z
 have hps:tr.place.size=0:=by
  unfold SetTable.fits at hfr
  simp at hfr
  rw[hfr.1];rfl
 have h0:tr.fill=0:=by unfold SetTable.fill;rw[hps,hdm];rfl
 unfold SetTable.road
 rw[h0]
 by_cases hm:(tr.mask==t.mask && t.dummies.isEmpty)=true
 ·rw[av (by decide),aH hm]
  dsimp only
  refine oE hor hdr ?_ (lQ hbs)
  have hS':=sv (w:=w) hor hexr hdr (es':=es) (t':={t with finger:=tr.finger,led:=tr.led && t.led,moves:=tr.moves,plain:=tr.plain && t.plain}) bA da hbs hf hr hl'
  exact h _ _ (lP _ _ _) hS'.g (iS _)
 ·rw[av (by decide),av hm]
  dsimp only
  obtain⟨t',od,e,hp,hf',hm',hdm'⟩:=D0 (mask:=tr.mask) (finger:=tr.finger) (moves:=tr.moves) (led:=tr.led && t.led) (plain:=tr.plain && t.plain) (hs:=es.map (·.1)) hc (by rw[Ab];exact hle)
  obtain⟨rr,rl⟩:=vW e
  rw[Ab]at hp hf'
  have pe:=D1 hp
  have hz:(od.filterMap (es[·]?)).size=es.size:=by rw[<-gq,pe.length_eq,gq]
  rw[e]
  dsimp only
  refine aa ?_
  rw[av (by rw[hz];simp)]
  refine ao ?_
  refine oE hor hdr ?_ (by rw[hz];exact lQ hbs)
  have hS':=sv (w:=w) hor hexr hdr (es':=od.filterMap (es[·]?)) (t':=t') (fun x hx=>bA x (pe.mem_iff.mp hx)) ((pe.map _).nodup_iff.mpr da) (by rw[hz];exact hbs) (by rw[hz];exact hf') rr (by rw[rl];exact hl')
  exact h _ _ (lP _ _ _) hS'.g (pe.map _)
theorem JO{a:Addr}{ks:List Int}{Q:Value->Shared->Prop}(hS:aQ w s.heap a ks)(hk:ks.length<64)
  (h:∀h' kr,aQ w h' s.heap.objs.size kr->kr.Perm ks->h'.objs.size=s.heap.objs.size+1->(∀c o,s.heap.get? c=some o->h'.get? c=some o)->Q (.ref s.heap.objs.size) {s with heap:=h'}):
  wpAny (model prog w) A (Builtin.Frozenset.copyOf a) Q E s:=by
 have hT:=hS.type (s':=s) rfl
 have hlt:=hS.lt
 obtain⟨o,es,ep,t,hS⟩:=hS
 have hS0:=hS
 obtain⟨ho,cX,hd,hks,bA,da,hb,hf,hr,hl⟩:=hS0
 have hne:s.heap.objs.size≠a:=gv hlt
 have hes:es.size<64:=by rw[<-hks]at hk;simpa using hk
 unfold Builtin.Frozenset.copyOf
 refine aa (v_ hT ?_)
 refine aa (JN fun h1 or hR hz1 old1=>?_)
 refine aa (ao ?_)
 have ho1:=old1 _ _ ho
 have hS1:ij w h1 a ks o es ep t:=⟨ho1,cX,hd,hks,bA,da,hb,hf,hr,hl⟩
 have fin:∀h' kr,Heap.SameBut s.heap.objs.size h1 h'->aQ w h' s.heap.objs.size kr->kr.Perm ks->Q (.ref s.heap.objs.size) {s with heap:=h'}:=fun h' kr sb g p=>
  h h' kr g p (by rw[sb.1,hz1]) fun c x e=>by rw[sb.2 _ (bP (bg e))];exact old1 _ _ e
 unfold setMerge
 refine aa ?_
 refine gw ?_
 rw[av (by simpa using hne)]
 refine aa (cU (s:={s with heap:=h1}) ho1 hd hf ?_)
 dsimp only
 refine gw ?_
 split
 ·rename_i he
  refine ao (ao (fin h1 [] (j9 _ _) hR.g ?_))
  have:es= #[]:=by simpa using he
  rw[<-hks,this];exact iS _
 ·unfold setRoomFor
  obtain⟨hor,hexr,hdr,hkr,helr,hndr,hbr,hfr,hrr,hlr⟩:=id hR
  refine aa (aa (cU (s:={s with heap:=h1}) hor hdr hfr ?_))
  by_cases hroom:(0+es.size)*5≥7*3
  ·have er:SetTable.roomFor (.fresh 0 0 (!bt w)) es.size=some ((0+es.size)*2):=by
    unfold SetTable.roomFor SetTable.fill SetTable.fresh
    exact aH hroom
   dsimp only
   rw[er]
   dsimp only
   have h256:(0+es.size)*2<256:=by omega
   refine D4 (s:={s with heap:=h1}) hR h256 (b_ _) fun h2 k2 o2 es2 t2 sb2 hR2 p2 hdm2 hm2 hz2=>?_
   obtain⟨hc,hle,_⟩:=CO h256
   have hk2:k2=[]:=p2.eq_nil
   have he2:es2= #[]:=by simpa using hz2
   subst hk2;subst he2
   obtain⟨hor2,hexr2,hdr2,hkr2,helr2,hndr2,hbr2,hfr2,hrr2,hlr2⟩:=id hR2
   refine aa (cU (s:={s with heap:=h2}) hor2 hdr2 hfr2 ?_)
   dsimp only
   have hS2:ij w h2 a ks o es ep t:=⟨by rw[sb2.2 _ (Ne.symm hne)];exact ho1,cX,hd,hks,bA,da,hb,hf,hr,hl⟩
   refine D9 (s:={s with heap:=h2}) hS2 hR2 hdm2 (by rw[hm2];exact hc) (by rw[hm2];omega) fun h3 kr sb3 g3 p3=>?_
   exact ao (fin h3 kr (sb2.trans sb3) g3 p3)
  ·have er:SetTable.roomFor (.fresh 0 0 (!bt w)) es.size=none:=by
    unfold SetTable.roomFor SetTable.fill SetTable.fresh
    exact av hroom
   dsimp only
   rw[er]
   dsimp only
   refine ao ?_
   refine aa (cU (s:={s with heap:=h1}) hor hdr hfr ?_)
   dsimp only
   refine D9 (s:={s with heap:=h1}) hS1 hR rfl CN (by show es.size<=7;omega) fun h3 kr sb3 g3 p3=>?_
   exact ao (fin h3 kr sb3 g3 p3)
end
theorem sx{α:Type}(xs:Array α)(p:Nat)(hp:p<xs.size):(SetTable.eraseAt xs p).toList=xs.toList.eraseIdx p:=by
 unfold SetTable.eraseAt
 rw[Array.toList_append,Array.toList_extract,Array.toList_extract,List.eraseIdx_eq_take_drop_succ]
 simp[List.extract_eq_drop_take,gn]
section
variable{prog:Program}{w:World}{A:Around}{E:Value->Shared->Prop}{s:Shared}
theorem JP{a:Addr}{ks:List Int}{o:Obj}{es:Array (Int×Value)}{ep:Nat}{t:SetTable}{k:Int}{tok:Tok}{Q:Option Nat->Shared->Prop}(hS:ij w s.heap a ks o es ep t)
  (h0:k∉ks->Q none s) (h1:∀i e,es.toList[i]?=some e->bT e=k->Q (some i) s):
  wpAny (model prog w) A (setFind a (.int k tok) (hashInt k)) Q E s:=by
 obtain⟨ho,cX,hd,rfl,bA,da,hb,hf,hr,hl⟩:=hS
 have hbs:es.size<scanBound:=by simpa using hb
 have hel':ElemsOf (intKind prog w) es.toList:=vX bA
 unfold setFind setFindIn
 refine aa (cU ho hd hf ?_)
 dsimp only
 rw[byScan_of (knd:=intKind prog w) rfl hbs hel']
 simp only[↓reduceIte]
 refine aa (i9 ?_)
 refine aa (wpAny_setScan_of (knd:=intKind prog w) (k:=k) (rh _ _ _ _) ho hd hf hel' ?_)
 cases hq:List.findIdx? (fun e=>(intKind prog w).is k e.2) es.toList with
 |none=>
  exact ao (h0 ((find_none (prog:=prog) (w:=w) bA).mp hq))
 |some j=>
  obtain⟨hj,hjk,_⟩:=List.findIdx?_eq_some_iff_getElem.mp hq
  have hin:=bA _ (gT hj)
  rw[vY hin,mX]at hjk
  refine ao ?_
  rw[Nat.zero_add]
  exact h1 j _ (aN hj) hjk
theorem JQ{a:Addr}{ks:List Int}{k:Int}{tok:Tok}{Q:Bool->Shared->Prop}(hS:aQ w s.heap a ks)
  (h:∀h' ks' b,Heap.SameBut a s.heap h'->aQ w h' a ks'->(∀x,x∈ks'↔x∈ks/\x≠k)->ks'.length<=ks.length->Q b {s with heap:=h'}):
  wpAny (model prog w) A (setDiscardHashed a (.int k tok) (hashInt k)) Q E s:=by
 have e0:s={s with heap:=s.heap}:=by cases s;rfl
 obtain⟨o,es,ep,t,hS⟩:=hS
 obtain⟨ho,cX,hd,hks,bA,da,hb,hf,hr,hl⟩:=id hS
 unfold setDiscardHashed
 refine aa (JP hS (fun hno=>?_) fun i e hi hk=>?_)
 ·refine ao ?_
  rw[e0]
  exact h s.heap ks false (j9 _ _) (ij.g hS) (fun x=>⟨fun z=>⟨z,fun y=>hno (y▸z)⟩,fun z=>z.1⟩) (aG _)
 ·dsimp only
  have hi':i<es.size:=by
   have:i<es.toList.length:=by
    apply Nat.lt_of_not_le;intro hc;rw[iQ hc]at hi;cases hi
   simpa using this
  have hfp:t.place.size=es.size/\t.fill<=t.mask:=by
   unfold SetTable.fits at hf;simpa using hf
  have hpi:i<t.place.size:=by rw[hfp.1];exact hi'
  have hbs:es.size<scanBound:=by rw[<-hks]at hb;simpa using hb
  have ezs:(SetTable.eraseAt es i).size=es.size - 1:=by
   rw[<-gq,sx _ _ hi',uy (by simpa using hi')];simp
  have ezp:(SetTable.eraseAt t.place i).size=es.size - 1:=by
   rw[<-gq,sx _ _ hpi,uy (by simpa using hpi)];simp[hfp.1]
  have hdrop:t.drop i={t with place:=SetTable.eraseAt t.place i,dummies:=SetTable.insertAt t.dummies (SetTable.below t.dummies t.place[i]) t.place[i]}:=by
   unfold SetTable.drop
   rw[ox hpi]
  have hdl:(SetTable.insertAt t.dummies (SetTable.below t.dummies t.place[i]) t.place[i]).size=t.dummies.size+1:=by
   rw[<-gq,(SetTable.insertAt_perm ..).length_eq];simp
  refine aa (cU ho hd hf ?_)
  dsimp only
  refine aa (oE ho hd ?_ (by rw[ezs];exact cN (Nat.sub_le _ _) (lQ hbs)))
  have pe:(e::(SetTable.eraseAt es i).toList).Perm es.toList:=by
   rw[sx _ _ hi']
   have hi2:i<es.toList.length:=by simpa using hi'
   have ee:es.toList[i]=e:=by
    rw[aN hi2]at hi;injection hi
   rw[<-ee]
   exact sq _ _ hi2
  have pk:(k::(SetTable.eraseAt es i).toList.map bT).Perm ks:=by
   have:=pe.map bT
   rw[cG,hk,hks]at this
   exact this
  have hnd':=pk.nodup_iff.mpr da
  obtain⟨n1,n2⟩:=lO.mp hnd'
  have hS':=sv (w:=w) ho cX hd (es':=SetTable.eraseAt es i) (t':=t.drop i) (fun x hx=>bA x (pe.mem_iff.mp (d_ _ hx))) n2 (by rw[ezs];omega)
   (by
    rw[hdrop,ezs]
    unfold SetTable.fits SetTable.fill
    have q:=hfp.2
    unfold SetTable.fill at q
    simp only[ezp,hdl,zZ,iA,mX]
    omega)
   (by
    rw[hdrop]
    show List.Pairwise _ (SetTable.eraseAt t.place i).toList
    rw[sx _ _ hpi]
    exact List.Pairwise.sublist (List.eraseIdx_sublist ..) hr)
   (by rw[hdrop];exact hl)
  refine aa (wpAny_point (ao (h _ _ true (lP _ _ _) hS'.g (fun x=>?_) ?_)))
  ·rw[<-pk.mem_iff,cE]
   constructor
   ·intro z
    exact⟨.inr z,fun y=>n1 (y▸z)⟩
   ·rintro⟨z|z,y⟩
    ·exact absurd z y
    ·exact z
  ·have:=pk.length_eq
   rw[cM]at this
   omega
theorem JR{a:Addr}{ks:List Int}{Q:Unit->Shared->Prop}(hS:aQ w s.heap a ks)(hk:ks.length<64)
  (h:∀h' ks',Heap.SameBut a s.heap h'->aQ w h' a ks'->ks'.Perm ks->Q () {s with heap:=h'}):wpAny (model prog w) A (setTidy a) Q E s:=by
 have e0:s={s with heap:=s.heap}:=by cases s;rfl
 obtain⟨o,es,ep,t,hS⟩:=hS
 obtain⟨ho,cX,hd,hks,bA,da,hb,hf,hr,hl⟩:=id hS
 have hes:es.size<64:=by rw[<-hks]at hk;simpa using hk
 unfold setTidy
 refine aa (cU ho hd hf ?_)
 dsimp only
 refine gw ?_
 split
 ·have eg:SetTable.grown es.size=es.size*4:=by unfold SetTable.grown;exact av (by omega)
  rw[eg]
  exact D4 hS (by omega) (by omega) fun h' ks' o' es' t' sb g p _ _ _=>h h' ks' sb g.g p
 ·refine ao ?_
  rw[e0]
  exact h s.heap ks (j9 _ _) (ij.g hS) (iS _)
theorem Da{r:Addr}{f:Int×Value->PUnit->Sem (ForInStep PUnit)}{h0:Heap}
  (turn:∀(k:Int) (tok:Tok) (kr:List Int) (s':Shared) (R:ForInStep PUnit->Shared->Prop),Heap.SameBut r h0 s'.heap->aQ w s'.heap r kr->
   (∀h' kr',Heap.SameBut r s'.heap h'->aQ w h' r kr'->(∀x,x∈kr'↔x∈kr/\x≠k)->kr'.length<=kr.length->R (.yield ()) {s' with heap:=h'})->wpAny (model prog w) A (f (hashInt k,.int k tok) ()) R E s'):
  ∀(es:List (Int×Value)) (kr:List Int) (s':Shared) (Q:PUnit->Shared->Prop),(∀e∈es,gF e)->Heap.SameBut r h0 s'.heap->aQ w s'.heap r kr->
   (∀h' kr',Heap.SameBut r h0 h'->aQ w h' r kr'->(∀x,x∈kr'↔x∈kr/\x∉es.map bT)->kr'.length<=kr.length->Q () {s' with heap:=h'})->wpAny (model prog w) A (forIn es () f) Q E s'
 |[],kr,s',Q,bA,hb,hS,h=>by
  have e0:s'={s' with heap:=s'.heap}:=by cases s';rfl
  rw[A9]
  refine ao ?_
  rw[e0]
  exact h _ kr hb hS (fun x=>by simp) (aG _)
 |e::dS,kr,s',Q,bA,hb,hS,h=>by
  obtain⟨k,tok,rfl⟩:=bA e (dR ..)
  rw[uJ]
  refine aa (turn k tok kr s' _ hb hS fun h' kr' sb g m hl=>?_)
  refine Da turn dS kr' {s' with heap:=h'} Q (fun e he=>bA e (d_ _ he)) (hb.trans sb) g fun h2 kr2 sb2 g2 m2 hl2=>?_
  refine h h2 kr2 sb2 g2 (fun x=>?_) (cN hl2 hl)
  rw[m2,m,cG,cE]
  have ek:bT (hashInt k,Value.int k tok)=k:=rfl
  rw[ek,jD,and_assoc]
theorem JS{r b:Addr}{kr kb:List Int}{id:String}{Q:Unit->Shared->Prop}(hR:aQ w s.heap r kr)(hB:aQ w s.heap b kb)(hrb:r≠b)(hk:kr.length<64)(hsm:¬kb.length / 8 >kr.length)
  (h:∀h' k',Heap.SameBut r s.heap h'->aQ w h' r k'->(∀x,x∈k'↔x∈kr/\x∉kb)->Q () {s with heap:=h'}):
  wpAny (model prog w) A (Builtin.Frozenset.differenceUpdate id r (.ref b)) Q E s:=by
 unfold Builtin.Frozenset.differenceUpdate
 refine gw ?_
 rw[av (by rw[CL hrb];decide)]
 refine aa (mv (hB.type rfl) ?_)
 rw[aH rfl]
 refine aa (ao ?_)
 refine aa (nN hB ?_)
 refine aa (nN hR ?_)
 rw[av hsm]
 have hB':=hB
 obtain⟨ob,esb,epb,tb,hob,hexb,hdb,hkb,helb,hndb,hbb,hfb,hrb2,hlb⟩:=hB
 unfold setEpoch
 refine aa (aa (cU hob hdb hfb (ao ?_)))
 refine aa (c_ ?_)
 refine aa (JC hB' (fun c hc=>⟨kr,by rw[lN.mp hc];exact hR⟩) fun es bA pm=>?_)
 rw[<-Gm]
 refine aa (Da (h0:=s.heap) (r:=r) (fun k tok k1 s' R sb hS hR'=>?_) es.toList kr s _ bA (j9 _ _) hR fun h2 k2 sb2 g2 m2 hl2=>?_)
 ·have hobs:s'.heap.get? b=some ob:=by rw[sb.2 _ (Ne.symm hrb)];exact hob
  refine aa (c_ (JQ hS fun h3 k3 bb sb3 g3 m3 hl3=>?_))
  refine aa (pX (s:={s' with heap:=h3}) (by show h3.get? b=_;rw[sb3.2 _ (Ne.symm hrb)];exact hobs) hdb hfb (ao ?_))
  exact hR' h3 k3 sb3 g3 m3 hl3
 ·refine ao (JR (s:={s with heap:=h2}) g2 (by omega) fun h4 k4 sb4 g4 p4=>?_)
  refine h h4 k4 (sb2.trans sb4) g4 fun x=>?_
  rw[p4.mem_iff,m2,pm.mem_iff]
theorem JT{a b:Addr}{ka kb:List Int}{id:String}{Q:Value->Shared->Prop}(hA:aQ w s.heap a ka)(hB:aQ w s.heap b kb)(hk:ka.length<64)
  (h:∀h' kr,aQ w h' s.heap.objs.size kr->(∀x,x∈kr↔x∈ka/\x∉kb)->h'.objs.size=s.heap.objs.size+1->(∀c o,s.heap.get? c=some o->h'.get? c=some o)->Q (.ref s.heap.objs.size) {s with heap:=h'}):
  wpAny (model prog w) A (Builtin.Frozenset.difference id a (.ref b)) Q E s:=by
 unfold Builtin.Frozenset.difference
 dsimp only
 refine aa (mv (hB.type rfl) ?_)
 simp only[Bool.not_true,qV,kA,jz,jC]
 refine aa (ao ?_)
 refine aa (nN hB ?_)
 refine aa (nN hA ?_)
 have hra:s.heap.objs.size≠a:=gv hA.lt
 have hrb:s.heap.objs.size≠b:=gv hB.lt
 refine gw ?_
 split
 ·rename_i gL
  refine aa (i9 ?_)
  refine aa (JO hA hk fun h1 k1 g1 p1 hz1 old1=>?_)
  refine aa (ao ?_)
  refine aa (c_ ?_)
  have hl1:=p1.length_eq
  refine JS (s:={s with heap:=h1}) g1 (hB.at fun o e=>old1 _ _ e) hrb (by omega) (by omega) fun h2 k2 sb2 g2 m2=>?_
  refine ao (h h2 k2 g2 (fun x=>by rw[m2,p1.mem_iff]) (by rw[sb2.1,<-hz1]) fun c o e=>?_)
  rw[sb2.2 _ (bP (bg e))];exact old1 _ _ e
 ·refine aa (v_ (hA.type rfl) ?_)
  refine aa (Ct fun h1 hR hz1 old1=>?_)
  refine aa (ao ?_)
  have hA1:aQ w h1 a ka:=hA.at fun o e=>old1 _ _ e
  have hB1:aQ w h1 b kb:=hB.at fun o e=>old1 _ _ e
  have hA1':=hA1
  obtain⟨ow,esw,epw,tw,how,hexw,hdw,rfl,helw,hndw,hbw,hfw,hrw,hlw⟩:=hA1
  unfold setEpoch
  refine aa (aa (cU (s:={s with heap:=h1}) how hdw hfw (ao ?_)))
  refine aa (c_ ?_)
  refine aa (CK (s:={s with heap:=h1}) hA1' hR (fun c hc=>?_) fun es h2 bA pm sb2 hR2=>?_)
  ·simp only[cE,dk,eO]at hc
   rcases hc with rfl|rfl
   ·exact⟨_,hB1⟩
   ·exact⟨_,hR⟩
  have hq2:aQ w h2 b kb:=hB1.at fun o e=>by rw[sb2.2 _ (Ne.symm hrb)];exact e
  have how2:h2.get? a=some ow:=by rw[sb2.2 _ (Ne.symm hra)];exact how
  have bI:es.toList.length=esw.size:=by
   have:=pm.length_eq
   simpa using this
  have hbw':esw.size<scanBound:=by simpa using hbw
  rw[<-Gm]
  refine aa (w6 (p:=fun x=>decide (x∉kb)) (h0:=h2) (n:=esw.size) hbw' (fun k tok kr s' R sb hS hb hR'=>?_) es.toList [] {s with heap:=h2} _ bA (j9 _ _) hR2 (by simp[<-bI]) fun h3 kr sb3 g3 m3=>?_)
  ·have hqs:aQ w s'.heap b kb:=hq2.at fun o e=>by rw[sb.2 _ (Ne.symm hrb)];exact e
   have hows:s'.heap.get? a=some ow:=by rw[sb.2 _ (Ne.symm hra)];exact how2
   have e0:s'={s' with heap:=s'.heap}:=by cases s';rfl
   refine aa (c_ (aa (CH hqs fun r hr=>aa (ao ?_))))
   refine gw ?_
   rw[hr]
   by_cases hin:k∈kb
   ·rw[av (by rw[bZ hin];decide)]
    refine ao ?_
    refine aa (pX hows hdw hfw (ao ?_))
    rw[e0]
    refine hR' s'.heap kr (j9 _ _) hS ?_
    rw[av (by rw[cz (fun z=>z hin)];decide)]
   ·rw[aH (by rw[cz hin];decide)]
    refine aa (sj hS hb fun h4 kr4 sb4 g4 p4=>ao ?_)
    refine aa (pX (s:={s' with heap:=h4}) (by show h4.get? a=_;rw[sb4.2 _ (Ne.symm hra)];exact hows) hdw hfw (ao ?_))
    refine hR' h4 kr4 sb4 g4 ?_
    rw[aH (bZ hin)];exact p4
  ·refine ao (ao (h h3 kr g3 (fun x=>?_) ?_ fun c o e=>?_))
   ·rw[m3,pm.mem_iff]
    simp
   ·rw[sb3.1,sb2.1];exact hz1
   ·have hc:c≠s.heap.objs.size:=bP (bg e)
    rw[sb3.2 _ hc,sb2.2 _ hc];exact old1 _ _ e
theorem JU{a b:Addr}{ka kb:List Int}{Q:Value->Shared->Prop}(hA:aQ w s.heap a ka)(hB:aQ w s.heap b kb)(hk:ka.length<64)
  (h:∀h' kr,aQ w h' s.heap.objs.size kr->(∀x,x∈kr↔x∈ka/\x∉kb)->h'.objs.size=s.heap.objs.size+1->(∀c o,s.heap.get? c=some o->h'.get? c=some o)->Q (.ref s.heap.objs.size) {s with heap:=h'}):
  wpAny (model prog w) A (binaryOp .Sub (.ref a) (.ref b)) Q E s:=by
 refine wpAny_binaryOp_same (T:="set") (hA.type rfl) (hB.type rfl) PySem.F.fills_set_sub PySem.F.slot_set_sub (ix PySem.F.slot_set_sub (hA.type rfl) FF.entry_set_sub ?_ (PySem.F.args_set_sub_2 _ _))
 show wpAny _ _ (do
  if !(<-(Builtin.Frozenset.isAnySet (.ref a)<&&>Builtin.Frozenset.isAnySet (.ref b)))then rule "frozenset.__sub__.declined";return<-ret .notImplemented
  ret (<-Builtin.Frozenset.difference "frozenset.__sub__" (<-Builtin.Frozenset.addrOf (.ref a)) (.ref b))) _ _ _
 refine aa (aa (mv (hA.type rfl) (mv (hB.type rfl) ?_)))
 refine gw ?_
 rw[av (by decide)]
 refine aa (ao ?_)
 refine aa (JT hA hB hk fun h' kr g m z old=>?_)
 exact ao ⟨_,rfl,⟨by simp,h h' kr g m z old⟩⟩
end
noncomputable def cc(w:World)(a:Addr)(ks:List Int):HO:=HO.ext fun h=>aQ w h a ks
theorem sy{P:Program}{w:World}{H:Hp}{h:Heap}{a:Addr}{ks:List Int}(g:aQ w h a ks):cu P w H h a (cc w a ks):=by
 refine⟨g,?_,fun h1 h2 g1 k=>g1.at k⟩
 obtain⟨o,_,_,_,e,_⟩:=g
 exact⟨o,e⟩
theorem nP{P:Program}{w:World}{H:Hp}{h:Heap}{a:Addr}{ks:List Int}(x:cA P w H h)(e:H a=some (cc w a ks)):aQ w h a ks:=(x a _ e).1
theorem aQ.nodup{w:World}{h:Heap}{a:Addr}{ks:List Int}(g:aQ w h a ks):ks.Nodup:=by
 obtain⟨_,_,_,_,_,_,_,_,_,n,_⟩:=g
 exact n
theorem nQ:∀{ns:List Int} {us:List Value},aP (ns.map V.int) us->IntsAre us ns
 |[],_,.nil=>.nil
 |n::r,_,.cons h t=>by
  obtain⟨tk,rfl⟩:=(show ∃t,_=Value.int n t from h)
  exact .cons n tk (nQ t)
theorem w8:∀{ns:List Int} {us:List Value},IntsAre us ns->aP (ns.map V.int) us
 |_,_,.nil=>.nil
 |_,_,.cons n t h=>.cons ⟨t,rfl⟩ (w8 h)
section
variable{X:Cx}{a8:List (Addr×Obj)}{σ:St}{H:Hp}{s:Shared}{h':Heap}{a:Addr}{o:HO}
theorem ah.laidD{t':Nat}{d':Drawn}(I:ah X a8 σ H s)(k:∀b u,s.heap.get? b=some u->h'.get? b=some u)(hp:s.heap.objs.size<=a)
  (new:cu X.prog X.w (ab H a o) h' a o):ah X a8 σ (ab H a o) {s with heap:=h',drawn:=d',toks:=t'}:=by
 have hn:H a=none:=I.hok.fresh hp
 refine I.step (g':=s.gens) (d':=d') (ch:=[]) (fun b hb=>by simp at hb) (fun b u _ _ _ e _=>k b u e) (fun b u _ _ _ e _=>⟨u.slots,k b u e⟩)
  (fun b u _ e n=>by rw[az (bP (cL (bg e) hp))];exact n)
  (fun b u _ e=>⟨u,k b u e⟩) (fun b xs e=>by rw[az (bh e hn)];exact e) (fun b u v e=>by rw[az (bh e hn)];exact e) (fun b ps e=>⟨#[],by rw[az (bh e hn),e];simp⟩) (fun m hm=>?_) (I.hok.laid k hp new) I.bare
 obtain⟨u,es,ep,ho,r⟩:=hm
 exact⟨u,es,ep,k _ u ho,r⟩
end
section
variable{X:Cx}
noncomputable def w9(w:World):List V->Hp->VK->Prop:=fun xs H Q=>∃(a:Addr) (ks:List Int),xs=[.ref a]/\H a=some (cc w a ks)/\ks.length<64/\∀(l:Addr) (ns:List Int),H l=none->ns.Perm ks->ns.Pairwise (· <= ·)->Q (.ref l) (ab H l (.lst (ns.map V.int)))
theorem JV(hc:X.calm=true):cO X (.builtin "sorted") (w9 X.w):=by
 intro a8 s σ H xs us Q I r h
 obtain⟨a,ks,rfl,ha,hl,q⟩:=h
 obtain⟨u,rfl,rx⟩:=fQ r
 cases rx
 refine JA (I.ok.hd hc) (nP I.hok ha) hl fun L n out ns h' d' tk hi hp hs hL hz old=>?_
 refine⟨.ref L,_,I.laidD (d':=d') old hz (o:=.lst (ns.map V.int)) ⟨?_,out.toList,n,w8 hi,by simpa using hL⟩,rfl,q _ ns (I.hok.fresh hz) hp hs⟩
 rw[ar,hp.length_eq,m_];omega
noncomputable def wb(w:World):List V->Hp->VK->Prop:=fun xs H Q=>∃(a:Addr) (ks:List Int),xs=[.ref a]/\H a=some (cc w a ks)/\Q (.int ks.length) H
theorem JW:cO X (.builtin "len") (wb X.w):=by
 intro a8 s σ H xs us Q I r h
 obtain⟨a,ks,rfl,ha,q⟩:=h
 obtain⟨u,rfl,rx⟩:=fQ r
 cases rx
 exact JB (nP I.hok ha) fun tk tk'=>⟨.int ks.length,H,I.tok _,⟨tk,rfl⟩,q⟩
noncomputable def wc(w:World):R2:=fun x y H Q=>∃(a b:Addr) (ka kb:List Int),x=.ref a/\y=.ref b/\H a=some (cc w a ka)/\H b=some (cc w b kb)/\a≠b/\∀(l:Addr) (kr:List Int),H l=none->kr.Nodup->(∀x,x∈kr↔x∈ka/\x∈kb)->Q (.ref l) (ab H l (cc w l kr))
theorem JX:bJ X (binaryOp .BitAnd) (wc X.w):=by
 intro a8 s σ H x y v u Q I rx ry h
 obtain⟨a,b,ka,kb,rfl,rfl,ha,hb,hab,q⟩:=h
 cases rx;cases ry
 refine JE (nP I.hok ha) (nP I.hok hb) hab fun h' kr g m hz old=>?_
 exact⟨.ref s.heap.objs.size,_,I.laid (t':=s.toks) old (aG _) (sy g),rfl,q _ kr (I.hok.fresh (aG _)) g.nodup m⟩
noncomputable def wg(w:World):R2:=fun x y H Q=>∃(a b:Addr) (ka kb:List Int),x=.ref a/\y=.ref b/\H a=some (cc w a ka)/\H b=some (cc w b kb)/\ka.length<64/\∀(l:Addr) (kr:List Int),H l=none->kr.Nodup->(∀x,x∈kr↔x∈ka/\x∉kb)->Q (.ref l) (ab H l (cc w l kr))
theorem JY:bJ X (binaryOp .Sub) (wg X.w):=by
 intro a8 s σ H x y v u Q I rx ry h
 obtain⟨a,b,ka,kb,rfl,rfl,ha,hb,hab,q⟩:=h
 cases rx;cases ry
 refine JU (nP I.hok ha) (nP I.hok hb) hab fun h' kr g m hz old=>?_
 exact⟨.ref s.heap.objs.size,_,I.laid (t':=s.toks) old (aG _) (sy g),rfl,q _ kr (I.hok.fresh (aG _)) g.nodup m⟩
end
section
variable{X:Cx}{K:W.Frag}{w:World}
theorem sA(hw:X.w=w)(hc:X.calm=true):cO X (.builtin "sorted") (w9 w):=by subst hw;exact JV hc
theorem Dc(hw:X.w=w):cO X (.builtin "len") (wb w):=by subst hw;exact JW
theorem Dd(hw:X.w=w):bJ X (binaryOp .BitAnd) (wc w):=by subst hw;exact JX
theorem JZ(hw:X.w=w):bJ X (binaryOp .Sub) (wg w):=by subst hw;exact JY
end
section
variable{σ:St}{H:Hp}{Q:VK}{K:W.Frag}{w:World}
theorem sC{a:Addr}{ks:List Int}(h:H a=some (cc w a ks))(l:ks.length<64)(q:∀(l:Addr) (ns:List Int),H l=none->ns.Perm ks->ns.Pairwise (· <= ·)->Q (.ref l) (ab H l (.lst (ns.map V.int)))):w9 w [.ref a] H Q:=⟨a,ks,rfl,h,l,q⟩
theorem De{a:Addr}{ks:List Int}(h:H a=some (cc w a ks))(q:Q (.int ks.length) H):wb w [.ref a] H Q:=⟨a,ks,rfl,h,q⟩
theorem Df{a b:Addr}{ka kb:List Int}(ha:H a=some (cc w a ka))(hb:H b=some (cc w b kb))(hab:a≠b)(q:∀(l:Addr) (kr:List Int),H l=none->kr.Nodup->(∀x,x∈kr↔x∈ka/\x∈kb)->Q (.ref l) (ab H l (cc w l kr))):wc w (.ref a) (.ref b) H Q:=⟨a,b,ka,kb,rfl,rfl,ha,hb,hab,q⟩
theorem J_{a b:Addr}{ka kb:List Int}(ha:H a=some (cc w a ka))(hb:H b=some (cc w b kb))(hab:ka.length<64)(q:∀(l:Addr) (kr:List Int),H l=none->kr.Nodup->(∀x,x∈kr↔x∈ka/\x∉kb)->Q (.ref l) (ab H l (cc w l kr))):wg w (.ref a) (.ref b) H Q:=⟨a,b,ka,kb,rfl,rfl,ha,hb,hab,q⟩
end
section
variable{X:Cx}{a8:List (Addr×Obj)}{σ:St}{H:Hp}{s:Shared}
theorem sE{vs ws:List V}{ds:List Dt}{us zs:List Value}(h1:bS H vs ds)(h2:bS H ws ds)(r1:aP vs us)(r2:aP ws zs):us.length=zs.length/\∀j (a:j<us.length) (b:j<zs.length),∃(v w:V) (d:Dt),cK H v d/\cK H w d/\ds[j]?=some d/\aO v us[j]/\aO w zs[j]:=by
 have l1:=h1.length
 have l2:=h2.length
 have l3:=r1.length
 have l4:=r2.length
 refine⟨by omega,fun j a b=>?_⟩
 have e1:vs[j]?=some vs[j]:=aN (by omega)
 have e2:ws[j]?=some ws[j]:=aN (by omega)
 obtain⟨d,e3,p1⟩:=h1.get e1
 obtain⟨d',e4,p2⟩:=h2.get e2
 rw[e3]at e4
 cases e4
 obtain⟨u,e5,q1⟩:=aP.get r1 e1
 obtain⟨z,e6,q2⟩:=aP.get r2 e2
 rw[aN a]at e5
 rw[aN b]at e6
 cases e5;cases e6
 exact⟨_,_,d,p1,p2,e3,q1,q2⟩
theorem hZ(I:ah X a8 σ H s){a:Addr}{vs:List V}(e:H a=some (.lst vs)):∃ak:List Value,aP vs ak/\s.heap.IsList a ak.toArray:=by
 obtain⟨_,ak,n,r,h⟩:=(show cu X.prog X.w H s.heap a (.lst vs)from I.hok a _ e)
 exact⟨ak,r,⟨_,h,rfl,n,rfl⟩⟩
theorem kU(I:ah X a8 σ H s){a:Addr}{vs:List V}(e:H a=some (.tup vs)):∃ak:List Value,aP vs ak/\s.heap.IsTuple a ak.toArray:=by
 obtain⟨_,ak,r,h⟩:=(show cu X.prog X.w H s.heap a (.tup vs)from I.hok a _ e)
 exact⟨ak,r,h⟩
theorem sF(n:Nat):((List.range n).all fun _=>true)=true:=by simp
theorem sG(I:ah X a8 σ H s):∀(n:Nat) (A:Around) (x y:V) (u v:Value) (d:Dt),A.units+n<cLine->d.depth<=n->cK H x d->cK H y d->aO x u->aO y v->SeqAt.EqAt A s u v true
 |n,A,_,_,u,v,.int i,hu,hd,.int _,.int _,rx,ry=>by
  obtain⟨t,rfl⟩:=(show ∃t,u=Value.int i t from rx)
  obtain⟨t',rfl⟩:=(show ∃t,v=Value.int i t from ry)
  intro prog w E Q q
  exact wpAny_eqBool_int (by rw[zZ];exact q)
 |n,A,_,_,u,v,.bl b,hu,hd,.bl _,.bl _,rx,ry=>by
  cases(show u=Value.bool b from rx)
  cases(show v=Value.bool b from ry)
  exact .same _
 |n,A,_,_,u,v,.str i,hu,hd,.str _,.str _,rx,ry=>by
  obtain⟨t,rfl⟩:=(show ∃t,u=Value.str i t from rx)
  obtain⟨t',rfl⟩:=(show ∃t,v=Value.str i t from ry)
  intro prog w E Q q
  exact wpAny_eqBool_str (by rw[bZ rfl];exact q)
 |n,A,_,_,u,v,.non,hu,hd,.non,.non,rx,ry=>by
  cases(show u=Value.none from rx)
  cases(show v=Value.none from ry)
  exact .same _
 |0,A,_,_,u,v,.lst ds,hu,hd,_,_,rx,ry=>by simp[Dt.depth]at hd
 |0,A,_,_,u,v,.tup ds,hu,hd,_,_,rx,ry=>by simp[Dt.depth]at hd
 |n+1,A,_,_,u,v,.lst ds,hu,hd,.lst (a:=a) ea ra,.lst (a:=b) eb rb,rx,ry=>by
  cases(show u=Value.ref a from rx)
  cases(show v=Value.ref b from ry)
  by_cases hab:a=b
  ·subst hab;exact .same _
  ·obtain⟨us,r1,l1⟩:=hZ I ea
   obtain⟨zs,r2,l2⟩:=hZ I eb
   obtain⟨hl,hj⟩:=sE ra rb r1 r2
   have q:=SeqAt.RcAt.lists (A:=A) (e:=fun _=>true) l1 l2 (by simpa using hl) (by omega) fun j h1 h2=>by
    obtain⟨x',y',d',p1,p2,e3,q1,q2⟩:=hj j (by simpa using h1) (by simpa using h2)
    have hdd:=pS e3
    simp only[Dt.depth]at hd
    exact sG I n A.in1 x' y' _ _ d' (by show A.units+1+n<_;omega) (by omega) p1 p2 (by simpa using q1) (by simpa using q2)
   rw[sF]at q
   exact .of_refs hab q
 |n+1,A,_,_,u,v,.tup ds,hu,hd,.tup (a:=a) ea ra,.tup (a:=b) eb rb,rx,ry=>by
  cases(show u=Value.ref a from rx)
  cases(show v=Value.ref b from ry)
  by_cases hab:a=b
  ·subst hab;exact .same _
  ·obtain⟨us,r1,l1⟩:=kU I ea
   obtain⟨zs,r2,l2⟩:=kU I eb
   obtain⟨hl,hj⟩:=sE ra rb r1 r2
   have q:=SeqAt.RcAt.tuples (A:=A) (e:=fun _=>true) l1 l2 (by omega) fun j h1 h2=>by
    obtain⟨x',y',d',p1,p2,e3,q1,q2⟩:=hj j (by simpa using h1) (by simpa using h2)
    have hdd:=pS e3
    simp only[Dt.depth]at hd
    exact sG I n A.in1 x' y' _ _ d' (by show A.units+1+n<_;omega) (by omega) p1 p2 (by simpa using q1) (by simpa using q2)
   rw[sF,iA,show(us.toArray.size==zs.toArray.size)=true by simpa using hl]at q
   exact .of_refs hab q
end
section
variable{X:Cx}
noncomputable def Dg(b:Bool):R2:=fun x y H Q=>∃(p q:Addr) (d:Dt),x=.ref p/\y=.ref q/\cK H x d/\cK H y d/\d.depth<=40/\Q (.bl b) H
theorem wj(hu:X.A.units+64<cLine):bJ X (compareOp .NotEq) (Dg false):=by
 intro a8 s σ H x y v u Q I rx ry h
 obtain⟨p,q,d,rfl,rfl,h1,h2,hd,k⟩:=h
 cases(show v=Value.ref p from rx)
 cases(show u=Value.ref q from ry)
 cases d with
 |int i=>cases h1
 |bl i=>cases h1
 |str i=>cases h1
 |non=>cases h1
 |lst ds=>
  cases h1 with|lst ea ra=>cases h2 with|lst eb rb=>
  obtain⟨us,r1,l1⟩:=hZ I ea
  obtain⟨zs,r2,l2⟩:=hZ I eb
  obtain⟨hl,hj⟩:=sE ra rb r1 r2
  refine SeqAt.RcNeAt.lists (A:=X.A) (e:=fun _=>true) l1 l2 (by simpa using hl) (by omega) (fun j h1 h2=>?_) X.prog X.w _ _ ?_
  ·obtain⟨x',y',d',p1,p2,e3,q1,q2⟩:=hj j (by simpa using h1) (by simpa using h2)
   have hdd:=pS e3
   simp only[Dt.depth]at hd
   exact sG I 40 X.A.in1 x' y' _ _ d' (by show X.A.units+1+40<_;omega) (by omega) p1 p2 (by simpa using q1) (by simpa using q2)
  ·rw[sF]
   exact⟨.bl false,H,I,rfl,k⟩
 |tup ds=>
  cases h1 with|tup ea ra=>cases h2 with|tup eb rb=>
  obtain⟨us,r1,l1⟩:=kU I ea
  obtain⟨zs,r2,l2⟩:=kU I eb
  obtain⟨hl,hj⟩:=sE ra rb r1 r2
  refine SeqAt.RcNeAt.tuples (A:=X.A) (e:=fun _=>true) l1 l2 (by omega) (fun j h1 h2=>?_) X.prog X.w _ _ ?_
  ·obtain⟨x',y',d',p1,p2,e3,q1,q2⟩:=hj j (by simpa using h1) (by simpa using h2)
   have hdd:=pS e3
   simp only[Dt.depth]at hd
   exact sG I 40 X.A.in1 x' y' _ _ d' (by show X.A.units+1+40<_;omega) (by omega) p1 p2 (by simpa using q1) (by simpa using q2)
  ·rw[sF,iA,show(us.toArray.size==zs.toArray.size)=true by simpa using hl]
   exact⟨.bl false,H,I,rfl,k⟩
theorem wm{b:Bool}{p q:Addr}{d:Dt}{H:Hp}{Q:VK}(h1:cK H (.ref p) d)(h2:cK H (.ref q) d)(hd:d.depth<=40)(k:Q (.bl b) H):Dg b (.ref p) (.ref q) H Q:=⟨p,q,d,rfl,rfl,h1,h2,hd,k⟩
end
section
variable{σ:St}{H:Hp}{Q:VK}{K:W.Frag}{D:gY}
noncomputable def Dh(J:It)(g:TG)(tb:TS)(D:gY)(σ:St)(H1:Hp):Prop:=∃W:Nat->Nat->St->Hp->Prop,(∃m,W 0 m σ H1)/\∀i m σ H,W i m σ H->
 (J.stop i H/\D.nx σ H)\/(J.go i H/\∃N:St->Hp->Prop,(∀σ' H',N σ' H'->∃m',m'<m/\W (i+1) m' σ' H')/\∀x H',J.yld i H x H'->g x σ H' fun σ2 H2=>tb {D with nx:=N,ct:=N,bk:=D.nx} σ2 H2)
theorem J'{wi:TI}{g:TG}{tb:TS}(q:wi σ H fun J H1=>Dh J g tb D σ H1):Bk wi g tb D σ H:=q
theorem h_{J:It}{g:TG}{tb:TS}(W:Nat->St->Hp->Prop)(n:Nat)(w0:W 0 σ H)(fin:∀σ' H',W n σ' H'->J.stop n H'/\D.nx σ' H')
  (step:∀i σ' H',i<n->W i σ' H'->J.go i H'/\∀x H2,J.yld i H' x H2->g x σ' H2 fun σ3 H3=>tb {D with nx:=W (i+1),ct:=W (i+1),bk:=D.nx} σ3 H3):Dh J g tb D σ H:=by
 refine⟨fun i m σ' H'=>i<=n/\m=n - i/\W i σ' H',⟨n,b_ _,rfl,w0⟩,?_⟩
 rintro i m σ' H' ⟨hi,rfl,hw⟩
 rcases dh i n with hlt|hge
 ·right
  obtain⟨g1,g2⟩:=step i σ' H' hlt hw
  exact⟨g1,W (i+1),fun σ2 H2 w2=>⟨n - (i+1),by omega,by omega,rfl,w2⟩,g2⟩
 ·left
  obtain rfl:i=n:=by omega
  exact fin _ _ hw
theorem ji{J:It}{g:TG}{tt:TT}{te:TE}{Fin:List V->Hp->Prop}(W:Nat->List V->St->Hp->Prop)(n:Nat)(w0:W 0 [] σ H)(fin:∀ys σ' H',W n ys σ' H'->J.stop n H'/\Fin ys H')
  (step:∀i ys σ' H',i<n->W i ys σ' H'->J.go i H'/\ys.length<sizeLine/\∀x H2,J.yld i H' x H2->g x σ' H2 fun σ3 H3=>tt σ3 H3 fun b H4=>if b=true then te σ3 H4 fun y H5=>∃m',m'<n - i/\(i+1<=n/\m'=n - (i+1)/\W (i+1) (ys++[y]) σ3 H5)else ∃m',m'<n - i/\(i+1<=n/\m'=n - (i+1)/\W (i+1) ys σ3 H4)):ic J g tt te Fin σ H:=by
 refine⟨fun i m ys σ' H'=>i<=n/\m=n - i/\W i ys σ' H',⟨n,b_ _,rfl,w0⟩,?_⟩
 rintro i m ys σ' H' ⟨hi,rfl,hw⟩
 rcases dh i n with hlt|hge
 ·right
  exact step i ys σ' H' hlt hw
 ·left
  obtain rfl:i=n:=by omega
  exact fin _ _ _ hw
theorem cY{n i:Nat}{A:Prop}(h:i<n)(a:A):∃m',m'<n - i/\(i+1<=n/\m'=n - (i+1)/\A):=⟨n - (i+1),by omega,h,rfl,a⟩
theorem K0{T:String}{r:V->List V->Hp->VK->Prop}{to:TE}{t:TA}(q:to σ H fun x H1=>vk K T x H1/\t σ H1 fun xs H2=>r x xs H2 Q):pJ K T r to t σ H Q:=q
theorem kW{l:Addr}{xs:List V}{y:V}(h:H l=some (.lst xs))(z:xs.length<sizeLine)(q:Q .non (ab H l (.lst (xs++[y])))):vo (.ref l) [y] H Q:=⟨l,xs,y,rfl,rfl,h,z,q⟩
theorem nR{a b:Addr}{xs zs:List V}(h1:H a=some (.lst xs))(h2:H b=some (.lst zs))(l:xs.length+zs.length<=sizeLine)(q:∀p,H p=none->Q (.ref p) (ab H p (.lst (xs++zs)))):B_ (.ref a) (.ref b) H Q:=⟨a,b,xs,zs,rfl,rfl,h1,h2,l,q⟩
theorem wo(z:Int):∀ns:List Int,pI (.int z) (ns.map V.int)=decide (z∈ns)
 |[]=>by simp[pI]
 |n::r=>by
  have ih:=wo z r
  unfold pI at ih⊢
  rw[cG,qX,ih]
  show((n==z)||decide (z∈r))=_
  by_cases e:n=z
  ·subst e;simp
  ·have e':¬z=n:=fun q=>e q.symm
   simp[e,e']
theorem Di(ns:List Int):(ns.map V.int).all jb=true:=by simp[jb]
theorem Dj{p:Addr}{ns:List Int}{z:Int}(h:ai K H p (ns.map V.int))(q:Q (.bl (decide (z∈ns))) H):ma K false (.int z) (.ref p) H Q:=by
 refine⟨p,_,rfl,.inl h,rfl,Di ns,?_⟩
 rw[wo]
 exact q
theorem mx{p:Addr}{ns:List Int}{z:Int}(h:ai K H p (ns.map V.int))(q:Q (.bl (!decide (z∈ns))) H):ma K true (.int z) (.ref p) H Q:=by
 refine⟨p,_,rfl,.inl h,rfl,Di ns,?_⟩
 rw[wo]
 exact q
end
section
variable{X:Cx}{K:W.Frag}{o e:Expr}{es:List Expr}{to:TE}{t:TA}{c6 c9:Pos}
theorem nS(h:X.K=K)(ho:PE X o to)(ha:PA X (e::es) t)
  (hbase:attributeBase o "append" X.env (eval o X.env)=eval o X.env:=by rfl)
  (hfew:((backTo c9 (starEach (e::es) X.env)).all (fun x=>!x.1) && (backToKw c9 (keywordEach [] X.env)).all (fun x=>x.1.isSome)
   && decide ((e::es).length+([]:List Keyword).length+(if([]:List Keyword).isEmpty then 0 else 1)<30))=true:=by rfl)
  (hline:(c6.endLine==c9.line)=true:=by rfl) (hs:starEach (e::es) X.env=(false,eval e X.env)::starEach es X.env:=by rfl) (hplain:(backTo c9 (starEach es X.env)).any (·.1)=false:=by rfl):
  PE X (.Call (.Attribute o "append" c6) (e::es) [] c9) (pJ K "list" vo to t):=by
 subst h
 exact vm G4 PySem.F.slot_list_append PySem.F.type_list_append HS ho ha hbase hfew hline hs hplain
end
noncomputable def bH(rs:List Int)(P:Int->Prop):Prop:=rs.Pairwise (· < ·)/\∀x,x∈rs↔P x
theorem bH.eq:∀{rs qs:List Int} {P:Int->Prop},bH rs P->bH qs P->rs=qs
 |[],[],_,_,_=>rfl
 |[],q::qs,P,h1,h2=>by
  have:=(h1.2 q).mpr ((h2.2 q).mp dR)
  cases this
 |r::rs,[],P,h1,h2=>by
  have:=(h2.2 r).mpr ((h1.2 r).mp dR)
  cases this
 |r::rs,q::qs,P,h1,h2=>by
  obtain⟨p1,m1⟩:=h1
  obtain⟨p2,m2⟩:=h2
  rw[FZ]at p1 p2
  have a1:r∈q::qs:=(m2 r).mpr ((m1 r).mp dR)
  have a2:q∈r::rs:=(m1 q).mpr ((m2 q).mp dR)
  have e:r=q:=by
   rcases cE.mp a1 with z|z
   ·exact z
   ·rcases cE.mp a2 with y|y
    ·exact y.symm
    ·have:=p2.1 r z
     have:=p1.1 q y
     omega
  subst e
  refine congrArg _ (bH.eq (P:=fun x=>P x/\x≠r) ⟨p1.2,fun x=>?_⟩ ⟨p2.2,fun x=>?_⟩)
  ·constructor
   ·intro hx
    exact⟨(m1 x).mp (d_ _ hx),fun z=>by have:=p1.1 x hx;omega⟩
   ·rintro⟨hx,hn⟩
    rcases cE.mp ((m1 x).mpr hx)with z|z
    ·exact absurd z hn
    ·exact z
  ·constructor
   ·intro hx
    exact⟨(m2 x).mp (d_ _ hx),fun z=>by have:=p2.1 x hx;omega⟩
   ·rintro⟨hx,hn⟩
    rcases cE.mp ((m2 x).mpr hx)with z|z
    ·exact absurd z hn
    ·exact z
theorem i4:∀{ks ns:List Int},ks.Nodup->(∀x∈ks,x∈ns)->ks.length<=ns.length
 |[],_,_,_=>b_ _
 |k::r,ns,h,m=>by
  rw[lO]at h
  have hk:=m k dR
  have:=i4 (ks:=r) (ns:=ns.erase k) h.2 fun x hx=>(List.mem_erase_of_ne (fun z=>h.1 (by rw[<-z];exact hx))).mpr (m x (d_ _ hx))
  rw[List.length_erase_of_mem hk]at this
  have hp:0<ns.length:=List.length_pos_of_mem hk
  rw[cM]
  omega
theorem bH.nodup{rs:List Int}{P:Int->Prop}(h:bH rs P):rs.Nodup:=h.1.imp (fun q z=>by omega)
theorem nT{ns ks:List Int}{P:Int->Prop}(p:ns.Perm ks)(s:ns.Pairwise (· <= ·))(n:ks.Nodup)(m:∀x,x∈ks↔P x):bH ns P:=by
 refine⟨?_,fun x=>(p.mem_iff).trans (m x)⟩
 have nd:ns.Nodup:=p.nodup_iff.mpr n
 exact(s.and nd).imp fun⟨a,b⟩=>by omega
theorem bH.le{rs ns:List Int}{P:Int->Prop}(h:bH rs P)(m:∀x,P x->x∈ns):rs.length<=ns.length:=i4 h.nodup fun x hx=>m x ((h.2 x).mp hx)
theorem wq{H:Hp}:∀ns:List Int,bS H (ns.map V.int) (ns.map Dt.int)
 |[]=>.nil
 |n::r=>.cons (.int n) (wq r)
theorem wt{H:Hp}{p:Addr}{ns:List Int}(h:H p=some (.lst (ns.map V.int))):cK H (.ref p) (.lst (ns.map Dt.int)):=.lst h (wq ns)
noncomputable def cy(lo:Int)(n:Nat):List Int:=(List.range n).map fun(k:Nat)=>lo+(k:Int)
theorem jR(lo:Int)(n:Nat):(cy lo n).length=n:=by simp[cy]
theorem pZ{lo x:Int}{n:Nat}:x∈cy lo n↔lo<=x/\x<lo+n:=by
 unfold cy
 rw[Qd]
 constructor
 ·rintro⟨k,hk,rfl⟩
  rw[FW]at hk
  omega
 ·rintro⟨h1,h2⟩
  exact⟨(x - lo).toNat,FW.mpr (by omega),by omega⟩
theorem wu(lo:Int)(n:Nat):(cy lo n).Pairwise (· < ·):=by
 unfold cy
 rw[List.pairwise_map]
 exact List.pairwise_lt_range.imp fun h=>by omega
theorem Dk:∀{xs:List V} {us:List Value},xs.length=us.length->(∀(k:Nat) x u,xs[k]?=some x->us[k]?=some u->aO x u)->aP xs us
 |[],[],_,_=>.nil
 |[],_::_,e,_=>by cases e
 |_::_,[],e,_=>by cases e
 |x::r,u::z,e,h=>.cons (h 0 x u rfl rfl) (Dk (by simpa using e) fun k a b e1 e2=>h (k+1) a b (by simpa using e1) (by simpa using e2))
theorem Dl{α β:Type}(f:α->β):∀(l:List α) (k:Nat),(l.map f).eraseIdx k=(l.eraseIdx k).map f
 |[],_=>rfl
 |_::_,0=>rfl
 |x::r,k+1=>by rw[cG,List.eraseIdx_cons_succ,List.eraseIdx_cons_succ,cG,Dl f r k]
section
variable{X:Cx}{K:W.Frag}
noncomputable def Dm:List V->Hp->VK->Prop:=fun xs H Q=>∃(i j:Int),xs=[.int i,.int j]/\∀l,H l=none->Q (.ref l) (ab H l (.rng i j))
theorem K1:cO X (.type "range") Dm:=by
 intro a8 s σ H xs us Q I r h
 obtain⟨i,j,rfl,q⟩:=h
 obtain⟨u,w',rfl,⟨t,rfl⟩,⟨t',rfl⟩⟩:=pD r
 refine call_range_2 ?_
 exact⟨.ref s.heap.objs.size,_,I.laid (t':=s.toks+1) (o:=.rng i j) (fun b ob q=>aW _ q) (aG _) ⟨_,_,_,bV _ rfl⟩,rfl,q _ (I.hok.fresh (aG _))⟩
noncomputable def Dn:List V->Hp->VK->Prop:=fun xs H Q=>∃(p:Addr) (i j:Int),xs=[.ref p]/\H p=some (.rng i j)/\ -(2 ^ 62)<=i/\j<2 ^ 62/\i<=2 ^ 61/\ -(2 ^ 61)<=j/\(j - i).toNat<=1000/\∀l,H l=none->Q (.ref l) (ab H l (.lst ((cy i (j - i).toNat).map V.int)))
theorem K2(hc:X.calm=true):cO X (.type "list") Dn:=by
 intro a8 s σ H xs us Q I r h
 obtain⟨p,i,j,rfl,hp,h1,h2,h3,h4,hn,q⟩:=h
 obtain⟨u,rfl,rx⟩:=fQ r
 cases rx
 obtain⟨t,u',v,hg⟩:=I.hok p _ hp
 have hs:Builtin.Range.rangeSize i j 1=(((j - i).toNat:Nat):Int):=by rw[rangeSize_one];split<;>omega
 refine call_list_range (n:=(j - i).toNat) (I.ok.hd hc) hg (small_one h1 (by omega) (by omega) h2) hs (by omega) fun h' tk acc c old hL items=>?_
 refine⟨.ref s.heap.objs.size,_,I.laid (t':=tk) (o:=.lst ((cy i (j - i).toNat).map V.int)) old (aG _) ⟨?_,acc.toList,c,?_,by simpa using hL⟩,rfl,q _ (I.hok.fresh (aG _))⟩
 ·rw[ar,jR]
  exact cN hn (by decide)
 ·refine Dk (by rw[ar,jR];exact items.1.symm) fun k x v e1 e2=>?_
  obtain⟨t2,rfl⟩:=items.2 k v (by simpa using e2)
  have hk:k<(j - i).toNat:=by
   rcases dh k (j - i).toNat with q|q
   ·exact q
   ·rw[iQ (by rw[ar,jR];exact q)]at e1;cases e1
  have e3:((cy i (j - i).toNat).map V.int)[k]?=some (.int (i+(k:Int))):=by simp[cy,uC hk]
  rw[e3]at e1
  cases e1
  exact⟨t2,by rw[Int.mul_one]⟩
noncomputable def Do:List V->Hp->VK->Prop:=fun xs H Q=>∃i j,xs=[.int i,.int j]/\Q (.int (if j<i then j else i)) H
noncomputable def Dp:List V->Hp->VK->Prop:=fun xs H Q=>(∃i,xs=[.int i]/\Q (.int i) H)\/∃k,xs=[.bl k]/\Q (.int (if k then 1 else 0)) H
theorem Dq(hc:X.calm=true):cO X (.builtin "min") Do:=GY hc
theorem K3:cO X (.type "int") Dp:=GZ
noncomputable def Dr(K:W.Frag):List V->Hp->VK->Prop:=fun xs H Q=>∃p ys,xs=[.ref p]/\((ai K H p ys/\∀l,H l=none->Q (.ref l) (ab H l (.tup ys)))\/(ax K H p ys/\Q (.ref p) H))
theorem p_(h:X.K=K):cO X (.type "tuple") (Dr K):=by subst h;exact HP
end
section
variable{X:Cx}{K:W.Frag}{o e:Expr}{es:List Expr}{to:TE}{t:TA}{c6 c9:Pos}
theorem K4(h:X.K=K)(ho:PE X o to)(ha:PA X (e::es) t)
  (hbase:attributeBase o "pop" X.env (eval o X.env)=eval o X.env:=by rfl)
  (hfew:((backTo c9 (starEach (e::es) X.env)).all (fun x=>!x.1) && (backToKw c9 (keywordEach [] X.env)).all (fun x=>x.1.isSome)
   && decide ((e::es).length+([]:List Keyword).length+(if([]:List Keyword).isEmpty then 0 else 1)<30))=true:=by rfl)
  (hline:(c6.endLine==c9.line)=true:=by rfl) (hs:starEach (e::es) X.env=(false,eval e X.env)::starEach es X.env:=by rfl) (hplain:(backTo c9 (starEach es X.env)).any (·.1)=false:=by rfl):
  PE X (.Call (.Attribute o "pop" c6) (e::es) [] c9) (pJ K "list" vq to t):=by
 subst h
 exact vm G4 PySem.F.slot_list_pop PySem.F.type_list_pop HV ho ha hbase hfew hline hs hplain
theorem Ds(h:X.K=K)(ho:PE X o to)(ha:PA X (e::es) t)
  (hbase:attributeBase o "extend" X.env (eval o X.env)=eval o X.env:=by rfl)
  (hfew:((backTo c9 (starEach (e::es) X.env)).all (fun x=>!x.1) && (backToKw c9 (keywordEach [] X.env)).all (fun x=>x.1.isSome)
   && decide ((e::es).length+([]:List Keyword).length+(if([]:List Keyword).isEmpty then 0 else 1)<30))=true:=by rfl)
  (hline:(c6.endLine==c9.line)=true:=by rfl) (hs:starEach (e::es) X.env=(false,eval e X.env)::starEach es X.env:=by rfl) (hplain:(backTo c9 (starEach es X.env)).any (·.1)=false:=by rfl):
  PE X (.Call (.Attribute o "extend" c6) (e::es) [] c9) (pJ K "list" vp to t):=by
 subst h
 exact vm G4 PySem.F.slot_list_extend PySem.F.type_list_extend HU ho ha hbase hfew hline hs hplain
end
section
variable{σ:St}{H:Hp}{Q:VK}{K:W.Frag}
theorem K5{i j:Int}(q:∀l,H l=none->Q (.ref l) (ab H l (.rng i j))):Dm [.int i,.int j] H Q:=⟨i,j,rfl,q⟩
theorem K6{p:Addr}{i j:Int}(h:H p=some (.rng i j))(h1: -(2 ^ 61)<=i)(h2:i<=2 ^ 61)(h3: -(2 ^ 61)<=j)(h4:j<=2 ^ 61)(hn:(j - i).toNat<=1000)(q:∀l,H l=none->Q (.ref l) (ab H l (.lst ((cy i (j - i).toNat).map V.int)))):Dn [.ref p] H Q:=
 ⟨p,i,j,rfl,h,by omega,by omega,h2,h3,hn,q⟩
theorem K7{i j:Int}(q:Q (.int (if j<i then j else i)) H):Do [.int i,.int j] H Q:=⟨i,j,rfl,q⟩
theorem K8{k:Bool}(q:Q (.int (if k then 1 else 0)) H):Dp [.bl k] H Q:=.inr ⟨k,rfl,q⟩
theorem K9{l:Addr}{ns:List Int}{k:Nat}(h:H l=some (.lst (ns.map V.int)))(hk:k<ns.length)(hl:ns.length<=1000)(q:Q (.int ns[k]) (ab H l (.lst ((ns.eraseIdx k).map V.int)))):vq (.ref l) [.int k] H Q:=by
 refine⟨l,_,k,k,.int ns[k],rfl,rfl,h,by omega,by omega,?_,?_,?_⟩
 ·exact PySem.StrLaws.seqIndex_nonneg (by omega) (by rw[ar];omega)
 ·rw[aI,aN hk];rfl
 ·rw[Dl];exact q
theorem Du{l b:Addr}{xs zs:List V}(h1:H l=some (.lst xs))(h2:H b=some (.lst zs))(z:xs.length+zs.length<=sizeLine)(q:Q .non (ab H l (.lst (xs++zs)))):vp (.ref l) [.ref b] H Q:=⟨l,b,xs,zs,rfl,rfl,h1,h2,z,q⟩
theorem qb{p:Addr}{ys:List V}(h:ai K H p ys)(q:∀l,H l=none->Q (.ref l) (ab H l (.tup ys))):Dr K [.ref p] H Q:=⟨p,ys,rfl,.inl ⟨h,q⟩⟩
end
section
variable{X:Cx}
noncomputable def wx(neg:Bool):R2:=fun x y H Q=>∃(p q:Addr) (ns ms:List Int),x=.ref p/\y=.ref q/\H p=some (.lst (ns.map V.int))/\H q=some (.lst (ms.map V.int))/\Q (.bl (if neg then !decide (ns=ms)else decide (ns=ms))) H
theorem sH{ns ms:List Int}(h:ns.length=ms.length):((List.range ns.length).all fun j=>decide (ns[j]?=ms[j]?))=decide (ns=ms):=by
 by_cases e:ns=ms
 ·subst e;simp
 ·rw[cz e]
  rw[Qe]
  intro z
  apply e
  rw[zI]at z
  apply List.ext_getElem?
  intro j
  rcases dh j ns.length with q|q
  ·exact fN (z j (FW.mpr q))
  ·rw[iQ q,iQ (by omega)]
theorem sI{A:Around}{s:Shared}{ns ms:List Int}{us zs:List Value}(r1:aP (ns.map V.int) us)(r2:aP (ms.map V.int) zs)(j:Nat)(h1:j<us.length)(h2:j<zs.length):SeqAt.EqAt A s us[j] zs[j] (decide (ns[j]?=ms[j]?)):=by
 have l1:=r1.length
 have l2:=r2.length
 rw[ar]at l1 l2
 obtain⟨u,e1,q1⟩:=r1.get (i:=j) (x:=.int (ns[j]'(by omega))) (by rw[aI,aN (by omega)];rfl)
 obtain⟨z,e2,q2⟩:=r2.get (i:=j) (x:=.int (ms[j]'(by omega))) (by rw[aI,aN (by omega)];rfl)
 rw[aN h1]at e1
 rw[aN h2]at e2
 cases e1;cases e2
 have q:=BX (A:=A) (s:=s) q1 q2 rfl rfl
 rw[aN (show j<ns.length by omega),aN (show j<ms.length by omega)]
 have e:jO (.int (ns[j]'(by omega))) (.int (ms[j]'(by omega)))=decide (some (ns[j]'(by omega))=some (ms[j]'(by omega))):=by
  show(ns[j]'(by omega)==ms[j]'(by omega))=_
  by_cases z:ns[j]'(by omega)=ms[j]'(by omega)
  ·simp[z]
  ·simp[z]
 rw[e]at q
 exact q
theorem Dv(hu:X.A.units+64<cLine):bJ X (compareOp .Eq) (wx false):=by
 intro a8 s σ H x y v u Q I rx ry h
 obtain⟨p,q,ns,ms,rfl,rfl,h1,h2,k⟩:=h
 cases(show v=Value.ref p from rx)
 cases(show u=Value.ref q from ry)
 obtain⟨us,r1,l1⟩:=hZ I h1
 obtain⟨zs,r2,l2⟩:=hZ I h2
 have e1:=r1.length
 have e2:=r2.length
 rw[ar]at e1 e2
 by_cases hl:ns.length=ms.length
 ·refine SeqAt.RcAt.lists (A:=X.A) (e:=fun j=>decide (ns[j]?=ms[j]?)) l1 l2 (by simp;omega) (by omega) (fun j h1 h2=>?_) X.prog X.w _ _ ?_
  ·simpa using sI (A:=X.A.in1) (s:=s) r1 r2 j (by simpa using h1) (by simpa using h2)
  ·rw[ck,<-e1,sH hl]
   exact⟨.bl _,H,I,rfl,k⟩
 ·refine SeqAt.RcAt.lists_lengths l1 l2 (by simp;omega) (by omega) X.prog X.w _ _ ?_
  have e:decide (ns=ms)=false:=cz fun z=>hl (by rw[z])
  refine⟨.bl false,H,I,rfl,?_⟩
  rw[av (by decide),e]at k
  exact k
theorem Dw(hu:X.A.units+64<cLine):bJ X (compareOp .NotEq) (wx true):=by
 intro a8 s σ H x y v u Q I rx ry h
 obtain⟨p,q,ns,ms,rfl,rfl,h1,h2,k⟩:=h
 cases(show v=Value.ref p from rx)
 cases(show u=Value.ref q from ry)
 obtain⟨us,r1,l1⟩:=hZ I h1
 obtain⟨zs,r2,l2⟩:=hZ I h2
 have e1:=r1.length
 have e2:=r2.length
 rw[ar]at e1 e2
 by_cases hl:ns.length=ms.length
 ·refine SeqAt.RcNeAt.lists (A:=X.A) (e:=fun j=>decide (ns[j]?=ms[j]?)) l1 l2 (by simp;omega) (by omega) (fun j h1 h2=>?_) X.prog X.w _ _ ?_
  ·simpa using sI (A:=X.A.in1) (s:=s) r1 r2 j (by simpa using h1) (by simpa using h2)
  ·rw[ck,<-e1,sH hl]
   exact⟨.bl _,H,I,rfl,k⟩
 ·refine SeqAt.RcNeAt.lists_lengths l1 l2 (by simp;omega) (by omega) X.prog X.w _ _ ?_
  have e:decide (ns=ms)=false:=cz fun z=>hl (by rw[z])
  refine⟨.bl true,H,I,rfl,?_⟩
  rw[aH rfl,e]at k
  exact k
noncomputable def Ka(b:Bool):R2:=fun x y H Q=>∃(p q:Addr) (xs ys:List V),x=.ref p/\y=.ref q/\H p=some (.lst xs)/\H q=some (.lst ys)/\xs.length≠ys.length/\Q (.bl b) H
theorem Kb(hu:X.A.units+64<cLine):bJ X (compareOp .NotEq) (Ka true):=by
 intro a8 s σ H x y v u Q I rx ry h
 obtain⟨p,q,xs,ys,rfl,rfl,h1,h2,hn,k⟩:=h
 cases(show v=Value.ref p from rx)
 cases(show u=Value.ref q from ry)
 obtain⟨us,r1,l1⟩:=hZ I h1
 obtain⟨zs,r2,l2⟩:=hZ I h2
 have e1:=r1.length
 have e2:=r2.length
 refine SeqAt.RcNeAt.lists_lengths l1 l2 (by simp;omega) (by omega) X.prog X.w _ _ ?_
 exact⟨.bl true,H,I,rfl,k⟩
theorem sJ{neg:Bool}{H:Hp}{Q:VK}{p q:Addr}{ns ms:List Int}(h1:H p=some (.lst (ns.map V.int)))(h2:H q=some (.lst (ms.map V.int)))(k:Q (.bl (if neg then !decide (ns=ms)else decide (ns=ms))) H):wx neg (.ref p) (.ref q) H Q:=⟨p,q,ns,ms,rfl,rfl,h1,h2,k⟩
end
theorem Dx:bootBuiltins "min"=some (.builtin "min"):=by decide+kernel
theorem Kc:bootBuiltins "range"=some (.type "range"):=by decide+kernel
theorem wy:bootBuiltins "sum"=some (.builtin "sum"):=by decide+kernel
theorem Kd:bootBuiltins "enumerate"=some (.type "enumerate"):=by decide+kernel
structure bG(mg:Str->Option Value):Prop extends Blt mg where
 z_min:mg "min"=none
 z_max:mg "max"=none
 z_sum:mg "sum"=none
 z_enumerate:mg "enumerate"=none
section
variable{K:W.Frag}
theorem Ke{a:Addr}{rs:List Int}{f:Int->Bool}{tt:TT}{H1:Hp}{Fin:List V->Hp->Prop}{σ0:List (Option V)}(hl:rs.length<=1000)
  (ha:ai K H1 a (rs.map V.int)) (htt:∀z R,R (f z) H1->tt (some (.int z)::σ0) H1 R) (fin:Fin ((rs.filter f).map V.int) H1):
  ic (kE K a) (dH 0) tt (dq 0) Fin (none::σ0) H1:=by
 refine ji (fun i ys σ' H'=>(∃x,σ'=x::σ0)/\H'=H1/\ys=((rs.take i).filter f).map V.int) rs.length ⟨⟨none,rfl⟩,rfl,rfl⟩ ?_ ?_
 ·rintro ys σ' H' ⟨_,rfl,rfl⟩
  refine⟨⟨_,ha,by rw[ar];exact aG _⟩,?_⟩
  rw[gn (aG _)]
  exact fin
 ·rintro i ys σ' H' hi ⟨⟨x0,rfl⟩,rfl,rfl⟩
  have hx:(rs.map V.int)[i]?=some (.int rs[i]):=by rw[aI,aN hi];rfl
  have hle:((rs.take i).filter f).length<=1000:=cN (j6 _ _) (by rw[e9];omega)
  refine⟨⟨_,_,ha,hx⟩,cL (show _<1001 by rw[ar];omega) (by decide),?_⟩
  rintro x H6 ⟨rfl,hy⟩
  have e:=hy _ ha
  rw[hx]at e
  cases e
  refine fU ?_
  refine htt _ _ ?_
  have et:rs.take (i+1)=rs.take i++[rs[i]]:=by rw[gu,aN hi];rfl
  cases hf:f rs[i]with
  |true=>
   refine ba ?_
   refine du (v:=.int rs[i]) rfl ?_
   refine cY hi ⟨⟨_,rfl⟩,rfl,?_⟩
   rw[et,gS,gr,hf]
   simp
  |false=>
   refine bj ?_
   refine cY hi ⟨⟨_,rfl⟩,rfl,?_⟩
   rw[et,gS,gr,hf]
   simp
theorem Dy{lo:Int}{n:Nat}{f:Int->Bool}{tt:TT}{H1:Hp}{Fin:List V->Hp->Prop}{σ0:List (Option V)}(hl:n<=1000)
  (htt:∀z R,R (f z) H1->tt (some (.int z)::σ0) H1 R) (fin:Fin (((cy lo n).filter f).map V.int) H1):
  ic (l_ lo n) (dH 0) tt (dq 0) Fin (none::σ0) H1:=by
 have hlr:=jR lo n
 refine ji (fun i ys σ' H'=>(∃x,σ'=x::σ0)/\H'=H1/\ys=(((cy lo n).take i).filter f).map V.int) n ⟨⟨none,rfl⟩,rfl,rfl⟩ ?_ ?_
 ·rintro ys σ' H' ⟨_,rfl,rfl⟩
  refine⟨aG _,?_⟩
  rw[gn (by omega)]
  exact fin
 ·rintro i ys σ' H' hi ⟨⟨x0,rfl⟩,rfl,rfl⟩
  have hle:(((cy lo n).take i).filter f).length<=1000:=cN (j6 _ _) (by rw[e9];omega)
  refine⟨hi,cL (show _<1001 by rw[ar];omega) (by decide),?_⟩
  rintro x H6 ⟨rfl,rfl⟩
  refine fU ?_
  refine htt _ _ ?_
  have et:(cy lo n).take (i+1)=(cy lo n).take i++[lo+(i:Int)]:=by rw[gu];simp[cy,uC hi]
  cases hf:f (lo+(i:Int))with
  |true=>
   refine ba ?_
   refine du (v:=.int (lo+(i:Int))) rfl ?_
   refine cY hi ⟨⟨_,rfl⟩,rfl,?_⟩
   rw[et,gS,gr,hf]
   simp
  |false=>
   refine bj ?_
   refine cY hi ⟨⟨_,rfl⟩,rfl,?_⟩
   rw[et,gS,gr,hf]
   simp
end
theorem Kf{σ:St}{H:Hp}{ta:TA}{N:It->Hp->Prop}(q:ta σ H fun vs H1=>∃i j:Int,vs=[.int i,.int j]/\(-(2 ^ 62)<=i/\i<2 ^ 62/\ -(2 ^ 62)<=j/\j<2 ^ 62)/\N (l_ i (j - i).toNat) H1):Bj ta σ H N:=q
noncomputable def gG:List Int->List Int
 |[]=>[]
 |x::r=>if x∈gG r then gG r else x::gG r
theorem fW{x:Int}:∀{ns:List Int},x∈gG ns↔x∈ns
 |[]=>eG
 |y::r=>by
  have ih:=@fW x r
  unfold gG
  split
  ·rename_i h
   rw[ih,cE]
   constructor
   ·exact .inr
   ·rintro(rfl|q)
    ·exact fW.mp h
    ·exact q
  ·rw[cE,cE,ih]
theorem i5:∀{ns:List Int},(gG ns).Nodup
 |[]=>mZ
 |y::r=>by
  unfold gG
  split
  ·exact i5
  ·rename_i h
   exact lO.mpr ⟨h,i5⟩
theorem qd{ks js:List Int}(h1:ks.Nodup)(h2:js.Nodup)(m:∀x,x∈ks↔x∈js):ks.length=js.length:=
 Nat.le_antisymm (i4 h1 fun x hx=>(m x).mp hx) (i4 h2 fun x hx=>(m x).mpr hx)
noncomputable def bK(ns:List Int):Nat:=(gG ns).length
noncomputable def aZ(ns ms:List Int):Nat:=((gG ns).filter fun x=>decide (x∈ms)).length
theorem jS{ks ns:List Int}(h:ks.Nodup)(m:∀x,x∈ks↔x∈ns):ks.length=bK ns:=qd h i5 fun x=>(m x).trans fW.symm
theorem fX{ks ns ms:List Int}(h:ks.Nodup)(m:∀x,x∈ks↔x∈ns/\x∈ms):ks.length=aZ ns ms:=qd h (i5.filter _) fun x=>by
 rw[m x,gk,fW,dQ]
theorem wz(ns:List Int):bK ns<=ns.length:=i4 i5 fun x hx=>fW.mp hx
theorem Kg(ns ms:List Int):aZ ns ms<=bK ns:=j6 _ _
theorem wA{ns ms:List Int}(m:∀x,x∈ns↔x∈ms):bK ns=bK ms:=jS i5 fun x=>fW.trans (m x)
theorem iY{ns ms ns' ms':List Int}(m:∀x,x∈ns↔x∈ns')(n:∀x,x∈ms↔x∈ms'):aZ ns ms=aZ ns' ms':=fX (i5.filter _) fun x=>by
 rw[gk,fW,dQ,m x,n x]
theorem my(ns ms:List Int):aZ ns ms=aZ ms ns:=fX (i5.filter _) fun x=>by
 rw[gk,fW,dQ];exact And.comm
noncomputable def eT(ns ms:List Int):Bool:=decide (bK ns<2*aZ ns ms) && decide (bK ms<2*aZ ns ms)
theorem Dz{ns ms ns' ms':List Int}(m:∀x,x∈ns↔x∈ns')(n:∀x,x∈ms↔x∈ms'):eT ns ms=eT ns' ms':=by
 unfold eT;rw[wA m,wA n,iY m n]
section
variable{X:Cx}
end
section
variable{X:Cx}{K:W.Frag}{o e:Expr}{es:List Expr}{to:TE}{t:TA}{c6 c9:Pos}
end
section
variable{σ:St}{H:Hp}{Q:VK}
end
theorem Kh:isSubtype (.type "tuple") (.type "set")=pure false:=by rw[A7];kernel_rfl
theorem Ki:isSubtype (.type "tuple") (.type "frozenset")=pure false:=by rw[A7];kernel_rfl
section
variable{prog:Program}{w:World}{A:Around}{E:Value->Shared->Prop}{s:Shared}
theorem Kj{R:Result->Shared->Prop}{I S l:Addr}{items:Array Value}{ns:List Int}(hh:A.in1.handled=none)(hi:IntsAre items.toList ns)(hb:items.size+1<scanBound)(n1:S≠I)(n2:S≠l)(n3:l≠I):
  ∀(k i:Nat) (s:Shared) (ks:List Int),items.size - i=k->i<=items.size->s.heap.IsTupleIter I l i->s.heap.IsTuple l items->aQ w s.heap S ks->ks.length<=i->(∀x,x∈ks↔x∈ns.take i)->
   (∀h' tk ks',(∀b o,b≠S->b≠I->s.heap.get? b=some o->h'.get? b=some o)->aQ w h' S ks'->(∀x,x∈ks'↔x∈ns)->R (.ok (.ret .none)) {s with heap:=h',toks:=tk})->
   codeAny (model prog w) A (.builtin "set.update.loop" ⟨[.ref S,.ref I],[]⟩) R s:=by
 have bI:items.size=ns.length:=by have:=oI hi;simpa using this
 intro k
 induction k with
 |zero=>
  intro i s ks hk hle hit hl hS hlk hm hR
  have hin:i=items.size:=by omega
  subst hin
  refine lV zH ?_
  rw[oA qS _]
  show wpAny _ A.in1 (pyNext (.ref I) >>=_) _ _ s
  refine aa (wpAny_pyNext_tuple_end hh hit hl (by simp) fun h' eb=>?_)
  show wpAny _ A.in1 (ret Value.none) _ _ _
  refine ao (hR h' s.toks ks (fun b o _ b2 e=>eb b o b2 e) (hS.at fun o e=>eb _ _ n1 e) fun x=>?_)
  rw[hm x,bI,jy]
 |succ k ih=>
  intro i s ks hk hle hit hl hS hlk hm hR
  have hlt:i<items.size:=by omega
  obtain⟨t,hv⟩:=IntsAre.int_at hi i items[i] (by simp[hlt])
  have hgd:ns.getD i 0=ns[i]'(by omega):=by simp[kg,show i<ns.length by omega]
  refine lV zH ?_
  rw[oA qS _]
  show wpAny _ A.in1 (pyNext (.ref I) >>=_) _ _ s
  refine aa (wpAny_pyNext_tuple_item hit hl (x:=items[i]) (by simp[hlt]) fun h1 hit1 sb1=>?_)
  have hS1:aQ w h1 S ks:=hS.at fun o e=>sb1.extBut _ _ n1 e
  show wpAny _ A.in1 (holding [items[i]] (setAdd S items[i]) >>=_) _ _ _
  rw[hv]
  refine aa (c_ ?_)
  unfold setAdd
  refine c_ ?_
  refine aa ((intKind prog w).pyHash (k:=ns.getD i 0) (rh _ _ _ _) ?_)
  refine sj (s:={s with heap:=h1,toks:=s.toks+1}) hS1 (by omega) fun h2 ks2 sb2 hS2 p2=>?_
  have hm2:∀x,x∈ks2↔x∈ns.take (i+1):=fun x=>by
   rw[p2.mem_iff,List.take_add_one,iu,<-hm x,show ns[i]?=some (ns.getD i 0) by rw[hgd];exact aN _]
   split
   ·rename_i hin
    simp only[oB,lN]
    exact⟨.inl,fun z=>z.elim id fun e=>e▸hin⟩
   ·simp only[cE,oB,lN,dk,eO]
    exact Or.comm
  have hl2:ks2.length<=i+1:=by
   rw[p2.length_eq]
   split
   ·omega
   ·rw[cM];omega
  refine ao ⟨uM qS _,ih (i+1) _ ks2 (by omega) hlt ?_ ?_ hS2 hl2 hm2 fun h' tk ks' kp hS' hm'=>?_⟩
  ·(obtain⟨o,ho,r⟩:=hit1;exact⟨o,sb2.extBut _ _ (Ne.symm n1) ho,r⟩)
  ·(obtain⟨o,ho,r⟩:=hl;exact⟨o,sb2.extBut _ _ (Ne.symm n2) (sb1.extBut _ _ n3 ho),r⟩)
  ·exact hR h' tk ks' (fun b o b1 b2 e=>kp b o b1 b2 (sb2.extBut _ _ b1 (sb1.extBut _ _ b2 e))) hS' hm'
set_option maxHeartbeats 8000000 in
theorem Kk{l:Addr}{items:Array Value}{ns:List Int}{Q:Value->Shared->Prop}(hh:A.handled=none)(hl:s.heap.IsTuple l items)(hi:IntsAre items.toList ns)(hb:items.size+1<scanBound)
  (h:∀(h':Heap) (tk:Nat) (ks:List Int),aQ w h' s.heap.objs.size ks->(∀x,x∈ks↔x∈ns)->(∀b o,b<s.heap.objs.size->s.heap.get? b=some o->h'.get? b=some o)->Q (.ref s.heap.objs.size) {s with heap:=h',toks:=tk}):
  wpAny (model prog w) A (call (.type "set") [.ref l]) Q E s:=by
 obtain⟨c,tl,hmro⟩:=PySem.F.called_set.mro
 have hmade:=PySem.F.called_set.made
 have uR:=PySem.F.called_set.sub
 refine wpAny_call (A4 ?_)
 show wpAny _ _ (callAny (.type "set") _) _ _ _
 refine ao ⟨Code.quiet_builtin _ (by decide+kernel),lV PySem.F.entry_type_call ?_⟩
 rw[Around.under_plain (weight_type_call_type "set" [.ref l] []) rfl]
 have h1:=PySem.F.called_set.notType
 have h2:=PySem.F.called_set.canCreate
 have hct:=PySem.F.typeCall_set_1 (.ref l)
 repeat (any_goals (first|assumption|wp_step))
 refine lW (Cu (w:=w) (.ref l) (E:=E) (Q₁:=fun obj s₁=>obj=.ref s.heap.objs.size/\s₁={s with heap:=s.heap.push {cls:=.type "set",dict:=none,data:=.set #[] 0 (.fresh 0 0 (!bt w))}}) ⟨rfl,rfl⟩) fun r s₁ hr=>?_
 cases r with
 |error e=>exact hr
 |ok fl=>
  cases fl with
  |ret obj=>
   obtain⟨rfl,rfl⟩:=hr
   generalize hled:(!bt w)=led
   have hS:(s.heap.push {cls:=.type "set",dict:=none,data:=.set #[] 0 (.fresh 0 0 led)}).get? s.heap.objs.size=some {cls:=.type "set",dict:=none,data:=.set #[] 0 (.fresh 0 0 led)}:=bV _ rfl
   have hT:Shared.TypeIs {s with heap:=s.heap.push {cls:=.type "set",dict:=none,data:=.set #[] 0 (.fresh 0 0 led)}} (.ref s.heap.objs.size) "set":=⟨_,hS,rfl⟩
   have hli:=PySem.F.called_set.init.lookup
   have hbi:=PySem.F.called_set.init.bind (.ref s.heap.objs.size)
   repeat (any_goals (first|assumption|wp_step))
   refine lW (codeAny_call_builtin (R:=wants (fun r s₂=>r=.none/\∃h' tk ks,s₂={s with heap:=h',toks:=tk}/\aQ w h' s.heap.objs.size ks/\(∀x,x∈ks↔x∈ns)/\
     (∀b o,b<s.heap.objs.size->s.heap.get? b=some o->h'.get? b=some o)) E) PySem.F.called_set.init.plain PySem.F.entry_set_init (check_set_init_1 hT ?_)) fun r₂ s₂ hr₂=>?_
   ·obtain⟨ol,hol,hcl,nl,hdl⟩:=hl
    obtain⟨ocls,odict,odata,oslots⟩:=ol
    simp only at hcl hdl
    subst hcl;subst hdl
    have hol':(s.heap.push {cls:=.type "set",dict:=none,data:=.set #[] 0 (.fresh 0 0 led)}).get? l=some {cls:=.type "tuple",dict:=odict,data:=.seq items nl,slots:=oslots}:=aW _ hol
    have hsls:=Kh
    have hslf:=Ki
    have hne:(Value.type "tuple"==Value.type "dict")=false:=by decide
    have hl1:(s.heap.push {cls:=.type "set",dict:=none,data:=.set #[] 0 (.fresh 0 0 led)}).IsTuple l items:=⟨_,hol',rfl,nl,rfl⟩
    unfold Builtin.«set.__init__» noKeywords Builtin.Frozenset.updateFrom
    generalize hPI:pyIter=PI
    wp_walk
    subst hPI
    refine uD hl1 ?_
    refine aa (wpAny_runValue ?_)
    have hlS:l<s.heap.objs.size:=bg hol
    have hh3:A.in1.in1.in1.handled=none:=by simp[hh]
    have hSz:(s.heap.push {cls:=.type "set",dict:=none,data:=.set #[] 0 (.fresh 0 0 led)}).objs.size=s.heap.objs.size+1:=eB ..
    have e1:s.heap.objs.size≠(s.heap.push {cls:=.type "set",dict:=none,data:=.set #[] 0 (.fresh 0 0 led)}).objs.size:=by rw[hSz];exact bP (lT _)
    have e2:l≠(s.heap.push {cls:=.type "set",dict:=none,data:=.set #[] 0 (.fresh 0 0 led)}).objs.size:=by rw[hSz];exact bP (jx hlS)
    refine Kj (w:=w) hh3 hi hb e1 (gv hlS) e2 (items.size - 0) 0 _ [] (by omega) (b_ _)
     ⟨_,bV _ rfl,rfl,rfl⟩ (hl1.push _) ⟨_,#[],0,_,aW _ hS,⟨rfl,rfl,rfl⟩,rfl,rfl,fun e he=>by simp at he,mZ,by decide,by rfl,List.Pairwise.nil,?_⟩ (aG _) (fun x=>by simp) ?_
    ·show led=true\/bt w=true
     rw[<-hled]
     cases bt w<;>simp
    ·intro h' tk ks' kp hS' hm'
     show wpAny _ _ _ _ _ _
     refine ao ?_
     show wpAny _ _ (ret Value.none) _ _ _
     refine ao ⟨rfl,h',tk,ks',rfl,hS',hm',fun b o hb e=>?_⟩
     exact kp b o (bP hb) (by rw[hSz];exact bP (jx hb)) (aW _ (aW _ e))
   ·cases r₂ with
    |error e=>exact hr₂
    |ok fl₂=>
     cases fl₂ with
     |ret r=>
      obtain⟨rfl,h',tk,ks,rfl,hS',hm',hk'⟩:=hr₂
      repeat (any_goals (first|assumption|wp_step))
      exact h _ _ _ hS' hm' hk'
     |_=>exact hr₂.elim
  |_=>exact hr.elim
end
section
variable{X:Cx}{K:W.Frag}
noncomputable def cZ(K:W.Frag)(H:Hp)(p:Addr)(xs:List V):Prop:=ai K H p xs\/ax K H p xs
theorem fY{H H':Hp}{a:Addr}{xs:List V}(e:aw H H')(h:ax K H a xs):ax K H' a xs:=by
 rcases h with(h|⟨o,h⟩)|h
 ·exact .inl (.inl (e _ _ h))
 ·exact .inl (.inr ⟨o,e _ _ h⟩)
 ·exact .inr h
theorem cZ.same{H H':Hp}{p:Addr}{xs:List V}(s:aw H H')(h:cZ K H p xs):cZ K H' p xs:=h.elim (fun h=>.inl (s.seq h)) fun h=>.inr (fY s h)
noncomputable def wB(K:W.Frag)(w:World):List V->Hp->VK->Prop:=fun xs H Q=>∃(p:Addr) (ns:List Int),xs=[.ref p]/\cZ K H p (ns.map V.int)/\ns.length+1<4096/\∀(l:Addr) (ks:List Int),H l=none->ks.Nodup->(∀x,x∈ks↔x∈ns)->Q (.ref l) (ab H l (cc w l ks))
theorem Kl(hc:X.calm=true):cO X (.type "set") (wB X.K X.w):=by
 intro a8 s σ H xs us Q I r h
 obtain⟨p,ns,rfl,hq,hl,q⟩:=h
 obtain⟨u,rfl,rx⟩:=fQ r
 cases rx
 rcases hq with hq|hq
 ·obtain⟨ak,r',pl,hz⟩:=I.list hq
  have hi:=nQ r'
  have bI:=oI hi
  refine Js (I.ok.hd hc) pl.isList (by simpa using hi) (by simp only[ck];show _<4096;omega) fun h' tk ks g m old=>?_
  exact⟨.ref s.heap.objs.size,_,I.laidD (d':=s.drawn) (fun b o e=>old b o (bg e) e) (aG _) (sy g),rfl,q _ ks (I.hok.fresh (aG _)) g.nodup m⟩
 ·obtain⟨ak,r',pl,hz⟩:=I.tuple hq
  have hi:=nQ r'
  have bI:=oI hi
  refine Kk (I.ok.hd hc) (show s.heap.IsTuple p ak.toArray from pl) (by simpa using hi) (by simp only[ck];show _<4096;omega) fun h' tk ks g m old=>?_
  exact⟨.ref s.heap.objs.size,_,I.laidD (d':=s.drawn) (fun b o e=>old b o (bg e) e) (aG _) (sy g),rfl,q _ ks (I.hok.fresh (aG _)) g.nodup m⟩
theorem jT{w:World}(h:X.K=K)(hw:X.w=w)(hc:X.calm=true):cO X (.type "set") (wB K w):=by subst h;subst hw;exact Kl hc
end
section
variable{σ:St}{H:Hp}{Q:VK}{K:W.Frag}{w:World}
theorem jU{p:Addr}{ns:List Int}(h:cZ K H p (ns.map V.int))(l:ns.length+1<4096)(q:∀(l:Addr) (ks:List Int),H l=none->ks.Nodup->(∀x,x∈ks↔x∈ns)->Q (.ref l) (ab H l (cc w l ks))):wB K w [.ref p] H Q:=⟨p,ns,rfl,h,l,q⟩
theorem DA{p:Addr}{ys:List V}(h:cZ K H p ys)(q:∀l,H l=none->Q (.ref l) (ab H l (.lst ys))):se K [.ref p] H Q:=⟨p,ys,rfl,h,q⟩
theorem Km{p:Addr}{ys:List V}(h:cZ K H p ys)(q:Q (.int ys.length) H):r_ K [.ref p] H Q:=⟨p,ys,rfl,h,q⟩
end
noncomputable def wC(K:W.Frag)(l:Addr):It:=
 ⟨fun i H=>∃xs u,ai K H l xs/\xs[i]?=some u,
  fun i H x H'=>∃T u,x=.ref T/\H T=none/\H'=ab H T (.tup [.int i,u])/\∀xs,ai K H l xs->xs[i]?=some u,
  fun i H=>∃xs,ai K H l xs/\xs.length<=i⟩
theorem Kn{P:Program}{w:World}{K:W.Frag}{es:List Expr}{kk:Nat}{pos:Pos}{e it l:Addr}(hne:e≠it)(hli:l≠it)(hle:l≠e):
  iC P w K (.Tuple es kk pos) (wC K l) [e,it] e (fun i h=>(∃old,IsEnum h e it i old)/\h.IsListIter it l i) where
 mem:=by simp
 obj:=fun i h st b hb=>by
  obtain⟨⟨old,he⟩,hit⟩:=st
  simp only[cE,dk,eO]at hb
  rcases hb with rfl|rfl
  ·exact⟨_,he,fun v e=>by cases e⟩
  ·obtain⟨o,e',c,d⟩:=hit
   exact⟨o,e',fun v z=>by rw[d]at z;cases z⟩
 keep:=fun i h h' st k=>by
  obtain⟨⟨old,he⟩,hit⟩:=st
  exact⟨⟨old,k e (by simp) _ he⟩,hit.at fun o q=>k it (by simp) o q⟩
 item:=by
  intro X hP hw hK hc i a8 s σ H E I hf st hg
  subst hP hw hK
  obtain⟨xs,u,q1,e1⟩:=hg
  obtain⟨ak,rv,p1,_⟩:=I.list q1
  obtain⟨a1,b1,r1⟩:=rv.get e1
  obtain⟨⟨old,he⟩,hit⟩:=id st
  refine wpAny_pyNext_enum_item he hit p1.isList (x:=a1) (by simpa using b1) hne fun h' g1 g2 g3 g4 g5=>?_
  refine⟨_,rfl,wpAny_letOwnedTupleGo_enum g1 fun h'' g1' hs'=>?_⟩
  have ne:∀{b:Addr} {o:Obj},s.heap.get? b=some o->s.heap.objs.size≠b:=fun e=>gv (bg e)
  have kk:∀b o,b∉ [e,it]->s.heap.get? b=some o->h''.get? b=some o:=fun b o hb q=>by
   simp only[cE,dk,eO,jD]at hb
   exact hs'.extBut _ _ hb.1 (g5 b o hb.1 hb.2 q)
  have hT:h''.get? s.heap.objs.size=some {cls:=.type "tuple",data:=.seq #[.int i s.toks,a1]}:=hs'.extBut _ _ (ne he) g3
  have hch:∀b∈[e,it],cJ X a8 H b:=hf
  have new:cu X.prog X.w (ab H s.heap.objs.size (.tup [.int i,u])) h'' s.heap.objs.size (.tup [.int i,u]):=
   ⟨by show 2<=sizeLine;decide,[.int i s.toks,a1],.cons ⟨_,rfl⟩ (.cons r1 .nil),_,hT,rfl,_,rfl⟩
  have I1:ah X a8 σ (ab H s.heap.objs.size (.tup [.int i,u])) {s with heap:=h'',toks:=s.toks+1}:=I.chgLaid hch kk (aG _) new
  have hn:H s.heap.objs.size=none:=I.hok.fresh (aG _)
  refine⟨.ref s.heap.objs.size,_,I1,rfl,⟨_,u,rfl,hn,rfl,fun xs' w1=>by rw[I.list_inj w1 q1];exact e1⟩,⟨⟨a1,by simpa using g1'⟩,g2.at fun o q=>hs'.extBut _ _ (Ne.symm hne) q⟩,fun b hb=>?_⟩
  rw[az (fun z=>?_)]
  ·exact(hf b hb).1
  ·obtain⟨o,ho⟩:∃o,s.heap.get? b=some o:=by
    simp only[cE,dk,eO]at hb
    rcases hb with rfl|rfl
    ·exact⟨_,he⟩
    ·obtain⟨o,e',_⟩:=hit;exact⟨o,e'⟩
   exact(ne ho) z.symm
 done:=by
  intro X hP hw hK hc i a8 s σ H E I hf st hg
  subst hP hw hK
  obtain⟨xs,q1,hx⟩:=hg
  obtain⟨ak,rv,p1,_⟩:=I.list q1
  have hl:=rv.length
  obtain⟨⟨old,he⟩,hit⟩:=id st
  obtain⟨f0,f1,f2,f3,f4,f5⟩:=hf it (by simp)
  exact wpAny_pyNext_enum_end (I.ok.hd hc) he hit p1.isList (by simp;omega) fun h' eb=>⟨rfl,I.turned (t':=s.toks) (fun b o hb e=>eb b o hb e) f0 f1 f3 f4 f5⟩
 self:=fun _ _ _ _ _ st h=>by
  obtain⟨⟨old,he⟩,hit⟩:=st
  exact wpAny_pyIter_enum he h
section
variable{X:Cx}{K:W.Frag}{es:List Expr}{kk:Nat}{tpos:Pos}
noncomputable def DB(K:W.Frag)(ta:TA):TI:=fun σ H R=>ta σ H fun vs H1=>∃a,vs=[.ref a]/\(∃xs,ai K H1 a xs)/\R (wC K a) H1
theorem sL{a:Expr}{ta:TA}{p pos:Pos}(hK:X.K=K)(hg:Gl X "enumerate")(hm:X.mg "enumerate"=none)(ha:PA X [a] ta)(hs:starEach [a] X.env=[(false,eval a X.env)]:=by rfl):
  PI X (.Tuple es kk tpos) (.Call (.Name "enumerate" p) [a] [] pos) (DB K ta):=by
 subst hK
 intro a8 s σ H R I h
 refine Call_ (jJ I hg hm Kd (ou (aD (ha pos a8 s σ H _ I h) fun us s1 ⟨vs,H1,I1,r1,q1⟩=>?_) hs rfl))
 obtain⟨l,e,⟨xs,hq⟩,q⟩:=q1
 subst e
 obtain⟨u,rfl,rx⟩:=fQ r1
 cases rx
 obtain⟨ak,rv,p1,_⟩:=I1.list hq
 have lt1:l<s1.heap.objs.size:=by obtain⟨_,e,_⟩:=p1.isList;exact bg e
 refine call_enumerate_list p1.isList fun h' g1 g2 g3 g4=>?_
 refine wpAny_pyIter_enum g1 ?_
 refine⟨_,_,_,_,H1,rfl,I1.kept (t':=s1.toks) g4,Kn (e:=s1.heap.objs.size+1) (it:=s1.heap.objs.size) (l:=l) (Nat.succ_ne_self _) (bP lt1) (bP (jx lt1)),⟨⟨_,g1⟩,g2⟩,fun b hb=>?_,q⟩
 simp only[cE,dk,eO]at hb
 have hle:s1.heap.objs.size<=b:=by rcases hb with rfl|rfl<;>omega
 exact I1.fpOk hle (I1.hok.fresh hle)
theorem Ko{σ:St}{H:Hp}{ta:TA}{N:It->Hp->Prop}(q:ta σ H fun vs H1=>∃a,vs=[.ref a]/\(∃xs,ai K H1 a xs)/\N (wC K a) H1):DB K ta σ H N:=q
end
section
variable{X:Cx}{K:W.Frag}
noncomputable def DC(K:W.Frag):List V->Hp->VK->Prop:=fun xs H Q=>∃(p:Addr) (ns:List Int),xs=[.ref p]/\ai K H p (ns.map V.int)/\ns.length<64/\∀(l:Addr) (rs:List Int),H l=none->rs.Perm ns->rs.Pairwise (· <= ·)->Q (.ref l) (ab H l (.lst (rs.map V.int)))
theorem Kp(h:X.K=K):cO X (.builtin "sorted") (DC K):=by
 subst h
 intro a8 s σ H xs us Q I r h
 obtain⟨p,ns,rfl,hq,hl,q⟩:=h
 obtain⟨u,rfl,rx⟩:=fQ r
 cases rx
 obtain⟨ak,r',pl,hz⟩:=I.list hq
 have hi:=nQ r'
 have bI:=oI hi
 refine PyProof.Rows.sorted_ints pl.isList hi (by omega) fun out rs a1 a2 a3=>?_
 obtain⟨e,he⟩:=PyProof.Rows.sortedAll_at s.heap ak out
 refine⟨.ref (s.heap.objs.size+1),_,I.laidD (d':=s.drawn) (t':=s.toks) (o:=.lst (rs.map V.int)) (fun b o k=>PyProof.Rows.sortedAll_old k) (n0 _) ⟨?_,out.toList,e,w8 a1,by simpa using he⟩,rfl,q _ rs (I.hok.fresh (n0 _)) a2 a3⟩
 rw[ar,a2.length_eq,m_];omega
theorem DD(h:X.K=K):jM X (vf K):=by subst h;exact HA
end
section
variable{σ:St}{H:Hp}{Q:VK}{K:W.Frag}
theorem Kq{p:Addr}{ns:List Int}(h:ai K H p (ns.map V.int))(l:ns.length<64)(q:∀(l:Addr) (rs:List Int),H l=none->rs.Perm ns->rs.Pairwise (· <= ·)->Q (.ref l) (ab H l (.lst (rs.map V.int)))):DC K [.ref p] H Q:=⟨p,ns,rfl,h,l,q⟩
theorem DE{r r':R2}{ta tb tc:TE}(q:ta σ H fun x H1=>tb σ H1 fun y H2=>r x y H2 fun z H3=>∃k,z=.bl k/\(if k=true then tc σ H3 fun w' H4=>r' y w' H4 Q else Q (.bl false) H3)):rG r r' ta tb tc σ H Q:=q
end
noncomputable def i6(ns:List Int):Bool:=(ns.zip (ns.drop 1)).all fun p=>decide (p.1<p.2)
theorem DF:∀{ns:List Int},i6 ns=true↔ns.Pairwise (· < ·)
 |[]=>by simp[i6]
 |[x]=>by simp[i6]
 |x::y::r=>by
  have ih:=@DF (y::r)
  have e:i6 (x::y::r)=(decide (x<y) && i6 (y::r)):=by
   unfold i6
   simp
  rw[e,fF,ih,dQ,FZ (a:=x)]
  constructor
  ·rintro⟨h1,h2⟩
   refine⟨fun z hz=>?_,h2⟩
   rw[FZ]at h2
   rcases cE.mp hz with rfl|hz
   ·exact h1
   ·have:=h2.1 z hz
    omega
  ·rintro⟨h1,h2⟩
   exact⟨h1 y dR,h2⟩
end L2
namespace L2
end L2
namespace L2
end L2
namespace L2
end L2
namespace L2
end L2
namespace L2
end L2
namespace L2
end L2
namespace L2
end L2
namespace L2
open PySem PySem.Spec PyProof.Rows
section
variable{X:Cx}{K:W.Frag}
noncomputable def sM(K:W.Frag):List V->Hp->VK->Prop:=fun xs H Q=>∃(p:Addr) (ns:List Int),xs=[.ref p]/\(ai K H p (ns.map V.int)\/ax K H p (ns.map V.int))/\Q (.int ns.sum) H
theorem Kr(hc:X.calm=true):cO X (.builtin "sum") (sM X.K):=by
 intro a8 s σ H xs us Q I r h
 obtain⟨p,ns,rfl,hq,q⟩:=h
 obtain⟨u,rfl,rx⟩:=fQ r
 cases rx
 rcases hq with hq|hq
 ·obtain⟨ak,r',pl,hz⟩:=I.list hq
  have hi:=nQ r'
  have hl:=pl.isList
  obtain⟨ys,hx⟩:=hi.allInts.items
  have hn:numsOf ak.toArray.toList=ns:=by rw[show ak.toArray.toList=ak from rfl,hi.numsOf]
  rw[hx]at hl hn
  rw[nums_intItems]at hn
  refine sum_intListG (I.ok.hd hc) hl fun h' tk t' hk=>?_
  rw[preSum_eq,gn (by simp),hn]
  exact⟨.int ns.sum,H,I.kept (t':=tk) hk,⟨_,rfl⟩,q⟩
 ·obtain⟨ak,r',pl,hz⟩:=I.tuple hq
  have hi:=nQ r'
  have hl:s.heap.IsTuple p ak.toArray:=pl
  obtain⟨ys,hx⟩:=hi.allInts.items
  have hn:numsOf ak.toArray.toList=ns:=by rw[show ak.toArray.toList=ak from rfl,hi.numsOf]
  rw[hx]at hl hn
  rw[nums_intItems]at hn
  refine W.ktm_sumG (I.ok.hd hc) hl fun h' tk t' hk=>?_
  rw[preSum_eq,gn (by simp),hn]
  exact⟨.int ns.sum,H,I.kept (t':=tk) hk,⟨_,rfl⟩,q⟩
theorem wD(h:X.K=K)(hc:X.calm=true):cO X (.builtin "sum") (sM K):=by subst h;exact Kr hc
end
section
variable{prog:Program}{w:World}{A:Around}{E:Value->Shared->Prop}{s:Shared}
theorem DG{it t:Addr}{items:Array Value}(hne:t≠it):∀(n i:Nat) (s:Shared) (Q:List Value->Shared->Prop),s.heap.IsListIter it t i->s.heap.IsList t items->i+n<=items.size->
  (∀h',h'.IsListIter it t (i+n)->Heap.SameBut it s.heap h'->Q ((items.toList.drop i).take n) {s with heap:=h'})->wpAny (model prog w) A (draw (.ref it) n) Q E s
 |0,i,s,Q,hit,_,_,hQ=>by
  show wpAny _ _ (pure []) Q E s
  exact ao (by simpa using hQ s.heap hit (j9 ..))
 |n+1,i,s,Q,hit,ht,hle,hQ=>by
  have hlt:i<items.size:=by omega
  show wpAny _ _ (pyNext (.ref it) >>=_) Q E s
  refine aa (G6 hit ht (x:=items[i]) (by simp[hlt]) fun h₁ hit₁ hs₁=>?_)
  refine aa (c_ (DG hne n (i+1) _ _ hit₁ (ht.extBut hs₁.extBut hne) (by omega) fun h₂ hit₂ hs₂=>ao ?_))
  have hd:items.toList.drop i=items[i]::items.toList.drop (i+1):=by simp[List.drop_eq_getElem_cons,hlt]
  have:=hQ h₂ (by rw[show i+(n+1)=i+1+n by omega];exact hit₂) (hs₁.trans hs₂)
  rw[hd,List.take_succ_cons]at this
  exact this
theorem Ks{t:Addr}{items:Array Value}{Q:List Value->Shared->Prop}(hh:A.handled=none)(ht:s.heap.IsList t items)
  (hQ:∀h',Heap.ExtBut s.heap.objs.size s.heap h'->Q items.toList {s with heap:=h'}):wpAny (model prog w) A (unpackItems (.ref t) items.size none) Q E s:=by
 have hlt:t≠s.heap.objs.size:=by obtain⟨o,ho,_⟩:=ht;exact bP (bg ho)
 unfold unpackItems
 refine aa ?_
 ·unfold notIterableAtAll
  refine aa (A1 ht.typeIs PySem.F.slot_list_iter.lookup ?_)
  refine ao ?_
  simp only[qV,kA]
  refine aa (c_ (uG ht ?_))
  refine aa (c_ (DG hlt items.size 0 _ _ ⟨_,bV _ rfl,rfl,rfl⟩ (ht.push _) (by omega) fun h₁ hit₁ hs₁=>?_))
  have hall:List.take items.size (List.drop 0 items.toList)=items.toList:=by
   rw[Aa];exact gn (by simp)
  rw[hall]
  rw[av (by simp)]
  have ht₁:h₁.IsList t items:=(ht.push _).extBut hs₁.extBut hlt
  refine aa (c_ (G8 hh hit₁ ht₁ (by simp) fun h₂ he₂=>?_))
  simp only[Option.isSome_none,qV,kA]
  refine ao (hQ h₂ fun b o hb e=>he₂ b o hb (hs₁.extBut b o hb (aW _ e)))
end
section
variable{X:Cx}{K:W.Frag}{pos:Pos}
noncomputable def wF(K:W.Frag)(n:Nat)(t:hJ):TG:=fun v σ H Q=>∃a xs,v=.ref a/\ai K H a xs/\xs.length=n/\t xs σ H Q
theorem Kt{es:List Expr}{k:Nat}{t:hJ}{n:Nat}(hc:X.calm=true)(h:lZ X es t)
  (hn:(assignEach es X.env).length=n:=by rfl) (hst:(assignEach es X.env).findIdx? (·.1)=none:=by rfl):PG X (.Tuple es k pos) (wF X.K n t):=by
 intro a8 s σ H v u Q I r hw
 obtain⟨a,xs,e1,hq,hl,hw⟩:=hw
 subst e1
 cases r
 obtain⟨ak,rv,ht,hz⟩:=I.list hq
 have bI:=rv.length
 rw[assign_Tuple]
 refine aa (kz ?_)
 unfold unpack
 rw[hst]
 refine aa (c_ ?_)
 have e:(assignEach es X.env).length=ak.toArray.size:=by rw[hn,<-hl,bI,ck]
 rw[e]
 refine Ks (I.ok.hd hc) ht.isList fun h' hx=>?_
 have I1:ah X a8 σ H {s with heap:=h'}:=I.kept (t':=s.toks) fun b o e=>hx b o (bP (bg e)) e
 exact h a8 _ σ H xs _ Q I1 (by simpa using rv) hw
theorem DH{es:List Expr}{k:Nat}{t:hJ}{n:Nat}{pos:Pos}(h:X.K=K)(hc:X.calm=true)(hh:lZ X es t)
  (hn:(assignEach es X.env).length=n:=by rfl) (hst:(assignEach es X.env).findIdx? (·.1)=none:=by rfl):PG X (.Tuple es k pos) (wF K n t):=by subst h;exact Kt hc hh hn hst
end
section
variable{σ:St}{H:Hp}{Q:VK}{K:W.Frag}
theorem Ku{p:Addr}{ns:List Int}(h:ai K H p (ns.map V.int))(q:Q (.int ns.sum) H):sM K [.ref p] H Q:=⟨p,ns,rfl,.inl h,q⟩
theorem DI{p:Addr}{ns:List Int}(h:ax K H p (ns.map V.int))(q:Q (.int ns.sum) H):sM K [.ref p] H Q:=⟨p,ns,rfl,.inr h,q⟩
theorem DJ{n:Nat}{t:hJ}{a:Addr}{xs:List V}{N:St->Hp->Prop}(h:ai K H a xs)(l:xs.length=n)(q:t xs σ H N):wF K n t (.ref a) σ H N:=⟨a,xs,rfl,h,l,q⟩
end
noncomputable def eU(H:Hp)(ts:List Addr)(aJ:List (List Int)):Prop:=ts.length=aJ.length/\∀(i:Nat) t ys,ts[i]?=some t->aJ[i]?=some ys->H t=some (.tup (ys.map V.int))
theorem eU.same{H H':Hp}{ts:List Addr}{aJ:List (List Int)}(s:aw H H')(h:eU H ts aJ):eU H' ts aJ:=⟨h.1,fun i t p e1 e2=>s _ _ (h.2 i t p e1 e2)⟩
theorem wG:∀{ts:List Addr} {us:List Value},aP (ts.map V.ref) us->us=ts.map Value.ref
 |[],us,r=>by
  have:=r.length
  cases us with
  |nil=>rfl
  |cons _ _=>simp at this
 |t::ts,us,r=>by
  cases us with
  |nil=>have:=r.length;simp at this
  |cons u us=>
   obtain⟨u0,e0,q0⟩:=r.get (i:=0) (x:=.ref t) rfl
   cases e0
   have e:u=.ref t:=q0
   rw[e,wG (ts:=ts) (us:=us) (by cases r;assumption)]
   rfl
theorem wH:∀{xs ys:List Int},xs.map V.int=ys.map V.int->xs=ys
 |[],[],_=>rfl
 |[],_::_,h=>by simp at h
 |_::_,[],h=>by simp at h
 |x::xs,y::ys,h=>by
  rw[cG,cG]at h
  injection h with h1 h2
  injection h1 with h1
  rw[h1,wH h2]
section
variable{X:Cx}{a8:List (Addr×Obj)}{σ:St}{H:Hp}{s:Shared}{K:W.Frag}
theorem Kv(I:ah X a8 σ H s){A:Around}(hu:A.units<cLine){t a:Addr}{xs ys:List Int}(h1:H t=some (.tup (xs.map V.int)))(h2:H a=some (.tup (ys.map V.int))):SeqAt.EqAt A s (.ref t) (.ref a) (decide (xs=ys)):=by
 by_cases hta:t=a
 ·subst hta
  rw[h1]at h2
  injection h2 with h2
  injection h2 with h2
  rw[bZ (wH h2)]
  exact .same _
 ·obtain⟨us,r1,l1⟩:=kU I h1
  obtain⟨zs,r2,l2⟩:=kU I h2
  have e1:=r1.length
  have e2:=r2.length
  rw[ar]at e1 e2
  have q:=SeqAt.RcAt.tuples (A:=A) (s:=s) (e:=fun j=>decide (xs[j]?=ys[j]?)) l1 l2 hu (fun j z1 z2=>by simpa using sI (A:=A.in1) (s:=s) r1 r2 j (by simpa using z1) (by simpa using z2))
  have er:((List.range (min us.toArray.size zs.toArray.size)).all (fun j=>decide (xs[j]?=ys[j]?)) && (us.toArray.size==zs.toArray.size))=decide (xs=ys):=by
   rw[ck,ck,<-e1,<-e2]
   by_cases hl:xs.length=ys.length
   ·rw[<-hl,Nat.min_self,sH hl,zZ,Bool.and_true]
   ·rw[cz (fun z=>hl (by rw[z])),Bool.and_eq_false_iff]
    exact .inr (by simpa using hl)
  rw[er]at q
  exact .of_refs hta q
noncomputable def wI(neg:Bool):R2:=fun x y H Q=>∃(a l:Addr) (xs:List Int) (ts:List Addr) (aJ:List (List Int)),x=.ref a/\y=.ref l/\H a=some (.tup (xs.map V.int))/\H l=some (.lst (ts.map V.ref))/\eU H ts aJ/\Q (.bl (if neg then !decide (xs∈aJ)else decide (xs∈aJ))) H
open Classical in
theorem DK(I:ah X a8 σ H s)(hu:X.A.units+64<cLine){a:Addr}{xs:List Int}{ts:List Addr}{aJ:List (List Int)}(h1:H a=some (.tup (xs.map V.int)))(h3:eU H ts aJ):
  ∃e:Value->Bool,(∀y,y∈ts.map Value.ref->SeqAt.EqAt X.A.in1 s y (.ref a) (e y))/\(ts.map Value.ref).any e=decide (xs∈aJ):=by
 refine⟨fun y=>decide (∃(i:Nat) (t:Addr),ts[i]?=some t/\y=.ref t/\aJ[i]?=some xs),fun y hy=>?_,?_⟩
 ·obtain⟨t,ht,rfl⟩:=Qd.mp hy
  obtain⟨i,hi,e⟩:=Qs.mp ht
  have e1:ts[i]?=some t:=by rw[aN hi,e]
  have hi2:i<aJ.length:=by rw[<-h3.1];exact hi
  have ht2:=h3.2 i t _ e1 (aN hi2)
  have ev:decide (∃(i:Nat) (t':Addr),ts[i]?=some t'/\(Value.ref t)=.ref t'/\aJ[i]?=some xs)=decide (aJ[i]=xs):=by
   congr 1;apply propext
   constructor
   ·rintro⟨j,t',z1,z2,z3⟩
    injection z2 with z2
    subst z2
    have:=h3.2 j t xs z1 z3
    rw[ht2]at this
    injection this with this
    injection this with this
    exact wH this
   ·intro z
    exact⟨i,t,e1,rfl,by rw[aN hi2,z]⟩
  show SeqAt.EqAt X.A.in1 s (.ref t) (.ref a) (decide (∃(i:Nat) (t':Addr),ts[i]?=some t'/\(Value.ref t)=.ref t'/\aJ[i]?=some xs))
  rw[ev]
  have q:=Kv I (A:=X.A.in1) (by show X.A.units+1<cLine;omega) ht2 h1
  exact q
 ·apply zR.mpr
  rw[List.any_eq_true]
  simp only[dQ]
  constructor
  ·rintro⟨y,_,i,t,e1,_,e3⟩
   exact dE e3
  ·intro hm
   obtain⟨i,hi,e⟩:=Qs.mp hm
   have hi2:i<ts.length:=by rw[h3.1];exact hi
   exact⟨.ref ts[i],Qd.mpr ⟨_,gT hi2,rfl⟩,i,ts[i],aN hi2,rfl,by rw[aN hi,e]⟩
theorem Kw(hu:X.A.units+64<cLine):bJ X (compareOp .In) (wI false):=by
 intro a8 s σ H x y v u Q I rx ry h
 obtain⟨a,l,p,ts,ps,rfl,rfl,h1,h2,h3,k⟩:=h
 cases(show v=Value.ref a from rx)
 cases(show u=Value.ref l from ry)
 obtain⟨ak,r',pl⟩:=hZ I h2
 have e:=wG r'
 subst e
 obtain⟨e,he,ha⟩:=DK I hu h1 h3
 refine SeqAt.in_listAt e pl (fun y hy=>he y (by simpa using hy)) ⟨.bl _,H,I,rfl,?_⟩
 rw[List.any_toArray,ha]
 exact k
theorem Kx(hu:X.A.units+64<cLine):bJ X (compareOp .NotIn) (wI true):=by
 intro a8 s σ H x y v u Q I rx ry h
 obtain⟨a,l,p,ts,ps,rfl,rfl,h1,h2,h3,k⟩:=h
 cases(show v=Value.ref a from rx)
 cases(show u=Value.ref l from ry)
 obtain⟨ak,r',pl⟩:=hZ I h2
 have e:=wG r'
 subst e
 obtain⟨e,he,ha⟩:=DK I hu h1 h3
 refine SeqAt.notIn_listAt e pl (fun y hy=>he y (by simpa using hy)) ⟨.bl _,H,I,rfl,?_⟩
 rw[List.any_toArray,ha]
 exact k
end
section
variable{H:Hp}{Q:VK}
theorem DL{neg:Bool}{a l:Addr}{xs:List Int}{ts:List Addr}{aJ:List (List Int)}(h1:H a=some (.tup (xs.map V.int)))(h2:H l=some (.lst (ts.map V.ref)))(h3:eU H ts aJ)(k:Q (.bl (if neg then !decide (xs∈aJ)else decide (xs∈aJ))) H):wI neg (.ref a) (.ref l) H Q:=⟨a,l,xs,ts,aJ,rfl,rfl,h1,h2,h3,k⟩
end
noncomputable def wJ(K:W.Frag)(l:Addr)(n:Nat):It:=
 ⟨fun i H=>∃xs x,ai K H l xs/\xs.length=n/\i<n/\xs[n - 1 - i]?=some x,fun i H x H'=>H'=H/\∀xs,ai K H l xs->xs[n - 1 - i]?=some x,fun i _=>i=n⟩
theorem Ky{P:Program}{w:World}{K:W.Frag}{tg:Expr}(a it:Addr)(n:Nat):iC P w K tg (wJ K a n) [it] it (fun i h=>h.IsRevIter it a ((n:Int) - 1 - (i:Int))) where
 mem:=by simp
 obj:=fun i h st b hb=>by
  have e:b=it:=by simpa using hb
  subst e
  obtain⟨o,e,c,d⟩:=st
  exact⟨o,e,fun v z=>by rw[d]at z;cases z⟩
 keep:=fun i h h' st k=>st.at fun o e=>k it (by simp) o e
 item:=by
  intro X hP hw hK hc i a8 s σ H E I hf st hg
  subst hP hw hK
  obtain⟨xs,x,hq,hn,hi,hx⟩:=hg
  obtain⟨ak,rv,p,hz⟩:=I.list hq
  obtain⟨u,hu,ru⟩:=rv.get hx
  obtain⟨f0,f1,f2,f3,f4,f5⟩:=hf it (by simp)
  have e:(n:Int) - 1 - (i:Int)=((n - 1 - i:Nat):Int):=by omega
  rw[e]at st
  refine wpAny_pyNext_rev_item st p.isList (x:=u) (by simpa using hu) fun h' st' sb=>?_
  have I1:ah X a8 σ H {s with heap:=h'}:=I.turned (t':=s.toks) (fun b o hb e=>(sb.2 b hb).trans e) f0 f1 f3 f4 f5
  obtain⟨o,e',c,d⟩:=id st'
  have e2:((n - 1 - i:Nat):Int) - 1=(n:Int) - 1 - ((i+1:Nat):Int):=by omega
  rw[e2]at st'
  exact⟨u,rfl,pq (s:={s with heap:=h'}) e' c d (by decide) ⟨x,H,I1,ru,⟨rfl,fun ys hy=>by rw[I.list_inj hy hq];exact hx⟩,st',fun b hb=>(hf b hb).1⟩⟩
 done:=by
  intro X hP hw hK hc i a8 s σ H E I hf st hg
  subst hP hw hK
  obtain⟨f0,f1,f2,f3,f4,f5⟩:=hf it (by simp)
  have hg':i=n:=hg
  have e:(n:Int) - 1 - (i:Int)= -1:=by omega
  rw[e]at st
  exact wpAny_pyNext_rev_end (I.ok.hd hc) st fun h' eb=>⟨rfl,I.turned (t':=s.toks) (fun b o hb e=>eb b o hb e) f0 f1 f3 f4 f5⟩
 self:=fun _ _ _ _ _ st h=>wpAny_pyIter_revIter st h
section
variable{X:Cx}{K:W.Frag}{tg:Expr}
theorem Kz:bootBuiltins "reversed"=some (.type "reversed"):=by decide+kernel
noncomputable def DM(K:W.Frag)(ta:TA):TI:=fun σ H R=>ta σ H fun vs H1=>∃a xs,vs=[.ref a]/\ai K H1 a xs/\R (wJ K a xs.length) H1
theorem KA{a:Expr}{ta:TA}{p pos:Pos}(hK:X.K=K)(hg:Gl X "reversed")(hm:X.mg "reversed"=none)(ha:PA X [a] ta)(hs:starEach [a] X.env=[(false,eval a X.env)]:=by rfl):
  PI X tg (.Call (.Name "reversed" p) [a] [] pos) (DM K ta):=by
 subst hK
 intro a8 s σ H R I h
 refine Call_ (jJ I hg hm Kz (ou (aD (ha pos a8 s σ H _ I h) fun us s1 ⟨vs,H1,I1,r1,q1⟩=>?_) hs rfl))
 obtain⟨l,xs,e,hq,q⟩:=q1
 subst e
 obtain⟨u,rfl,rx⟩:=fQ r1
 cases rx
 obtain⟨ak,rv,p1,_⟩:=I1.list hq
 have hl:=rv.length
 refine call_reversed_list p1.isList ?_
 have st:(s1.heap.push (revObj l ((ak.toArray.size:Int) - 1))).IsRevIter s1.heap.objs.size l ((xs.length:Int) - 1 - ((0:Nat):Int)):=⟨_,bV _ rfl,rfl,by
  show Data.fields #[.ref l,rawInt ((ak.toArray.size:Int) - 1)]=_
  rw[show((ak.toArray.size:Int) - 1)=(xs.length:Int) - 1 - ((0:Nat):Int) by simp;omega]⟩
 refine wpAny_pyIter_revIter st ?_
 refine⟨s1.heap.objs.size,[s1.heap.objs.size],_,_,H1,rfl,I1.kept (t':=s1.toks) fun b o e=>aW _ e,Ky l _ xs.length,st,fun b hb=>?_,q⟩
 have e:b=s1.heap.objs.size:=by simpa using hb
 subst e
 exact I1.fpOk (aG _) (I1.hok.fresh (aG _))
theorem KB{σ:St}{H:Hp}{ta:TA}{N:It->Hp->Prop}(q:ta σ H fun vs H1=>∃a xs,vs=[.ref a]/\ai K H1 a xs/\N (wJ K a xs.length) H1):DM K ta σ H N:=q
end
abbrev sN(h:Heap)(l1:Addr):Heap:=h.push {cls:=.type "list_iterator",data:=.fields #[.ref l1,.int 0 0]}
abbrev sO(h:Heap)(l1 l2:Addr):Heap:=(sN h l1).push {cls:=.type "tuple_iterator",data:=.fields #[.ref l2,.int 0 0]}
abbrev sP(h:Heap)(l1 l2:Addr):Heap:=(sO h l1 l2).push {cls:=.type "tuple",data:=.seq #[.ref h.objs.size,.ref (sN h l1).objs.size]}
abbrev sQ(h:Heap)(l1 l2:Addr):Heap:=(sP h l1 l2).push {cls:=.type "tuple",data:=.seq #[.none,.none]}
abbrev mz(h:Heap)(l1 l2:Addr):Heap:=(sQ h l1 l2).push {cls:=.type "zip",data:=.fields #[.none,.bool false,.bool false,.ref (sO h l1 l2).objs.size,.ref (sP h l1 l2).objs.size]}
theorem KC(l1 l2:Addr)(xs ys:Array Value):
  Meets (Builtin.«zip.__new__» ⟨[.type "zip",.ref l1,.ref l2],[]⟩) (fun _ R s=>s.heap.IsList l1 xs/\s.heap.IsTuple l2 ys/\
   R (.ok (.ret (.ref (sQ s.heap l1 l2).objs.size))) {s with heap:=mz s.heap l1 l2}):=
 .of_wp fun prog w A R s h=>by
  obtain⟨hp,g,d,tk,os⟩:=s;obtain⟨hl1,hl2,h⟩:=h
  have uR:=sub_zip
  have hL1:Heap.IsList (Shared.heap ⟨hp,g,d,tk,os⟩) l1 xs:=hl1
  have hL2:Heap.IsTuple (Shared.heap ⟨hp.push {cls:=.type "list_iterator",data:=.fields #[.ref l1,.int 0 0]},g,d,tk,os⟩) l2 ys:=Heap.IsTuple.push hl2 _
  wp_walk using uG hL1,uD hL2
  exact⟨_,rfl,h⟩
theorem KD{prog:Program}{w:World}{A:Around}{E:Value->Shared->Prop}{s:Shared}{l1 l2:Addr}{xs ys:Array Value}{Q:Value->Shared->Prop}(hl1:s.heap.IsList l1 xs)(hl2:s.heap.IsTuple l2 ys)
  (h:∀h',IsZip h' (s.heap.objs.size+4) (s.heap.objs.size+2) (s.heap.objs.size+3) .none->IsPair h' (s.heap.objs.size+2) (.ref s.heap.objs.size) (.ref (s.heap.objs.size+1))->
   IsPair h' (s.heap.objs.size+3) .none .none->h'.IsListIter s.heap.objs.size l1 0->h'.IsTupleIter (s.heap.objs.size+1) l2 0->h'.objs.size=s.heap.objs.size+5->
   (∀c o,s.heap.get? c=some o->h'.get? c=some o)->Q (.ref (s.heap.objs.size+4)) {s with heap:=h'}):
  wpAny (model prog w) A (call (.type "zip") [.ref l1,.ref l2]) Q E s:=by
 refine callType_new F.called_zip (by decide) (F.typeCall_zip_2 _ _) (F.newCall_zip_2 _ _) (fun obj=>F.args_object_init_3 obj _ _) F.entry_zip_new
  (KC l1 l2 xs ys) ⟨hl1,hl2,?_⟩
 have z1:(sN s.heap l1).objs.size=s.heap.objs.size+1:=eB ..
 have z2:(sO s.heap l1 l2).objs.size=s.heap.objs.size+2:=by rw[eB,z1]
 have z3:(sP s.heap l1 l2).objs.size=s.heap.objs.size+3:=by rw[eB,z2]
 have z4:(sQ s.heap l1 l2).objs.size=s.heap.objs.size+4:=by rw[eB,z3]
 have z5:(mz s.heap l1 l2).objs.size=s.heap.objs.size+5:=by rw[eB,z4]
 have g5:(mz s.heap l1 l2).get? (sQ s.heap l1 l2).objs.size=some _:=bV _ rfl
 have g4:(mz s.heap l1 l2).get? (sP s.heap l1 l2).objs.size=some _:=aW _ (bV _ rfl)
 have g3:(mz s.heap l1 l2).get? (sO s.heap l1 l2).objs.size=some _:=aW _ (aW _ (bV _ rfl))
 have g2:(mz s.heap l1 l2).get? (sN s.heap l1).objs.size=some _:=aW _ (aW _ (aW _ (bV _ rfl)))
 have g1:(mz s.heap l1 l2).get? s.heap.objs.size=some _:=aW _ (aW _ (aW _ (aW _ (bV _ rfl))))
 show _/\_
 rw[z2,z3,z4]at g5
 rw[z1,z2]at g3
 rw[z3]at g4
 rw[z1]at g2
 rw[z4]
 exact⟨⟨_,g5,rfl⟩,h _ g5 g3 g4 ⟨_,g1,rfl,rfl⟩ ⟨_,g2,rfl,rfl⟩ z5 fun c o x=>
  aW _ (aW _ (aW _ (aW _ (aW _ x))))⟩
section
variable{X:Cx}{K:W.Frag}{es:List Expr}{kk:Nat}{tpos:Pos}
noncomputable def DN(K:W.Frag)(ta:TA):TI:=fun σ H R=>ta σ H fun vs H1=>∃a b,vs=[.ref a,.ref b]/\
 (∃xs ys,ai K H1 a xs/\ax K H1 b ys/\R (kQ (fun H xs=>ai K H a xs) (fun H ys=>ax K H b ys)) H1)
theorem DO{a b:Expr}{ta:TA}{p pos:Pos}(hK:X.K=K)(hg:Gl X "zip")(hm:X.mg "zip"=none)(ha:PA X [a,b] ta)(hs:starEach [a,b] X.env=[(false,eval a X.env),(false,eval b X.env)]:=by rfl)(hs2:starEach [b] X.env=[(false,eval b X.env)]:=by rfl)
  (hv:bootBuiltins "zip"=some (.type "zip"):=by first|rfl|decide+kernel):
  PI X (.Tuple es kk tpos) (.Call (.Name "zip" p) [a,b] [] pos) (DN K ta):=by
 subst hK
 intro a8 s σ H R I h
 refine Call_ (jJ I hg hm hv (ou (aD (ha pos a8 s σ H _ I h) fun us s1 ⟨vs,H1,I1,r1,q1⟩=>?_) (by rw[hs,hs2]) (by rw[hs2];rfl)))
 obtain⟨l1,l2,e,xs,ys,q1,q2,q⟩:=q1
 subst e
 obtain⟨u1,u2,rfl,e1,e2⟩:=pD r1
 cases e1
 cases e2
 have fp:∀(h':Heap) (H':Hp),(∀b,s1.heap.objs.size<=b->H' b=none)->∀b∈[s1.heap.objs.size+4,s1.heap.objs.size+2,s1.heap.objs.size+3,s1.heap.objs.size,s1.heap.objs.size+1],cJ X a8 H' b:=fun h' H' hn b hb=>by
  simp only[cE,dk,eO]at hb
  have hle:s1.heap.objs.size<=b:=by omega
  exact I1.fpOk hle (hn b hle)
 obtain⟨ak,rv,p1,_⟩:=I1.list q1
 obtain⟨jts,rw',p2,_⟩:=I1.tuple q2
 have lt1:l1<s1.heap.objs.size:=by obtain⟨_,e,_⟩:=p1.isList;exact bg e
 have lt2:l2<s1.heap.objs.size:=by obtain⟨_,e,_⟩:=p2;exact bg e
 refine KD p1.isList (show s1.heap.IsTuple l2 jts.toArray from p2) fun h' g1 g2 g3 g4 g5 g6 g7=>?_
 refine zY g1 ?_
 exact⟨_,_,_,_,H1,rfl,I1.kept (t':=s1.toks) g7,vz (vA lt1 lt2) (dB.list _ l1) (dB.tuple _ l2) (iG.list X.K l1) (iG.tuple X.K l2),⟨g1,g2,⟨_,_,g3⟩,g4,g5⟩,fp h' H1 fun b hb=>I1.hok.fresh hb,q⟩
theorem DP{σ:St}{H:Hp}{ta:TA}{N:It->Hp->Prop}(q:ta σ H fun vs H1=>∃a b,vs=[.ref a,.ref b]/\(∃xs ys,ai K H1 a xs/\ax K H1 b ys/\N (kQ (fun H xs=>ai K H a xs) (fun H ys=>ax K H b ys)) H1)):DN K ta σ H N:=q
end
section
variable{X:Cx}{K:W.Frag}{o e:Expr}{es:List Expr}{to:TE}{t:TA}{c6 c9:Pos}
end
section
variable{X:Cx}{K:W.Frag}
end
section
variable{σ:St}{H:Hp}{Q:VK}{K:W.Frag}{D:gY}
theorem KF{i:Nat}{te:TE}{ti:ph}{x:V}(h:σ[i]?=some (some x))(q:te σ H fun y H1=>ti x y H1 fun z H2=>D.nx (σ.set i (some z)) H2):Ba i te ti D σ H:=⟨x,h,q⟩
end
section
variable{κ:Type}[DecidableEq κ]
noncomputable def b7(ae:List (κ×V))(k:κ):Option V:=(ae.find? fun kv=>decide (kv.1=k)).map (·.2)
noncomputable def br(ae:List (κ×V))(k:κ)(v:V):List (κ×V):=
 if(ae.any fun kv=>decide (kv.1=k))=true then ae.map (fun kv=>if kv.1=k then(kv.1,v)else kv)else ae++[(k,v)]
noncomputable def qe(ae:List (κ×V))(k:κ):List (κ×V):=ae.filter fun kv=>decide (kv.1≠k)
theorem ik{p:κ×V}{r:List (κ×V)}{k:κ}(e:p.1=k):b7 (p::r) k=some p.2:=by simp[b7,oH,e]
theorem iJ{p:κ×V}{r:List (κ×V)}{k:κ}(e:¬p.1=k):b7 (p::r) k=b7 r k:=by simp[b7,oH,e]
theorem mB(k:κ):∀ae:List (κ×V),(ae.any fun kv=>decide (kv.1=k))=(b7 ae k).isSome
 |[]=>rfl
 |p::r=>by
  rw[qX]
  by_cases e:p.1=k
  ·simp only[ik e,bZ e,Bool.true_or,Option.isSome_some]
  ·rw[iJ e,cz e,Bool.false_or];exact mB k r
theorem DQ(k j:κ)(y:V):∀ae:List (κ×V),b7 (ae.map fun kv=>if kv.1=k then(kv.1,y)else kv) j=(b7 ae j).map fun x=>if j=k then y else x
 |[]=>rfl
 |p::r=>by
  have ih:=DQ k j y r
  rw[cG]
  by_cases h:p.1=k
  ·rw[aH h]
   by_cases e:p.1=j
   ·rw[ik (p:=(p.1,y)) e,ik e,A5,aH (e.symm.trans h)]
   ·rw[iJ (p:=(p.1,y)) e,iJ e,ih]
  ·rw[av h]
   by_cases e:p.1=j
   ·rw[ik (p:=p) e,ik e,A5,av (fun z=>h (e.trans z))]
   ·rw[iJ (p:=p) e,iJ e,ih]
theorem sR(k j:κ)(y:V):∀ae:List (κ×V),b7 ae k=none->b7 (ae++[(k,y)]) j=if j=k then some y else b7 ae j
 |[],_=>by
  by_cases e:k=j
  ·rw[aH e.symm];exact ik (p:=(k,y)) e
  ·rw[av (fun z=>e z.symm)];exact iJ (p:=(k,y)) e
 |p::r,hn=>by
  rw[A0]
  have hk:¬p.1=k:=fun z=>by rw[ik z]at hn;cases hn
  rw[iJ hk]at hn
  have ih:=sR k j y r hn
  by_cases e:p.1=j
  ·rw[ik e,ik e,av (fun z=>hk (e.trans z))]
  ·rw[iJ e,iJ e,ih]
theorem KG(ae:List (κ×V))(k j:κ)(y:V):b7 (br ae k y) j=if j=k then some y else b7 ae j:=by
 unfold br
 by_cases a:(ae.any fun kv=>decide (kv.1=k))=true
 ·rw[aH a,DQ]
  rw[mB]at a
  by_cases e:j=k
  ·obtain⟨x,hx⟩:=Option.isSome_iff_exists.mp a
   rw[aH e,e,hx,A5,aH rfl]
  ·rw[av e]
   cases b7 ae j with
   |none=>rfl
   |some x=>rw[A5,av e]
 ·rw[av a]
  refine sR k j y ae ?_
  rw[mB]at a
  cases q:b7 ae k with
  |none=>rfl
  |some x=>rw[q]at a;exact(a rfl).elim
theorem qf(ae:List (κ×V))(k:κ)(v:V):(br ae k v).length<=ae.length+1:=by
 unfold br
 split
 ·rw[ar];omega
 ·rw[bF,cM,List.length_nil];omega
theorem qg{ae:List (κ×V)}{k:κ}(v:V)(h:b7 ae k=none):br ae k v=ae++[(k,v)]:=by
 unfold br
 rw[mB,h]
 exact av (by decide)
theorem eI.isSome_eq{o:Option V}{u:Option Value}(r:eI o u):o.isSome=u.isSome:=by
 cases o with
 |none=>cases u with
  |none=>rfl
  |some _=>exact(show False from r).elim
 |some _=>cases u with
  |none=>exact(show False from r).elim
  |some _=>rfl
theorem eI.getD{o:Option V}{u:Option Value}{d:V}{d':Value}(r:eI o u)(rd:aO d d'):aO (o.getD d) (u.getD d'):=by
 cases o with
 |none=>cases u with
  |none=>exact rd
  |some _=>exact(show False from r).elim
 |some _=>cases u with
  |none=>exact(show False from r).elim
  |some _=>exact r
theorem KV.val{ae:List (κ×V)}{vs:List (κ×Value)}(r:KV ae vs)(k:κ):eI (b7 ae k) (valueAt vs k):=by
 unfold KV at r
 induction r with
 |nil=>exact True.intro
 |@cons p q ps qs h t ih=>
  obtain⟨h1,h2⟩:=h
  by_cases e:p.1=k
  ·have e':q.1=k:=h1.symm.trans e
   have b:valueAt (q::qs) k=some q.2:=by simp[valueAt,oH,e']
   rw[ik e,b];exact h2
  ·have e':¬q.1=k:=fun z=>e (h1.trans z)
   have b:valueAt (q::qs) k=valueAt qs k:=by simp[valueAt,oH,e']
   rw[iJ e,b];exact ih
theorem KV.any{ae:List (κ×V)}{vs:List (κ×Value)}(r:KV ae vs)(k:κ):(ae.any fun kv=>decide (kv.1=k))=vs.any fun kv=>decide (kv.1=k):=by
 unfold KV at r
 induction r with
 |nil=>rfl
 |cons h t ih=>rw[qX,qX,ih,h.1]
theorem KV.repl{ae:List (κ×V)}{vs:List (κ×Value)}(r:KV ae vs)(k:κ){y:V}{u:Value}(ry:aO y u):
  KV (ae.map fun kv=>if kv.1=k then(kv.1,y)else kv) (vs.map fun kv=>if kv.1=k then(kv.1,u)else kv):=by
 unfold KV at r⊢
 induction r with
 |nil=>exact .nil
 |@cons p q ps qs h t ih=>
  rw[cG,cG]
  refine .cons ?_ ih
  obtain⟨h1,h2⟩:=h
  by_cases e:p.1=k
  ·rw[aH e,aH (h1.symm.trans e)];exact⟨h1,ry⟩
  ·rw[av e,av (fun z=>e (h1.trans z))];exact⟨h1,h2⟩
theorem KV.put{ae:List (κ×V)}{vs:List (κ×Value)}(r:KV ae vs)(k:κ){y:V}{u:Value}(ry:aO y u):KV (br ae k y) (stored vs k u):=by
 unfold br stored
 rw[r.any k]
 by_cases e:(vs.any fun kv=>decide (kv.1=k))=true
 ·rw[aH e,aH e];exact r.repl k ry
 ·rw[av e,av e];exact Paired.snoc r ⟨rfl,ry⟩
theorem KV.drop{ae:List (κ×V)}{vs:List (κ×Value)}(r:KV ae vs)(k:κ):KV (qe ae k) (without vs k):=by
 unfold KV at r⊢
 unfold qe without
 induction r with
 |nil=>exact .nil
 |@cons p q ps qs h t ih=>
  obtain⟨h1,h2⟩:=h
  rw[gr,gr]
  by_cases e:p.1=k
  ·have a:¬decide (p.1≠k)=true:=by simp[e]
   have b:¬decide (q.1≠k)=true:=by simp[h1.symm.trans e]
   rw[av a,av b];exact ih
  ·have e':¬q.1=k:=fun z=>e (h1.trans z)
   have a:decide (p.1≠k)=true:=by simp[e]
   have b:decide (q.1≠k)=true:=by simp[e']
   rw[aH a,aH b];exact .cons ⟨h1,h2⟩ ih
theorem KV.keys{ae:List (κ×V)}{vs:List (κ×Value)}(r:KV ae vs):ae.map (·.1)=vs.map (·.1):=by
 unfold KV at r
 induction r with
 |nil=>rfl
 |cons h t ih=>rw[cG,cG,ih,h.1]
theorem KV.length{ae:List (κ×V)}{vs:List (κ×Value)}(r:KV ae vs):ae.length=vs.length:=Paired.length r
theorem KH(ae:List (κ×V))(k:κ):(qe ae k).length<=ae.length:=j6 _ _
end
theorem iZ{P:Program}{w:World}{k:aT}{u:Value}(r:aO (kV k) u):(dW P w).is k u=true:=by
 cases k with
 |inl i=>obtain⟨t,e⟩:=(show ∃t,u=Value.int i t from r);subst e;exact GA P w i t
 |inr x=>obtain⟨t,e⟩:=(show ∃t,u=Value.str x t from r);subst e;exact GB P w x t
theorem DR{P:Program}{w:World}:∀{ks:List aT} {us:List Value},aP (ks.map kV) us->ItemsAre (dW P w) ks us
 |[],_,r=>by rw[List.map_nil]at r;cases r;exact .nil
 |k::ks,_,r=>by
  rw[cG]at r
  cases r with
  |cons h t=>exact .cons (iZ h) (DR t)
abbrev KT(H:Hp):List (List aT×V)->List (List aT×Addr×Value)->Prop:=Paired fun p q=>p.1=q.1/\H q.2.1=some (.tup (p.1.map kV))/\aO p.2 q.2.2
theorem KT.val{H:Hp}{ae:List (List aT×V)}{xs:List (List aT×Addr×Value)}(r:KT H ae xs)(k:List aT):eI (b7 ae k) ((atKey xs k).map (·.2)):=by
 induction r with
 |nil=>exact True.intro
 |@cons p q ps qs h t ih=>
  obtain⟨h1,_,h2⟩:=h
  by_cases e:p.1=k
  ·have e':q.1=k:=h1.symm.trans e
   have b:atKey (q::qs) k=some q.2:=by simp[atKey,oH,e']
   rw[ik e,b];exact h2
  ·have e':¬q.1=k:=fun z=>e (h1.trans z)
   have b:atKey (q::qs) k=atKey qs k:=by simp[atKey,oH,e']
   rw[iJ e,b];exact ih
theorem KT.repl{H:Hp}{ae:List (List aT×V)}{xs:List (List aT×Addr×Value)}(r:KT H ae xs)(k:List aT){y:V}{u:Value}(ry:aO y u):
  KT H (ae.map fun kv=>if kv.1=k then(kv.1,y)else kv) (xs.map (putAt k u)):=by
 induction r with
 |nil=>exact .nil
 |@cons p q ps qs h t ih=>
  rw[cG,cG]
  refine .cons ?_ ih
  obtain⟨h1,h2,h3⟩:=h
  unfold putAt
  by_cases e:p.1=k
  ·rw[aH e,aH (h1.symm.trans e)];exact⟨h1,h2,ry⟩
  ·rw[av e,av (fun z=>e (h1.trans z))];exact⟨h1,h2,h3⟩
theorem KT.put{H:Hp}{ae:List (List aT×V)}{xs:List (List aT×Addr×Value)}(r:KT H ae xs)(k:List aT){b:Addr}{y:V}{u:Value}(hb:H b=some (.tup (k.map kV)))(ry:aO y u):
  KT H (br ae k y) (storedH xs k b u):=by
 have e:(ae.any fun kv=>decide (kv.1=k))=(atKey xs k).isSome:=by
  rw[mB,(r.val k).isSome_eq,Option.isSome_map]
 unfold br storedH
 rw[e]
 by_cases q:(atKey xs k).isSome=true
 ·rw[aH q,aH q];exact r.repl k ry
 ·rw[av q,av q];exact Paired.snoc r ⟨rfl,hb,ry⟩
theorem KT.keeps{H H':Hp}{ae:List (List aT×V)}{xs:List (List aT×Addr×Value)}(r:KT H ae xs)(ht:∀b ys,H b=some (.tup ys)->H' b=some (.tup ys)):KT H' ae xs:=
 Paired.mapP r fun _ _ z=>⟨z.1,ht _ _ z.2.1,z.2.2⟩
section
variable{P:Program}{w:World}{H:Hp}{h:Heap}{a:Addr}
theorem DS{u:HO}(ok:cA P w H h)(e:Rd H a u):cu P w H h a u:=e.ok ok
theorem kX{ae:List (aT×V)}(ok:cA P w H h)(e:Rd H a (.dK ae)):ae.length<=sizeLine/\(a==sysModules)=false/\∃vs,KV ae vs/\h.DictOf (dW P w) a vs:=
 show cu P w H h a (.dK ae)from DS ok e
theorem nU{ae:List (aT×V)}(ok:cA P w H h)(e:H a=some (.dK ae)):ae.length<=sizeLine/\(a==sysModules)=false/\∃vs,KV ae vs/\h.DictOf (dW P w) a vs:=kX ok (.inl e)
theorem nV{ks:List aT}(ok:cA P w H h)(e:H a=some (.tup (ks.map kV))):(tupleKind (dW P w)).is h ks a:=by
 obtain⟨_,ak,r,o,h1,h2,n,h3⟩:=(show cu P w H h a (.tup (ks.map kV))from ok a _ e)
 exact⟨o,ak.toArray,n,h1,h2,h3,by simpa using DR r⟩
theorem mC{ae:List (List aT×V)}(ok:cA P w H h)(e:Rd H a (.dT ae)):ae.length<=sizeLine/\(a==sysModules)=false/\
  ∃xs,KT H ae xs/\h.DictOfH (tupleKind (dW P w)) a xs:=by
 obtain⟨z,y,xs,r,o,es,ep,h1,h2,h3,h4,h5⟩:=(show cu P w H h a (.dT ae)from DS ok e)
 refine⟨z,y,xs,r,o,es,ep,h1,h2,h3,h4,fun x hx=>?_,h5⟩
 have all:∀{l:List (List aT×V)} {m:List (List aT×Addr×Value)},KT H l m->∀x∈m,(tupleKind (dW P w)).is h x.1 x.2.1:=by
  intro l m q
  induction q with
  |nil=>intro x hx;exact nomatch hx
  |@cons p q ps qs hq t ih=>
   intro x hx
   rcases cE.mp hx with e|hx
   ·subst e
    exact nV ok (by rw[<-hq.1];exact hq.2.1)
   ·exact ih x hx
 exact all r x hx
theorem KI{ae:List (List aT×V)}(ok:cA P w H h)(e:H a=some (.dT ae)):ae.length<=sizeLine/\(a==sysModules)=false/\
  ∃xs,KT H ae xs/\h.DictOfH (tupleKind (dW P w)) a xs:=mC ok (.inl e)
end
noncomputable def gH(H:Hp)(a:Addr)(y:V)(r:Option V):Prop:=
 (∃ae k,Rd H a (.dK ae)/\y=kV k/\r=b7 ae k)\/∃ae k b,Rd H a (.dT ae)/\y=.ref b/\H b=some (.tup (k.map kV))/\r=b7 ae k
noncomputable def wK(H:Hp)(a:Addr)(y v:V)(H':Hp):Prop:=
 (∃ae k,H a=some (.dK ae)/\y=kV k/\ae.length<sizeLine/\H'=ab H a (.dK (br ae k v)))\/
 ∃ae k b,H a=some (.dT ae)/\y=.ref b/\H b=some (.tup (k.map kV))/\ae.length<sizeLine/\H'=ab H a (.dT (br ae k v))
section
variable{X:Cx}{a8:List (Addr×Obj)}{σ:St}{H:Hp}{s:Shared}{a:Addr}{y v:V}{u r:Value}{o:Option V}{A:Around}{E:Value->Shared->Prop}
theorem ah.big(I:ah X a8 σ H s):sysModules<s.heap.objs.size:=by
 have h:mainGlobals<s.heap.objs.size:=(I.mod.glob.keeps I.bk).lt
 exact oJ (by decide) h
theorem KJ{Q:Value->Shared->Prop}(hu:A.units+1<cLine)(I:ah X a8 σ H s)(g:gH H a y (some v))(ry:aO y u)(h:∀w' s',ah X a8 σ H s'->aO v w'->Q w' s'):
  wpAny (model X.prog X.w) A (getItem (.ref a) u) Q E s:=by
 rcases g with⟨ae,k,e,ey,l⟩|⟨ae,k,b,e,ey,eb,l⟩
 ·subst ey
  obtain⟨z,hd,vs,rel,dd⟩:=kX I.hok e
  obtain⟨w',hw,rw'⟩:=eI.some_of (v:=v) (o:=valueAt vs k) (by rw[l];exact rel.val k)
  exact wpAny_getItem_of (iZ ry) dd.mapOf hw (h w' _ (I.tok _) rw')
 ·subst ey
  cases(show u=Value.ref b from ry)
  obtain⟨z,hd,xs,rel,dd⟩:=mC I.hok e
  obtain⟨w',hw,rw'⟩:=eI.some_of (v:=v) (o:=(atKey xs k).map (·.2)) (by rw[l];exact rel.val k)
  obtain⟨p,hp,hp2⟩:=Option.map_eq_some_iff.mp hw
  refine wpAny_getItem_heap (uE hu) (nV I.hok eb) dd hp ?_
  rw[hp2]
  exact h w' _ (I.tok _) rw'
theorem KL{Q:Value->Shared->Prop}(hu:A.units+1<cLine)(I:ah X a8 σ H s)(g:gH H a y o)(ry:aO y u)(h:∀s',ah X a8 σ H s'->Q (.bool o.isSome) s'):
  wpAny (model X.prog X.w) A (compareOp .In u (.ref a)) Q E s:=by
 rcases g with⟨ae,k,e,ey,l⟩|⟨ae,k,b,e,ey,eb,l⟩
 ·subst ey
  obtain⟨z,hd,vs,rel,dd⟩:=kX I.hok e
  refine wpAny_in_of (iZ ry) hd dd.mapOf ?_
  rw[<-(rel.val k).isSome_eq,<-l]
  exact h _ (I.tok _)
 ·subst ey
  cases(show u=Value.ref b from ry)
  obtain⟨z,hd,xs,rel,dd⟩:=mC I.hok e
  refine wpAny_in_heap (uE hu) (nV I.hok eb) hd dd ?_
  have q:=(rel.val k).isSome_eq
  rw[Option.isSome_map]at q
  rw[<-q,<-l]
  exact h _ (I.tok _)
theorem KM{Q:Value->Shared->Prop}(hu:A.units+1<cLine)(I:ah X a8 σ H s)(g:gH H a y o)(ry:aO y u)(h:∀s',ah X a8 σ H s'->Q (.bool (!o.isSome)) s'):
  wpAny (model X.prog X.w) A (compareOp .NotIn u (.ref a)) Q E s:=by
 rcases g with⟨ae,k,e,ey,l⟩|⟨ae,k,b,e,ey,eb,l⟩
 ·subst ey
  obtain⟨z,hd,vs,rel,dd⟩:=kX I.hok e
  refine wpAny_notIn_of (iZ ry) hd dd.mapOf ?_
  rw[<-(rel.val k).isSome_eq,<-l]
  exact h _ (I.tok _)
 ·subst ey
  cases(show u=Value.ref b from ry)
  obtain⟨z,hd,xs,rel,dd⟩:=mC I.hok e
  refine wpAny_notIn_heap (uE hu) (nV I.hok eb) hd dd ?_
  have q:=(rel.val k).isSome_eq
  rw[Option.isSome_map]at q
  rw[<-q,<-l]
  exact h _ (I.tok _)
theorem qh{h':Heap}{t':Nat}{ob:HO}(I:ah X a8 σ H s)(mu:o_ (H a))(hs:Heap.SameBut a s.heap h')(he:∃q,h'.get? a=some q)(new:cu X.prog X.w (ab H a ob) h' a ob):
  ah X a8 σ (ab H a ob) {s with heap:=h',toks:=t'}:=
 I.write (x:=a) (e:=a) mu (.inl rfl) (fun b q hb z=>(hs.2 b hb).trans z) he new
theorem sS{P:Program}{w:World}{H':Hp}{h':Heap}{ae:List (aT×V)}{vs:List (aT×Value)}(z:ae.length<=sizeLine)(hd:(a==sysModules)=false)(rel:KV ae vs)(dd:h'.DictOf (dW P w) a vs):
  cu P w H' h' a (.dK ae):=⟨z,hd,vs,rel,dd⟩
theorem KN{H':Hp}{Q:Unit->Shared->Prop}(hu:A.units+1<cLine)(I:ah X a8 σ H s)(g:wK H a y v H')(ry:aO y u)(rv:aO v r)(h:∀s',ah X a8 σ H' s'->Q () s'):
  wpAny (model X.prog X.w) A (setItem (.ref a) u r) Q E s:=by
 rcases g with⟨ae,k,e,ey,l,eH⟩|⟨ae,k,b,e,ey,eb,l,eH⟩
 ·subst ey eH
  obtain⟨z,hd,vs,rel,dd⟩:=nU I.hok e
  have hz:vs.length<=sizeLine:=by rw[<-rel.length];exact z
  have hl:(br ae k v).length<=sizeLine:=by have:=qf ae k v;omega
  refine wpAny_setItem_pairs (hsz:=hz) (iZ ry) dd fun h' dd' hs=>h _ ?_
  have he:∃q,h'.get? a=some q:=let⟨q,_,_,hq,_⟩:=dd';⟨q,hq⟩
  exact qh I (by rw[e];exact True.intro) hs he (sS hl hd (rel.put k rv) dd')
 ·subst ey eH
  cases(show u=Value.ref b from ry)
  obtain⟨z,hd,xs,rel,dd⟩:=KI I.hok e
  have hz:xs.length<=sizeLine:=by rw[<-Paired.length rel];exact z
  have hl:(br ae k v).length<=sizeLine:=by have:=qf ae k v;omega
  refine wpAny_setItem_heap (hsz:=hz) (uE hu) (nV I.hok eb) dd fun h' dd' hs=>h _ ?_
  obtain⟨q,es,ep,hq,h2,h3,h4,_,h5⟩:=dd'
  refine qh I (by rw[e];exact True.intro) hs ⟨q,hq⟩ ⟨hl,hd,_,(rel.put k eb rv).keeps fun c ys ec=>?_,q,es,ep,hq,h2,h3,h4,h5⟩
  rw[az (bB ec e (fun z=>nomatch z))]
  exact ec
end
section
variable{X:Cx}{a8:List (Addr×Obj)}{σ:St}{H:Hp}{s:Shared}{a:Addr}{ae:List (aT×V)}{k:aT}{u:Value}{A:Around}{E:Value->Shared->Prop}
theorem KO{v:V}{more:List Value}{Q:Value->Shared->Prop}(I:ah X a8 σ H s)(e:H a=some (.dK ae))(ry:aO (kV k) u)(l:b7 ae k=some v)(hm:more=[]\/∃x,more=[x])
  (h:∀w' s',ah X a8 σ (ab H a (.dK (qe ae k))) s'->aO v w'->Q w' s'):wpAny (model X.prog X.w) A (call (.builtin "dict.pop") (.ref a::u::more)) Q E s:=by
 obtain⟨z,hd,vs,rel,dd⟩:=nU I.hok e
 obtain⟨w',hw,rw'⟩:=eI.some_of (v:=v) (o:=valueAt vs k) (by rw[<-l];exact rel.val k)
 have hp:(keyPart u).isSome=true:=by
  cases k with
  |inl i=>obtain⟨t,q⟩:=(show ∃t,u=Value.int i t from ry);subst q;rfl
  |inr x=>obtain⟨t,q⟩:=(show ∃t,u=Value.str x t from ry);subst q;rfl
 have ha:argsOk "dict.pop" ⟨.ref a::u::more,[]⟩:=by
  rcases hm with q|⟨x,q⟩
  ·subst q;exact PySem.F.args_dict_pop_2 _ _
  ·subst q;exact PySem.F.args_dict_pop_3 _ _ _
 refine qZ Ga dd.typeIs PySem.F.entry_dict_pop ha (meets_dict_pop_there (dW X.prog X.w) a (iZ ry) more hm hp)
  ⟨vs,w',dd,by rw[<-rel.length];exact z,hw,fun h' dd' hs=>h w' _ ?_ rw'⟩
 have he:∃q,h'.get? a=some q:=let⟨q,_,_,hq,_⟩:=dd';⟨q,hq⟩
 exact qh I (by rw[e];exact True.intro) hs he (sS (cN (KH ae k) z) hd (rel.drop k) dd')
theorem KP{r:Value}{Q:Value->Shared->Prop}(I:ah X a8 σ H s)(e:H a=some (.dK ae))(ry:aO (kV k) u)(l:b7 ae k=none)(h:∀s',ah X a8 σ H s'->Q r s'):
  wpAny (model X.prog X.w) A (call (.builtin "dict.pop") [.ref a,u,r]) Q E s:=by
 obtain⟨z,hd,vs,rel,dd⟩:=nU I.hok e
 have hn:valueAt vs k=none:=eI.none_of (by rw[<-l];exact rel.val k)
 have hp:(keyPart u).isSome=true:=by
  cases k with
  |inl i=>obtain⟨t,q⟩:=(show ∃t,u=Value.int i t from ry);subst q;rfl
  |inr x=>obtain⟨t,q⟩:=(show ∃t,u=Value.str x t from ry);subst q;rfl
 exact qZ Ga dd.typeIs PySem.F.entry_dict_pop (PySem.F.args_dict_pop_3 _ _ _) (meets_dict_pop_default (dW X.prog X.w) a (iZ ry) hd hp r) ⟨vs,dd,hn,h _ (I.tok _)⟩
theorem KQ{Q:Value->Shared->Prop}(I:ah X a8 σ H s)(e:Rd H a (.dK ae))(h:∀t s',ah X a8 σ H s'->Q (.int ae.length t) s'):wpAny (model X.prog X.w) A (call (.builtin "len") [.ref a]) Q E s:=by
 obtain⟨z,hd,vs,rel,dd⟩:=kX I.hok e
 refine call_len_dict hd dd (by rw[<-rel.length];rw[m_]at z;omega) ?_
 rw[<-rel.length]
 exact h _ _ (I.tok _)
end
noncomputable def wM(i:Expr):Prop:=∀ov iv,subscripted i false ov iv=operate [ov,iv] (getItem ov iv)
theorem DT{prog:Program}{w:World}{A:Around}{E:Value->Shared->Prop}{s:Shared}{env:Env}{value slice:Expr}{pos:Pos}{T id:String}{Q:Value->Shared->Prop}
  (hl:typeLookup (.type T) "__getitem__"=pure (some (.builtin id))) (hs:wM slice)
  (h:wpAny (model prog w) A (eval value env) (fun o s₁=>wpAny (model prog w) A (eval slice env) (fun i s₂=>s₂.TypeIs o T/\wpAny (model prog w) A (getItem o i) Q E s₂) E s₁) E s):
  wpAny (model prog w) A (eval (.Subscript value slice pos) env) Q E s:=by
 refine Subscript_ (cV h (fun o s₁ h₁=>cV h₁ (fun i s₂ h₂=>?_) fun _ _ x=>x) fun _ _ x=>x)
 obtain⟨hT,h₂⟩:=h₂
 unfold subscriptTail
 refine aa ?_
 rw[getitemInPython_of_ne hT.not_modules]
 refine aa (A1 hT hl ?_)
 have fin:wpAny (model prog w) A (subscripted slice false o i) (fun r s₃=>wpAny (model prog w) A (letTemporaryGo value o r >>=fun _=>pure r) Q E s₃) E s₂:=by
  rw[hs o i]
  exact wpAny_operating (cV h₂ (fun r s₃ h₃=>aa (wpAny_letTemporaryGo (ao h₃))) fun _ _ x=>x)
 first
  |exact ao (aa fin)
  |exact aa (ao (aa fin))
  |exact aa fin
theorem KR{X:Cx}{a8:List (Addr×Obj)}{σ:St}{H:Hp}{s:Shared}{a:Addr}{y:V}{o:Option V}(I:ah X a8 σ H s)(g:gH H a y o):s.TypeIs (.ref a) "dict":=by
 rcases g with⟨ae,k,e,_,_⟩|⟨ae,k,b,e,_,_,_⟩
 ·obtain⟨_,_,vs,_,dd⟩:=kX I.hok e
  exact dd.typeIs
 ·obtain⟨_,_,xs,_,dd⟩:=mC I.hok e
  exact dd.typeIs
noncomputable def DU(td ty:TE):TE:=fun σ H Q=>td σ H fun x H1=>ty σ H1 fun y H2=>∃a v,x=.ref a/\gH H2 a y (some v)/\Q v H2
noncomputable def DV(ty td:TE):TE:=fun σ H Q=>ty σ H fun y H1=>td σ H1 fun x H2=>∃a o,x=.ref a/\gH H2 a y o/\Q (.bl o.isSome) H2
noncomputable def DW(ty td:TE):TE:=fun σ H Q=>ty σ H fun y H1=>td σ H1 fun x H2=>∃a o,x=.ref a/\gH H2 a y o/\Q (.bl (!o.isSome)) H2
noncomputable def DX(td ty tv:TE):TS:=fun D σ H=>tv σ H fun v H1=>td σ H1 fun x H2=>ty σ H2 fun y H3=>∃a H4,x=.ref a/\wK H3 a y v H4/\D.nx σ H4
section
variable{X:Cx}{o i e value:Expr}{pos pos' tpos:Pos}{td ty tv:TE}
theorem nW(hu:X.A.units+1<cLine)(ho:PE X o td)(hi:PE X i ty)(hs:wM i):PE X (.Subscript o i pos) (DU td ty):=by
 intro a8 s σ H Q I h
 refine DT PySem.F.slot_dict_getitem.lookup hs (aD (ho a8 s σ H _ I h) fun u s1 ⟨x,H1,I1,rx,q1⟩=>aD (hi a8 s1 σ H1 _ I1 q1) fun iv s2 ⟨y,H2,I2,ry,a,v,ex,g,q2⟩=>?_)
 subst ex
 obtain rfl:u=Value.ref a:=rx
 exact⟨KR I2 g,KJ hu I2 g ry fun w' s3 I3 rw'=>⟨v,H2,I3,rw',q2⟩⟩
theorem KS(hu:X.A.units+1<cLine)(hi:PE X i ty)(ho:PE X o td):PC X .In i o (DV ty td):=by
 intro a8 s σ H Q I h
 refine aD (hi a8 s σ H _ I h) fun iv s1 ⟨y,H1,I1,ry,q1⟩=>aD (ho a8 s1 σ H1 _ I1 q1) fun u s2 ⟨x,H2,I2,rx,a,ov,ex,g,q2⟩=>?_
 subst ex
 obtain rfl:u=Value.ref a:=rx
 exact KL hu I2 g ry fun s3 I3=>⟨.bl ov.isSome,H2,I3,rfl,q2⟩
theorem sU(hu:X.A.units+1<cLine)(hi:PE X i ty)(ho:PE X o td):PC X .NotIn i o (DW ty td):=by
 intro a8 s σ H Q I h
 refine aD (hi a8 s σ H _ I h) fun iv s1 ⟨y,H1,I1,ry,q1⟩=>aD (ho a8 s1 σ H1 _ I1 q1) fun u s2 ⟨x,H2,I2,rx,a,ov,ex,g,q2⟩=>?_
 subst ex
 obtain rfl:u=Value.ref a:=rx
 exact KM hu I2 g ry fun s3 I3=>⟨.bl (!ov.isSome),H2,I3,rfl,q2⟩
theorem sV(hu:X.A.units+1<cLine)(ho:PE X o td)(hi:PE X i ty)(hv:PE X value tv)(hs:swapsWith value (some (.Subscript o i pos')) pos.line X.env=pure false):
  PS X (.Assign [.Subscript o i pos'] value pos) (DX td ty tv):=by
 intro a8 s σ H D I h
 refine wpAny_Assign_Subscript (aD (hv a8 s σ H _ I h) fun r s1 ⟨v,H1,I1,rv,q1⟩=>aD (ho a8 s1 σ H1 _ I1 q1) fun u s2 ⟨x,H2,I2,rx,q2⟩=>aD (hi a8 s2 σ H2 _ I2 q2) fun iv s3 ⟨y,H3,I3,ry,a,H4,ex,g,q3⟩=>?_) hs
 subst ex
 obtain rfl:u=Value.ref a:=rx
 exact KN hu I3 g ry rv fun s4 I4=>⟨σ,H4,I4,q3⟩
end
theorem DY{P:Program}{w:World}{H:Hp}(h:Heap)(hb:sysModules<h.objs.size):cu P w H (h.push {cls:=.type "dict",data:=.dict #[]}) h.objs.size (.dK []):=
 ⟨b_ _,beq_eq_false_iff_ne.mpr (Ne.symm (bP hb)),[],.nil,Heap.DictOf.new h⟩
noncomputable def wN:TE:=fun _ H Q=>∀p,H p=none->Q (.ref p) (ab H p (.dK []))
section
variable{X:Cx}{pos:Pos}
theorem qj:PE X (.Dict [] [] pos) wN:=fun a8 s σ H Q I h=>
 wpAny_Dict_empty ⟨.ref s.heap.objs.size,_,I.laid (a:=s.heap.objs.size) (o:=.dK []) (t':=s.toks) (fun _ _ q=>aW _ q) (aG _) (DY s.heap I.big),rfl,h _ (I.hok.fresh (aG _))⟩
end
structure M2(X:Cx)(o:Expr)(m:Str)(c6:Pos)(e f:Expr)(c9:Pos):Prop where
 base:attributeBase o m X.env (eval o X.env)=eval o X.env
 few:((backTo c9 (starEach [e,f] X.env)).all (fun x=>!x.1) && (backToKw c9 (keywordEach [] X.env)).all (fun x=>x.1.isSome)
  && decide (([e,f]:List Expr).length+([]:List Keyword).length+(if([]:List Keyword).isEmpty then 0 else 1)<30))=true
 line:(c6.endLine==c9.line)=true
 trees:backTo c9 (starEach [e,f] X.env)=[(false,eval e X.env),(false,eval f X.env)]
noncomputable def mD(H:Hp)(a:Addr):Prop:=(∃ae,Rd H a (.dK ae))\/∃ae,Rd H a (.dT ae)
theorem wO{X:Cx}{a8:List (Addr×Obj)}{σ:St}{H:Hp}{s:Shared}{a:Addr}(I:ah X a8 σ H s)(d:mD H a):
  s.TypeIs (.ref a) "dict"/\(∀b,Value.ref a=.ref b->∃ob,s.heap.get? b=some ob/\ob.dict=none)/\(a==sysModules)=false:=by
 rcases d with⟨ae,e⟩|⟨ae,e⟩
 ·obtain⟨_,hd,vs,_,dd⟩:=kX I.hok e
  refine⟨dd.typeIs,fun b q=>?_,hd⟩
  cases q
  obtain⟨ob,_,_,h1,h2,_⟩:=dd
  exact⟨ob,h1,h2.2.1⟩
 ·obtain⟨_,hd,xs,_,dd⟩:=mC I.hok e
  refine⟨dd.typeIs,fun b q=>?_,hd⟩
  cases q
  obtain⟨ob,_,_,h1,h2,_⟩:=dd
  exact⟨ob,h1,h2.2.1⟩
section
variable{X:Cx}{a8:List (Addr×Obj)}{σ:St}{H:Hp}{s:Shared}{a:Addr}{y d:V}{u r:Value}{o:Option V}{A:Around}{E:Value->Shared->Prop}
theorem KU{Q:Value->Shared->Prop}(hu:A.units+1<cLine)(I:ah X a8 σ H s)(g:gH H a y o)(ry:aO y u)(rd:aO d r)(h:∀w' s',ah X a8 σ H s'->aO (o.getD d) w'->Q w' s'):
  wpAny (model X.prog X.w) A (call (.builtin "dict.get") [.ref a,u,r]) Q E s:=by
 rcases g with⟨ae,k,e,ey,l⟩|⟨ae,k,b,e,ey,eb,l⟩
 ·subst ey
  obtain⟨z,hd,vs,rel,dd⟩:=kX I.hok e
  refine qZ Gb dd.typeIs PySem.F.entry_dict_get (PySem.F.args_dict_get_3 _ _ _) (meets_dict_get_default (dW X.prog X.w) a (iZ ry) hd r) ⟨_,dd.mapOf,h _ _ (I.tok _) ?_⟩
  rw[l]
  exact(rel.val k).getD rd
 ·subst ey
  cases(show u=Value.ref b from ry)
  obtain⟨z,hd,xs,rel,dd⟩:=mC I.hok e
  refine qZ Gb dd.typeIs PySem.F.entry_dict_get (PySem.F.args_dict_get_3 _ _ _) (meetsH_dict_get_default (tupleKind (dW X.prog X.w)) a b hd r) ⟨uE hu,k,xs,nV I.hok eb,dd,h _ _ (I.tok _) ?_⟩
  rw[l]
  exact(rel.val k).getD rd
end
noncomputable def DZ(td ty tx:TE):TE:=fun σ H Q=>td σ H fun x H1=>∃a,x=.ref a/\mD H1 a/\ty σ H1 fun y H2=>tx σ H2 fun z H3=>∃o,gH H3 a y o/\Q (o.getD z) H3
noncomputable def KW(td ty tx:TE):TE:=fun σ H Q=>td σ H fun x H1=>∃a,x=.ref a/\mD H1 a/\ty σ H1 fun y H2=>tx σ H2 fun z H3=>∃ae k,H3 a=some (.dK ae)/\y=kV k/\
 (∀v,b7 ae k=some v->Q v (ab H3 a (.dK (qe ae k))))/\(b7 ae k=none->Q z H3)
section
variable{X:Cx}{o e f:Expr}{c6 c9:Pos}{td ty tx:TE}
theorem sW(hu:X.A.units+1<cLine)(ho:PE X o td)(he:PE X e ty)(hf:PE X f tx)(m:M2 X o "get" c6 e f c9):PE X (.Call (.Attribute o "get" c6) [e,f] [] c9) (DZ td ty tx):=by
 intro a8 s σ H Q I h
 refine wpAny_Call_method m.base m.few m.line G5 Gb PySem.F.type_dict_get (aD (ho a8 s σ H _ I h) fun u s1 ⟨x,H1,I1,rx,a,ex,d,q1⟩=>?_)
 subst ex
 obtain rfl:u=Value.ref a:=rx
 obtain⟨t1,t2,_⟩:=wO I1 d
 refine⟨t1,t2,?_⟩
 rw[m.trees]
 refine zM rfl (zQ (oC (aD (he a8 s1 σ H1 _ I1 q1) fun iv s2 ⟨y,H2,I2,ry,q2⟩=>
  oC (aD (hf a8 s2 σ H2 _ I2 q2) fun fv s3 ⟨z,H3,I3,rz,ov,g,q3⟩=>zW ?_))))
 exact KU hu I3 g ry rz fun w' s4 I4 rw'=>⟨_,H3,I4,rw',q3⟩
theorem KY(ho:PE X o td)(he:PE X e ty)(hf:PE X f tx)(m:M2 X o "pop" c6 e f c9):PE X (.Call (.Attribute o "pop" c6) [e,f] [] c9) (KW td ty tx):=by
 intro a8 s σ H Q I h
 refine wpAny_Call_method m.base m.few m.line G5 Ga PySem.F.type_dict_pop (aD (ho a8 s σ H _ I h) fun u s1 ⟨x,H1,I1,rx,a,ex,d,q1⟩=>?_)
 subst ex
 obtain rfl:u=Value.ref a:=rx
 obtain⟨t1,t2,_⟩:=wO I1 d
 refine⟨t1,t2,?_⟩
 rw[m.trees]
 refine zM rfl (zQ (oC (aD (he a8 s1 σ H1 _ I1 q1) fun iv s2 ⟨y,H2,I2,ry,q2⟩=>
  oC (aD (hf a8 s2 σ H2 _ I2 q2) fun fv s3 ⟨z,H3,I3,rz,ae,k,ea,ey,q3,q4⟩=>zW ?_))))
 subst ey
 cases l:b7 ae k with
 |some v=>exact KO I3 ea ry l (.inr ⟨fv,rfl⟩) fun w' s4 I4 rw'=>⟨v,_,I4,rw',q3 v l⟩
 |none=>exact KP I3 ea ry l fun s4 I4=>⟨z,H3,I4,rz,q4 l⟩
end
section
variable{X:Cx}{a8:List (Addr×Obj)}{σ:St}{H:Hp}{s:Shared}{a:Addr}{ae:List (aT×V)}{A:Around}{E:Value->Shared->Prop}
end
section
variable{X:Cx}{a8:List (Addr×Obj)}{σ:St}{H:Hp}{s:Shared}{a:Addr}{y:V}{u:Value}{A:Around}{E:Value->Shared->Prop}
end
end L2
namespace Att
open PySem PySem.W PySem.Calls PyProof.Rows
variable{P:Program}{w:World}{K:W.Frag}{mg:Str->Option Value}{base:Heap}{CY CD aL:Addr}
section
variable{prog:Program}{w:World}{A:Around}{E:Value->Shared->Prop}{s:Shared}{K:Frag}
end
end Att
namespace L2
open PySem PySem.Spec PyProof.Rows
section
variable{P:Program}{w:World}{K:W.Frag}{mg:Str->Option Value}{base:Heap}
end
section
variable{X:Cx}
end
section
variable{κ:Type}[DecidableEq κ]
end
theorem fq{A:Around}(h:A.units+64<cLine):A.units+1<cLine:=by omega
section
variable{σ:St}{H:Hp}{Q:VK}{D:gY}
theorem KZ{td ty:TE}(q:td σ H fun x H1=>ty σ H1 fun y H2=>∃a v,x=.ref a/\gH H2 a y (some v)/\Q v H2):DU td ty σ H Q:=q
theorem K_{td ty:TE}(q:ty σ H fun y H1=>td σ H1 fun x H2=>∃a o,x=.ref a/\gH H2 a y o/\Q (.bl o.isSome) H2):DV ty td σ H Q:=q
theorem K'{td ty:TE}(q:ty σ H fun y H1=>td σ H1 fun x H2=>∃a o,x=.ref a/\gH H2 a y o/\Q (.bl (!o.isSome)) H2):DW ty td σ H Q:=q
theorem L0{td ty tv:TE}(q:tv σ H fun v H1=>td σ H1 fun x H2=>ty σ H2 fun y H3=>∃a H4,x=.ref a/\wK H3 a y v H4/\D.nx σ H4):DX td ty tv D σ H:=q
end
noncomputable def jV(K:W.Frag)(a:Addr)(D:List (Str×Addr)):Prop:=KTD.tabLook (fun(f:Addr) (v:Value)=>v==Value.ref f) (fun b=>K.lookup b) a D=true
abbrev qm(h:Heap)(a:Addr)(D:List (Str×Addr)):Prop:=KTD.TabOf (fun(f:Addr) (v:Value)=>v=Value.ref f) h a D
section
variable{X:Cx}{a8:List (Addr×Obj)}{σ:St}{H:Hp}{s:Shared}{a:Addr}{D:List (Str×Addr)}{k:Str}{tk:Tok}{A:Around}{E:Value->Shared->Prop}
theorem D_(I:ah X a8 σ H s)(t:jV X.K a D):qm s.heap a D:=
 KTD.tab_of_look (fun _ _ e=>by simpa using e) (fun b o e=>I.kIn b o e) t
theorem wQ(T:qm s.heap a D):s.TypeIs (.ref a) "dict":=by
 obtain⟨_,o,_,_,ho,hc,_⟩:=T
 exact⟨o,ho,hc.1⟩
theorem E1{Q:Option Value->Shared->Prop}(T:qm s.heap a D)(q:Q ((KTD.datumAt k D).map Value.ref) {s with toks:=s.toks+1}):wpAny (model X.prog X.w) A (dictGet a (.str k tk)) Q E s:=by
 obtain⟨_,o,es,ep,ho,hc,hd,hr⟩:=T
 unfold dictGet
 try with_reducible refine c_ ?_
 refine aa (wpAny_pyHash_str (aa (KTD.kt_dictFind_strs (s:={s with toks:=s.toks+1}) ho hd (by obtain⟨l⟩:=es;simpa using hr.exact) ?_)))
 have z:findBy (fun k v=>v.isStr k) es k=(KTD.datumAt k D).map Value.ref:=by
  have z1:findBy (fun k v=>v.isStr k) es k=(es.toList.find? fun e=>e.key.isStr k).map (·.val):=by obtain⟨l⟩:=es;simp[findBy]
  rw[z1]
  cases hat:KTD.datumAt k D with
  |none=>rw[hr.find_none hat];rfl
  |some f=>obtain⟨v,hv,hf⟩:=hr.find_some hat;rw[hv,hf];rfl
 rw[<-z,findBy_of_findIdx?]at q
 cases hi:es.findIdx? fun e=>e.key.isStr k with
 |some i=>rw[hi]at q;exact aa (wpAny_dictEntries (s:={s with toks:=s.toks+1}) ho hd (ao q))
 |none=>rw[hi]at q;exact ao q
theorem L1{Q:Value->Shared->Prop}{f:Addr}(T:qm s.heap a D)(e:KTD.datumAt k D=some f)(q:Q (.ref f) {s with toks:=s.toks+1}):wpAny (model X.prog X.w) A (getItem (.ref a) (.str k tk)) Q E s:=by
 have ty:=wQ T
 unfold getItem
 try with_reducible refine c_ ?_
 refine aa (wpAny_sequenceKey ty (by decide) ?_)
 refine aa (oy (name:=Str.ofString "__getitem__") ty slot_dict_getitem (ix slot_dict_getitem ty entry_dict_getitem ?_ (args_dict_getitem _ _)))
 show wpAny _ _ (dictGet a (.str k tk) >>=_) _ _ s
 refine aa (E1 (X:=X) T ?_)
 rw[e]
 exact ao ⟨_,rfl,ao q⟩
theorem L3{Q:Bool->Shared->Prop}(T:qm s.heap a D)(q:Q (KTD.datumAt k D).isSome {s with toks:=s.toks+1}):wpAny (model X.prog X.w) A (contains (.ref a) (.str k tk)) Q E s:=by
 have ty:=wQ T
 unfold contains
 try with_reducible refine c_ ?_
 refine aa (A1 ty slot_dict_contains.lookup ?_)
 show wpAny _ _ (if(some (Value.builtin "dict.__contains__")==some Value.none)=true then _ else _) _ E s
 rw[av (by rw[beq_builtin_none];exact cq)]
 refine aa (wpAny_callSpecialUnlessNone?_slot (name:=Str.ofString "__contains__") ty slot_dict_contains (ix slot_dict_contains ty entry_dict_contains ?_ (args_dict_contains _ _)))
 show wpAny _ _ (dictGet a (.str k tk) >>=_) _ _ s
 refine aa (E1 (X:=X) T ?_)
 cases e:KTD.datumAt k D with
 |some f=>
  rw[e]at q
  show wpAny _ _ (ret (.bool true)) _ _ _
  exact ao ⟨_,rfl,j8 q⟩
 |none=>
  rw[e]at q
  show wpAny _ _ (Builtin.Dict.pendingKey? a (.str k tk) >>=_) _ _ _
  exact aa (wpAny_pendingKey_other T.1 (ao ⟨_,rfl,j8 q⟩))
end
noncomputable def E4(K:W.Frag)(td ty:TE):TE:=fun σ H Q=>td σ H fun x H1=>ty σ H1 fun y H2=>∃(a:Addr) (D:List (Str×Addr)) (k:Str) (f:Addr),x=.ref a/\jV K a D/\y=.str k/\KTD.datumAt k D=some f/\Q (.ref f) H2
noncomputable def E5(K:W.Frag)(ty td:TE):TE:=fun σ H Q=>ty σ H fun y H1=>td σ H1 fun x H2=>∃(a:Addr) (D:List (Str×Addr)) (k:Str),x=.ref a/\jV K a D/\y=.str k/\Q (.bl (!(KTD.datumAt k D).isSome)) H2
noncomputable def jW(P:Program)(w:World)(K:W.Frag)(mg:Str->Option Value)(base:Heap)(f:Addr)(k:Nat)(ps:List Str)(sp:Sp):Prop:=
 ∃fd:FuncData,aK P w K mg base aV k f fd ps sp/\W.keepIn K (.ref f)=true/\fS K fd ps []
noncomputable def E6(P:Program)(w:World)(K:W.Frag)(mg:Str->Option Value)(base:Heap)(k:Nat)(tf:TE)(t:TA):TE:=fun σ H Q=>tf σ H fun x H1=>∃(f:Addr) (ps:List Str) (sp:Sp),x=.ref f/\jW P w K mg base f k ps sp/\t σ H1 fun vs H2=>sp (vs++[]) H2 Q E0
section
variable{X:Cx}{K:W.Frag}{o i e:Expr}{es:List Expr}{pos p:Pos}{td ty tf:TE}{t:TA}{x:Str}{k:Nat}
theorem E7(h:X.K=K)(ho:PE X o td)(hi:PE X i ty)(hs:wM i):PE X (.Subscript o i pos) (E4 K td ty):=by
 subst h
 intro a8 s σ H Q I q
 refine DT PySem.F.slot_dict_getitem.lookup hs (aD (ho a8 s σ H _ I q) fun u s1 ⟨x,H1,I1,rx,q1⟩=>aD (hi a8 s1 σ H1 _ I1 q1) fun iv s2 ⟨y,H2,I2,ry,a,D,k,f,ex,t,ey,ek,q2⟩=>?_)
 subst ex ey
 obtain rfl:u=Value.ref a:=rx
 obtain⟨tk,rfl⟩:=(show ∃tk,iv=Value.str k tk from ry)
 have T:=D_ I2 t
 exact⟨wQ T,L1 T ek ⟨.ref f,H2,I2.tok _,rfl,q2⟩⟩
theorem L4(h:X.K=K)(hi:PE X i ty)(ho:PE X o td):PC X .NotIn i o (E5 K ty td):=by
 subst h
 intro a8 s σ H Q I q
 refine aD (hi a8 s σ H _ I q) fun iv s1 ⟨y,H1,I1,ry,q1⟩=>aD (ho a8 s1 σ H1 _ I1 q1) fun u s2 ⟨x,H2,I2,rx,a,D,k,ex,t,ey,q2⟩=>?_
 subst ex ey
 obtain rfl:u=Value.ref a:=rx
 obtain⟨tk,rfl⟩:=(show ∃tk,iv=Value.str k tk from ry)
 have T:=D_ I2 t
 show wpAny _ _ (do return Value.bool (!(<-contains (.ref a) (.str k tk)))) _ _ _
 exact aa (L3 T (ao ⟨.bl _,H2,I2.tok _,rfl,q2⟩))
theorem E8{P:Program}{w:World}{mg:Str->Option Value}{base:Heap}(h:X.prog=P/\X.w=w/\X.K=K/\X.mg=mg/\X.base=base)(hr:cw k X.A)(hf:PE X (.Name x p) tf)(ha:PA X (e::es) t)
  (he:starEach (e::es) X.env=(false,eval e X.env)::starEach es X.env:=by rfl) (hpl:(backTo pos (starEach es X.env)).any (·.1)=false:=by rfl):
  PE X (.Call (.Name x p) (e::es) [] pos) (E6 P w K mg base k tf t):=by
 obtain⟨rfl,rfl,rfl,rfl,rfl⟩:=h
 intro a8 s σ H Q I q
 refine qU (aD (hf a8 s σ H _ I q) fun u s1 ⟨y,H1,I1,ry,f,ps,sp,ey,⟨fd,F,hk,hb⟩,q1⟩=>?_)
 subst ey
 obtain rfl:u=Value.ref f:=ry
 refine W.callWith_K (h₀:=X.base) I1.ok.mod.kin hk (aD (ha pos a8 s1 σ H1 _ I1 q1) fun us s2 ⟨vs,H2,I2,r,q2⟩=>⟨I2.kIn,?_⟩) he hpl
 exact rO F hr hb .nil nH I2 r q2
end
section
variable{X:Cx}{K:W.Frag}
end
section
variable{σ:St}{H:Hp}{Q:VK}{K:W.Frag}
theorem L5{td ty:TE}(q:td σ H fun x H1=>ty σ H1 fun y H2=>∃(a:Addr) (D:List (Str×Addr)) (k:Str) (f:Addr),x=.ref a/\jV K a D/\y=.str k/\KTD.datumAt k D=some f/\Q (.ref f) H2):E4 K td ty σ H Q:=q
theorem L6{td ty:TE}(q:ty σ H fun y H1=>td σ H1 fun x H2=>∃(a:Addr) (D:List (Str×Addr)) (k:Str),x=.ref a/\jV K a D/\y=.str k/\Q (.bl (!(KTD.datumAt k D).isSome)) H2):E5 K ty td σ H Q:=q
theorem L7{P:Program}{w:World}{mg:Str->Option Value}{base:Heap}{k:Nat}{tf:TE}{t:TA}(q:tf σ H fun x H1=>∃(f:Addr) (ps:List Str) (sp:Sp),x=.ref f/\jW P w K mg base f k ps sp/\t σ H1 fun vs H2=>sp (vs++[]) H2 Q E0):E6 P w K mg base k tf t σ H Q:=q
theorem wR{a:Addr}{xs:List V}{lo hi:Option Int}(h:ax K H a xs)(n:¬(HT.sIx xs.length 0 lo=0/\HT.sIx xs.length xs.length hi=xs.length))(q:∀p,H p=none->Q (.ref p) (ab H p (.tup (fh xs lo hi)))):vf K (.ref a) lo hi H Q:=⟨a,xs,rfl,h,n,q⟩
theorem L8{td ty tx:TE}(q:td σ H fun x H1=>∃a,x=.ref a/\mD H1 a/\ty σ H1 fun y H2=>tx σ H2 fun z H3=>∃o,gH H3 a y o/\Q (o.getD z) H3):DZ td ty tx σ H Q:=q
end
noncomputable def cW(P:Program)(w:World)(K:W.Frag)(mg:Str->Option Value)(base:Heap)(C:Addr)(m:Str)(k:Nat)(ps:List Str)(sp:Sp):Prop:=
 dA K C/\∃(f:Addr) (fd:FuncData),aK P w K mg base aV k f fd ps sp/\rK K C m f/\fS K fd ps []
noncomputable def nX(P:Program)(w:World)(K:W.Frag)(mg:Str->Option Value)(base:Heap)(x:Str)(C:Addr)(k:Nat)(ps:List Str)(sp:Sp):Prop:=
 mg x=some (.ref C)/\∃(f:Addr) (fd:FuncData),aK P w K mg base aV k f fd ps sp/\Mk K C f/\fS K fd ps []
section
variable{X:Cx}{k:Nat}{C:Addr}{ps:List Str}{sp:Sp}{x m:Str}{p pos c6:Pos}{e o:Expr}{es:List Expr}{ta:TE}{t:TA}
theorem L9{pl:Sem Bool}(c:cW X.prog X.w X.K X.mg X.base C m k ps sp)(hr:cw k X.A)(he:PE X o ta)(ha:PA X (e::es) t)
  (hst:starEach (e::es) X.env=(false,eval e X.env)::starEach es X.env:=by rfl) (hpl:(backTo pos (starEach es X.env)).any (·.1)=false:=by rfl)
  (ht:eval (.Call (.Attribute o m c6) (e::es) [] pos) X.env=(do
   let ov<-eval o X.env
   standAt c6.atName
   let(f,first)<-holding [ov] (getMethod ov m pl)
   callWith pos f first (backTo pos (starEach (e::es) X.env)) (backToKw pos (keywordEach [] X.env))):=by rfl):
  PE X (.Call (.Attribute o m c6) (e::es) [] pos) (jL C m sp [] E0 ta t):=by
 obtain⟨c,f,fd,F,hm,hb⟩:=c
 exact Ho he c hm F hr hb .nil nH ha hst hpl ht
theorem pM{pl:Sem Bool}(c:cW X.prog X.w X.K X.mg X.base C m k ps sp)(he:PE X o ta)(ha:PA X (e::es) t)(hr:cw k X.A:=by exact cw.mono (by assumption) (by omega))
  (hst:starEach (e::es) X.env=(false,eval e X.env)::starEach es X.env:=by rfl) (hpl:(backTo pos (starEach es X.env)).any (·.1)=false:=by rfl)
  (ht:eval (.Call (.Attribute o m c6) (e::es) [] pos) X.env=(do
   let ov<-eval o X.env
   standAt c6.atName
   let(f,first)<-holding [ov] (getMethod ov m pl)
   callWith pos f first (backTo pos (starEach (e::es) X.env)) (backToKw pos (keywordEach [] X.env))):=by rfl):
  PE X (.Call (.Attribute o m c6) (e::es) [] pos) (jL C m sp [] E0 ta t):=L9 c hr he ha hst hpl ht
theorem kY{pl:Sem Bool}(c:cW X.prog X.w X.K X.mg X.base C m k ps sp)(hr:cw k X.A)(he:PE X o ta)
  (ht:eval (.Call (.Attribute o m c6) [] [] pos) X.env=(do
   let ov<-eval o X.env
   standAt c6.atName
   let(f,first)<-holding [ov] (getMethod ov m pl)
   callWith pos f first (backTo pos (starEach [] X.env)) (backToKw pos (keywordEach [] X.env))):=by rfl):
  PE X (.Call (.Attribute o m c6) [] [] pos) (jL C m sp [] E0 ta iV):=by
 obtain⟨c,f,fd,F,hm,hb⟩:=c
 exact Hq he c hm F hr hb .nil nH ht
theorem La(c:nX X.prog X.w X.K X.mg X.base x C k ps sp)(hr:cw (k+1) X.A)(hg:Gl X x)(ha:PA X (e::es) t)(hdb:(x==("__debug__":Str))=false:=by decide)(he:starEach (e::es) X.env=(false,eval e X.env)::starEach es X.env:=by rfl)(hpl:(backTo pos (starEach es X.env)).any (·.1)=false:=by rfl):
  PE X (.Call (.Name x p) (e::es) [] pos) (pE C sp [] E0 t):=by
 obtain⟨hm,f,fd,F,M,hb⟩:=c
 exact Hr M F hr hg hm hb .nil nH ha hdb he hpl
theorem Lb(c:nX X.prog X.w X.K X.mg X.base x C k ps sp)(hr:cw (k+1) X.A)(hg:Gl X x)(hdb:(x==("__debug__":Str))=false:=by decide):
  PE X (.Call (.Name x p) [] [] pos) (pE C sp [] E0 iV):=by
 obtain⟨hm,f,fd,F,M,hb⟩:=c
 exact Hs M F hr hg hm hb .nil nH hdb
end
section
variable{σ:St}{H:Hp}{Q:VK}{D:gY}{K:W.Frag}{f:Str}{ta tv:TE}
theorem E9(q:ta σ H fun x H1=>∃a C dx fs v,x=.ref a/\H1 a=some (.ins C dx fs)/\dA K C/\di K C f/\fs.lookup f=some v/\Q v H1):vb K ta f σ H Q:=q
theorem Ea{a C dx:Addr}{fs:List (Str×V)}{v:V}{R:V->Prop}(e:H a=some (.ins C dx fs))(l:fs.lookup f=some v)(c:dA K C)(n:di K C f)(q:R v):
  ∃a' C dx fs v,V.ref a=.ref a'/\H a'=some (.ins C dx fs)/\dA K C/\di K C f/\fs.lookup f=some v/\R v:=⟨a,C,dx,fs,v,rfl,e,c,n,l,q⟩
theorem sX(q:tv σ H fun y H1=>ta σ H1 fun x H2=>∃a C dx fs,x=.ref a/\H2 a=some (.ins C dx fs)/\dA K C/\di K C f/\fs.length<1000/\D.nx σ (ab H2 a (.ins C dx (bw f y fs)))):rL K ta tv f D σ H:=q
theorem qo{a C dx:Addr}{fs:List (Str×V)}{y:V}{N:St->Hp->Prop}(e:H a=some (.ins C dx fs))(l:fs.length<1000)(c:dA K C)(n:di K C f)(q:N σ (ab H a (.ins C dx (bw f y fs)))):
  ∃a' C dx fs,V.ref a=.ref a'/\H a'=some (.ins C dx fs)/\dA K C/\di K C f/\fs.length<1000/\N σ (ab H a' (.ins C dx (bw f y fs))):=⟨a,C,dx,fs,rfl,e,c,n,l,q⟩
theorem Lc{C:Addr}{m:Str}{sp:Sp}{E:XK}{t:TA}(q:ta σ H fun x H1=>∃a dx fs,x=.ref a/\H1 a=some (.ins C dx fs)/\fs.lookup m=none/\t σ H1 fun vs H2=>sp (x::(vs++[])) H2 Q E):jL C m sp [] E ta t σ H Q:=q
theorem Ld{a C dx:Addr}{fs:List (Str×V)}{m:Str}{R:Prop}(e:H a=some (.ins C dx fs))(l:fs.lookup m=none)(q:R):
  ∃a' dx fs,V.ref a=.ref a'/\H a'=some (.ins C dx fs)/\fs.lookup m=none/\R:=⟨a,dx,fs,rfl,e,l,q⟩
theorem Le{C:Addr}{sp:Sp}{E:XK}{t:TA}(q:t σ H fun vs H1=>∀x dx,H1 x=none->H1 dx=none->dx≠x->sp (.ref x::(vs++[])) (ab (ab H1 dx (.own x)) x (.ins C dx [])) (fun v H2=>v=.non/\Q (.ref x) H2) E):pE C sp [] E t σ H Q:=q
theorem Lf(q:∀p,H p=none->Q (.ref p) (ab H p (.dK []))):wN σ H Q:=q
end
section
variable{X:Cx}{a8:List (Addr×Obj)}{σ:St}{H:Hp}{s:Shared}{d:Addr}{ae:List (aT×V)}{o:Obj}
theorem ah.freeze(I:ah X a8 σ H s)(e:H d=some (.dK ae))(g:s.heap.get? d=some o):ah X a8 σ (ab H d (.frz o (.dK ae))) s:=by
 have nd:∀{b:Addr} {u:HO},H b=some u->u≠ .dK ae->b≠d:=fun h n z=>by subst z;rw[e]at h;exact n (cm h).symm
 refine I.un (h':=s.heap) (t':=s.toks) ⟨fun b o q _ _ _=>q,fun b o q _ _ _=>⟨o.slots,q⟩,fun b o q n _=>?_,fun b o q _=>⟨o,q⟩,fun b xs q=>?_,fun b o u q=>?_,fun b ps q=>⟨#[],?_⟩⟩ fun b u q=>?_
 ·rw[az (fun z=>by subst z;rw[e]at n;cases n)];exact n
 ·rw[az (nd q nofun)];exact q
 ·rw[az (nd q nofun)];exact q
 ·rw[az (nd q nofun),q];simp
 ·by_cases hb:b=d
  ·subst hb
   rw[aq]at q
   cases q
   exact⟨g,I.hok b _ e⟩
  ·rw[az hb]at q
   exact(I.hok b u q).stay (fun c v _ z=>z) (fun c z=>by rw[az (nd z nofun)];exact z) fun c xs z=>by rw[az (nd z nofun)];exact z
theorem ah.thaw(I:ah X a8 σ H s)(e:H d=some (.frz o (.dK ae)))(hz:∀o u,X.H₀ d≠some (.frz o u)):ah X a8 σ (ab H d (.dK ae)) s:=by
 have nn:∀{b:Addr},H b=none->ab H d (.dK ae) b=none:=fun{b} n=>by rw[az (fun z=>by subst z;rw[e]at n;cases n)];exact n
 have nd:∀{b:Addr} {u:HO},H b=some u->u≠ .frz o (.dK ae)->b≠d:=fun h n z=>by subst z;rw[e]at h;exact n (cm h).symm
 refine⟨I.ok,I.os,I.bare,⟨I.base.keep,I.base.slot,fun b o q n x=>nn (I.base.free b o q n x),I.base.there,fun b xs q=>?_,fun b o u q=>?_,fun b ps q=>?_⟩,I.loc,I.cell,nn I.free,fun x c q=>nn (I.freeC x c q),fun p hp=>?_,fun b u q=>?_,I.len⟩
 ·have z:=I.base.tups b xs q
  rw[az (nd z nofun)];exact z
 ·have z:=I.base.frzs b o u q
  rw[az (fun y=>by subst y;exact hz _ _ q)];exact z
 ·obtain⟨more,z⟩:=I.base.tbls b ps q
  exact⟨more,by rw[az (nd z nofun)];exact z⟩
 ·obtain⟨a1,a2,a3⟩:=I.pin p hp
  exact⟨a1,nn a2,a3⟩
 ·by_cases hb:b=d
  ·subst hb
   rw[aq]at q
   cases q
   exact(I.hok b _ e).2
  ·rw[az hb]at q
   exact(I.hok b u q).stay (fun c v _ z=>z) (fun c z=>by rw[az (nd z nofun)];exact z) fun c xs z=>by rw[az (nd z nofun)];exact z
noncomputable def Eb(t:TE):TE:=fun σ H Q=>∃(d:Addr) (ae:List (aT×V)),H d=some (.dK ae)/\∀o,t σ (ab H d (.frz o (.dK ae))) fun v H1=>H1 d=some (.frz o (.dK ae))/\Q v (ab H1 d (.dK ae))
theorem Ec{e:Expr}{t:TE}(h:PE X e t):PE X e (Eb t):=by
 intro a8 s σ H Q I q
 obtain⟨d,ae,ed,q⟩:=q
 obtain⟨_,_,vs,_,o,es,ep,g,_⟩:=I.hok d _ ed
 have hz:∀o u,X.H₀ d≠some (.frz o u):=fun o u z=>by have:=I.base.frzs d o u z;rw[ed]at this;cases this
 refine aD (h a8 s σ _ _ (I.freeze ed g) (q o)) fun u s1 ⟨v,H1,I1,r,e1,q1⟩=>?_
 exact⟨v,_,I1.thaw e1 hz,r,q1⟩
noncomputable def wU(d:Addr)(o:Obj)(ae:List (aT×V)):It:=
 ⟨fun i H=>H d=some (.frz o (.dK ae))/\i<ae.length,fun i H x H'=>H'=H/\∃k v,ae[i]?=some (k,v)/\x=kV k,fun i H=>H d=some (.frz o (.dK ae))/\ae.length<=i⟩
noncomputable def sY(o:Obj):Nat:=match o.data with|.dict _ ep=>ep|_=>0
theorem Lg{P:Program}{w:World}{k:aT}{u:Value}(h:(dW P w).is k u=true):aO (kV k) u:=by
 rw[Gz]at h
 cases k with
 |inl i=>cases u with|int j t=>(have e:j=i:=by simpa[jG,Value.isInt]using h);subst e;exact⟨_,rfl⟩|_=>cases h
 |inr x=>cases u with|str j t=>(have e:j=x:=by simpa[jG,Value.isStrOf]using h);subst e;exact⟨_,rfl⟩|_=>cases h
theorem wV(I:ah X a8 σ H s)(e:H d=some (.frz o (.dK ae))):(d==sysModules)=false/\∃vs,KV ae vs/\s.heap.DictAt (dW X.prog X.w) d vs (sY o):=by
 obtain⟨g,_,hd,vs,r,o',es,ep,g',q⟩:=I.hok d _ e
 rw[g]at g'
 cases g'
 refine⟨hd,vs,r,o,es,g,?_⟩
 have:sY o=ep:=by unfold sY;rw[q.2.1]
 rw[this]
 exact q
theorem Lh{P:Program}{w:World}{K:W.Frag}{tg:Expr}(d it:Addr)(o:Obj)(ae:List (aT×V)):iC P w K tg (wU d o ae) [it] it (fun i h=>h.IsKeyIter it d i ae.length (sY o)) where
 mem:=by simp
 obj:=fun i h st b hb=>by
  have e:b=it:=by simpa using hb
  subst e
  obtain⟨o,e,c,d⟩:=st
  exact⟨o,e,fun v z=>by rw[d]at z;cases z⟩
 keep:=fun i h h' st k=>st.at fun o e=>k it (by simp) o e
 item:=by
  intro X hP hw hK hc i a8 s σ H E I hf st hg
  subst hP hw hK
  obtain⟨e,hi⟩:=hg
  obtain⟨_,vs,r,dd⟩:=wV I e
  have hl:=r.length
  rw[hl]at st
  obtain⟨f0,f1,f2,f3,f4,f5⟩:=hf it (by simp)
  have hx:vs[i]?=some (vs[i]'(by omega)):=aN _
  have hk:=r.keys
  refine wpAny_pyNext_dict_item (k:=(vs[i]'(by omega)).1) (v:=(vs[i]'(by omega)).2) st dd hx fun key h' hkey st' sb=>?_
  have I1:ah X a8 σ H {s with heap:=h'}:=I.turned (t':=s.toks) (fun b o hb e=>(sb.2 b hb).trans e) f0 f1 f3 f4 f5
  obtain⟨o',e',c,dt⟩:=id st'
  refine⟨key,rfl,pq (s:={s with heap:=h'}) e' c dt (by decide) ⟨kV (vs[i]'(by omega)).1,H,I1,Lg hkey,⟨rfl,ae[i].1,ae[i].2,aN _,?_⟩,by rw[hl];exact st',fun b hb=>(hf b hb).1⟩⟩
  have a1:(ae.map (·.1))[i]?=some ae[i].1:=by rw[aI,aN hi];rfl
  have a2:(vs.map (·.1))[i]?=some (vs[i]'(by omega)).1:=by rw[aI,hx];rfl
  rw[hk,a2]at a1
  rw[cm a1]
 done:=by
  intro X hP hw hK hc i a8 s σ H E I hf st hg
  subst hP hw hK
  obtain⟨e,hi⟩:=hg
  obtain⟨_,vs,r,dd⟩:=wV I e
  have hl:=r.length
  rw[hl]at st hi
  obtain⟨f0,f1,f2,f3,f4,f5⟩:=hf it (by simp)
  exact wpAny_pyNext_dict_end (I.ok.hd hc) st dd (iQ hi) fun h' eb=>⟨rfl,I.turned (t':=s.toks) (fun b o hb e=>eb b o hb e) f0 f1 f3 f4 f5⟩
 self:=fun _ _ _ _ _ st h=>wpAny_pyIter_keyiter st h
noncomputable def Ed(tl:TE):TI:=fun σ H N=>tl σ H fun x H1=>∃d o ae,x=.ref d/\H1 d=some (.frz o (.dK ae))/\N (wU d o ae) H1
theorem Ee{K:W.Frag}{tg l:Expr}{tl:TE}(_h:X.K=K)(hl:PE X l tl):PI X tg l (Ed tl):=by
 intro a8 s σ H R I h
 refine aD (hl a8 s σ H _ I h) fun v s1 ⟨x,H1,I1,r1,q1⟩=>?_
 obtain⟨d,o,ae,e,hq,q⟩:=q1
 subst e
 cases r1
 obtain⟨hd,vs,r,dd⟩:=wV I1 hq
 refine wpAny_pyIter_dict hd dd ?_
 refine⟨s1.heap.objs.size,[s1.heap.objs.size],_,_,H1,rfl,I1.kept (t':=s1.toks) fun b o e=>aW _ e,Lh d _ o ae,⟨_,bV _ rfl,rfl,by rw[r.length];rfl⟩,fun b hb=>?_,q⟩
 have e:b=s1.heap.objs.size:=by simpa using hb
 subst e
 exact I1.fpOk (aG _) (I1.hok.fresh (aG _))
theorem Ef{t:TE}{Q:VK}(e:H d=some (.dK ae))(q:∀o,t σ (ab H d (.frz o (.dK ae))) fun v H1=>H1 d=some (.frz o (.dK ae))/\Q v (ab H1 d (.dK ae))):Eb t σ H Q:=⟨d,ae,e,q⟩
theorem Li{tl:TE}{N:It->Hp->Prop}(q:tl σ H fun x H1=>∃d o ae,x=.ref d/\H1 d=some (.frz o (.dK ae))/\N (wU d o ae) H1):Ed tl σ H N:=q
end
section
variable{X:Cx}{a8:List (Addr×Obj)}{σ:St}{H:Hp}{s:Shared}{a:Addr}{ae:List (aT×V)}{k:aT}{u r:Value}{A:Around}{E:Value->Shared->Prop}
theorem Lj{z:V}{Q:Value->Shared->Prop}(I:ah X a8 σ H s)(e:H a=some (.dK ae))(ry:aO (kV k) u)(rz:aO z r)(l:b7 ae k=none)(hl:ae.length<sizeLine)(h:∀s',ah X a8 σ (ab H a (.dK (br ae k z))) s'->Q r s'):
  wpAny (model X.prog X.w) A (call (.builtin "dict.setdefault") [.ref a,u,r]) Q E s:=by
 obtain⟨z1,hd,vs,rel,dd⟩:=nU I.hok e
 have hv:valueAt vs k=none:=by
  have:=rel.val k
  rw[l]at this
  cases q:valueAt vs k with
  |none=>rfl
  |some _=>rw[q]at this;exact this.elim
 refine qZ FY dd.typeIs PySem.F.entry_dict_setdefault (PySem.F.args_dict_setdefault_3 _ _ _) (kt_meets_setdefault (dW X.prog X.w) a (iZ ry) hd r) ⟨vs,dd,by rw[<-rel.length];exact z1,(fun v q=>by rw[hv]at q;cases q),fun _ h' d' sb=>h _ ?_⟩
 have he:∃q,h'.get? a=some q:=let⟨o,_,_,g,_⟩:=d';⟨o,g⟩
 exact qh (ob:=.dK (br ae k z)) I (by rw[e];exact True.intro) sb he (sS (by have:=qf ae k z;omega) hd (rel.put k rz) d')
theorem mE(e:Rd H a (.dK ae)):mD H a:=.inl ⟨ae,e⟩
noncomputable def kZ:Bool->Str
 |true=>"loose"
 |false=>"lost"
end
section
variable{X:Cx}{K:W.Frag}{o e value:Expr}{f:Str}{pos pos':Pos}{ta tv:TE}
theorem cC(h:X.K=K)(he:PE X e ta)(hb:attributeBase e f X.env (eval e X.env)=eval e X.env:=by rfl):PE X (.Attribute e f pos) (vb K ta f):=by subst h;exact Hh he hb
theorem iK(h:X.K=K)(ha:PE X o ta)(hv:PE X value tv)(hs:swapsWith value (some (.Attribute o f pos')) pos.line X.env=pure false):PS X (.Assign [.Attribute o f pos'] value pos) (rL K ta tv f):=by subst h;exact Hi ha hv hs
noncomputable def Eg:List V->Hp->VK->Prop:=fun xs H Q=>∃a ae,xs=[V.ref a]/\Rd H a (.dK ae)/\Q (.int ae.length) H
theorem Lk:cO X (.builtin "len") Eg:=by
 intro a8 s σ H xs us Q I r h
 obtain⟨a,ae,rfl,e,q⟩:=h
 obtain⟨u,rfl,rx⟩:=fQ r
 cases(show u=Value.ref a from rx)
 exact KQ I e fun t s' I'=>⟨.int ae.length,H,I',⟨_,rfl⟩,q⟩
theorem Ll{H:Hp}{Q:VK}{a:Addr}{ae:List (aT×V)}(e:Rd H a (.dK ae))(q:Q (.int ae.length) H):Eg [.ref a] H Q:=⟨a,ae,rfl,e,q⟩
end
section
variable{X:Cx}{a8:List (Addr×Obj)}{σ:St}{H:Hp}{s:Shared}{scope:Scope}{own:List Str}{aB:List (Nat×Str)}{fp:List Addr}{C D:Addr}{h1:Heap}{m:Str->Option Value}
theorem Lm{tk:Nat}(I:ah X a8 σ H s)(S:bE X.N X.env.scope scope own aB)(hfp:∀b∈fp,cJ X a8 H b)(hfo:∀b∈fp,∃o,s.heap.get? b=some o)
  (old:∀b o,s.heap.get? b=some o->h1.get? b=some o) (hC:s.heap.objs.size<=C) (hns:h1.Ns C m):
  ah (gD X (own++aB.map (·.2)) scope (dC X.env.cells scope.names []) C s H fp) [] (fj own.length aB σ) H {s with heap:=h1,toks:=tk}:=by
 have sub:=fun{x:Str} {c:Addr}=>I.clos_sub (x:=x) (c:=c) S
 have lt:∀b∈fp,b<s.heap.objs.size:=fun b hb=>by obtain⟨o,e⟩:=hfo b hb;exact bg e
 have clt:∀x c,X.env.cells.lookup x=some c->c<s.heap.objs.size:=fun x c e=>by obtain⟨v,q⟩:=I.cell x c e;exact q.lt
 refine⟨⟨I.ok.mod,S.kind,I.ok.glob,I.ok.blt,hC,fun x y c e1 e2=>I.ok.inj x y c (sub e1) (sub e2),fun x hx=>?_,fun x c z=>absurd z (by show ¬(false=true);decide),I.ok.hd,I.ok.frames,.inl rfl,fun b hb=>?_,I.bs,cN I.ok.bsz I.sz,fun b o e hb=>?_,fun b hb=>?_,I.stack,I.stkFree⟩,
  rfl,I.bare,Un.kept old,⟨m,hns,fun i x v e1 e2 e3=>?_⟩,fun x c e=>?_,I.hok.fresh hC,fun x c e=>I.freeC x c (sub e),fun p hp=>?_,I.hok.kept old,?_⟩
 ·have hx':scope.names.lookup x=some .cell\/scope.names.lookup x=some .free:=by
   rcases hx with z|z
   ·exact pK (.inl rfl) z
   ·exact pK (.inr rfl) z
  rcases hx' with z|z
  ·exact absurd rfl (S.ocell _ (mem_of_lookup z))
  ·exact⟨_,pL _ _ (.inl (mem_of_lookup z))⟩
 ·exact⟨bP (cL (lt b hb) hC),fun x c e=>(hfp b hb).2.2.2.2.1 x c (sub e)⟩
 ·obtain⟨_,_,_,f3,_⟩:=hfp b hb
  rcases f3 with z|z
  ·exact I.ok.noex b o e z
  ·exact absurd (cL (bg e) (cN I.ok.bsz z)) (jA _)
 ·intro z
  rcases cE.mp (I.stkSub b z)with q|q
  ·exact(hfp b hb).2.1 q
  ·exact(hfp b hb).2.2.1 q
 ·have hi:own.length<=i:=by
   rcases dh i own.length with z|z
   ·unfold fj at e2
    rw[eZ (by simpa using z),zL]at e2
    split at e2<;>cases e2
   ·exact z
  unfold fj at e2
  rw[dY (by simpa using hi),aI,Gd]at e2
  replace e1:(own++aB.map (·.2))[i]?=some x:=e1
  rw[dY hi,aI]at e1
  cases q:aB[i - own.length]? with
  |none=>rw[q]at e1;cases e1
  |some p=>
   rw[q]at e1 e2
   have e1':p.2=x:=cm e1
   have e2':(σ[p.1]?).join=some v:=cm e2
   subst e1'
   have e4:σ[p.1]?=some (some v):=by
    cases r:σ[p.1]? with
    |none=>rw[r]at e2';cases e2'
    |some w=>rw[r]at e2';exact congrArg some e2'
   obtain⟨n1,n2⟩:=S.fres p (dE q)
   have hm:=mem_of_lookup n2
   have kd:=S.frees _ hm rfl
   obtain⟨m2,hn2,hl2⟩:=I.loc
   obtain⟨u,ru,lk⟩:=hl2 p.1 p.2 v n1 e4 (.inr kd)
   refine⟨u,ru,?_⟩
   rcases lk with⟨z,_⟩|⟨_,c,hc,hcell⟩
   ·have z':X.env.scope.names.lookup p.2=some .local :=z
    rcases kd with k|k
    ·have k':X.env.scope.names.lookup p.2=some .cell:=k
     rw[z']at k';cases k'
    ·have k':X.env.scope.names.lookup p.2=some .free:=k
     rw[z']at k';cases k'
   ·refine .inr ⟨vC n2,c,?_,?_⟩
    ·have:=pL (cells:=X.env.cells) (x:=p.2) scope.names [] (.inl hm)
     rw[hc]at this
     exact this
    ·obtain⟨o,ho,hd⟩:=hcell
     exact⟨o,old _ _ ho,hd⟩
 ·obtain⟨v,o,ho,hd⟩:=I.cell x c (sub e)
  exact⟨v,o,old _ _ ho,hd⟩
 ·exact absurd hp (by simp[gD])
 ·unfold fj
  show _=(own++aB.map (·.2)).length
  simp
end
noncomputable def qp(D:Addr)(J:It)(g:TG)(tk tv:TE)(Q:Hp->Prop)(σ0:St)(H0:Hp):Prop:=
 ∃W:Nat->Nat->St->Hp->Prop,(∃m,W 0 m σ0 H0)/\∀i m σ' H',W i m σ' H'->(J.stop i H'/\Q H')\/
  (J.go i H'/\∀x H2,J.yld i H' x H2->g x σ' H2 fun σ3 H3=>tk σ3 H3 fun kx H4=>tv σ3 H4 fun vx H5=>∃ae k,H5 D=some (.dK ae)/\kx=kV k/\ae.length<sizeLine/\∃m',m'<m/\W (i+1) m' σ3 (ab H5 D (.dK (br ae k vx))))
noncomputable def Eh(n:Nat)(aB:List (Nat×Str))(wi:TI)(g:TG)(tk tv:TE):TE:=fun σ H Q=>wi σ H fun J H1=>∀D,H1 D=none->qp D J g tk tv (fun H'=>Q (.ref D) H') (fj n aB σ) (ab H1 D (.dK []))
section
variable{X:Cx}{a8:List (Addr×Obj)}{σ:St}{scope:Scope}{own:List Str}{aB:List (Nat×Str)}{ke ve tg iter:Expr}{pos:Pos}{wi:TI}{g:TG}{tk tv:TE}
abbrev jX(ke ve tg iter:Expr)(scope:Scope)(pos:Pos):Expr:=.DictComp ke ve [⟨tg,iter,[],0⟩] scope pos
theorem Ln(it acc:Value)(env:Env)(D:Addr)(hacc:acc=.ref D):compTurn (jX ke ve tg iter scope pos) 0 it acc env=(standAt iter.pos >>=fun _=>pyNext it >>=fun r=>match r with
   |none=>pure (.done .next)
   |some v=>letOwnedTupleGo tg it v >>=fun _=>assign tg env v >>=fun _=>
    ((eval ke env >>=fun kv=>holding [kv] (eval ve env) >>=fun vv=>standAt {line:=ke.pos.line,col:=ke.pos.col,endLine:=ve.pos.endLine,endCol:=ve.pos.endCol} >>=fun _=>holding [kv,vv] (dictSet D kv vv)) >>=fun _=>again (.compLoop (jX ke ve tg iter scope pos) 0 it acc env))):=by
 subst hacc
 unfold jX
 unfold compTurn
 rfl
theorem Lo(hX:pN X)(hg:PG X tg g)(hk:PE X ke tk)(hv:PE X ve tv){s:Shared}{H:Hp}{it D:Addr}{fp:List Addr}{tn:Nat->Heap->Prop}{J:It}{Fin:Hp->Prop}{R:Result->Shared->Prop}(I:ah X [] σ H s)(T:iC X.prog X.w X.K tg J fp it tn)(st:tn 0 s.heap)(f9:∀b∈fp,cJ X [] H b)
  (nD:∀b∈fp,b≠D) (turns:qp D J g tk tv Fin σ H) (hR:∀s' σ' H',ah X [] σ' H' s'->Fin H'->R (.ok .next) s'):codeAny (model X.prog X.w) X.A (.compLoop (jX ke ve tg iter scope pos) 0 (.ref it) (.ref D) X.env) R s:=by
 obtain⟨W,⟨m0,w0⟩,turn⟩:=turns
 have hb:∀{A:Prop} {x:Value} {s':Shared},X.xe x s'->A:=fun{A x s'} z=>by rw[hX.xe]at z;exact z.elim
 have fx:∀{H':Hp} {b:Addr},b∈fp->H' b=none->cJ X [] H' b:=fun hb hn=>⟨hn,(f9 _ hb).2⟩
 refine codeAny_loop rfl (fun n s'=>∃i' σ' H',ah X [] σ' H' s'/\tn i' s'.heap/\(∀b∈fp,H' b=none)/\W i' n σ' H') (fun n s3 hI=>?_) m0 ⟨0,σ,H,I,st,fun b hb=>(f9 b hb).1,w0⟩
 show wpAny _ X.A ((compTurn (jX ke ve tg iter scope pos) 0 (.ref it) (.ref D) X.env).onRaise (fun x=>do noteFrame x X.env;theTreesLotGoes x)) _ _ s3
 refine wpAny_noted ?_
 rw[Ln _ _ _ D rfl]
 obtain⟨i',σ10,H10,I10,st10,fr10,w10⟩:=hI
 refine aa (kz (aa ?_))
 rcases turn i' n σ10 H10 w10 with⟨stop1,fin1⟩|⟨go1,step1⟩
 ·have dn:=T.done X rfl rfl rfl hX.calm i' _ s3 σ10 H10 (fun _ _=>False) I10 (fun b hb=>fx hb (fr10 b hb)) st10 stop1
  refine cV dn (fun r s11 ⟨hr,I11⟩=>?_) fun _ _ z=>z.elim
  subst hr
  exact ao (hR _ σ10 H10 I11 fin1)
 ·have itm1:=T.item X rfl rfl rfl hX.calm i' _ s3 σ10 H10 (fun _ _=>False) I10 (fun b hb=>fx hb (fr10 b hb)) st10 go1
  refine cV itm1 (fun r s11 ⟨u1,hr,h11⟩=>?_) fun _ _ z=>z.elim
  subst hr
  refine aa (cV h11 (fun _ s12 ⟨x1,H12,I12,r12,y12,st12,fr12⟩=>?_) fun _ _ z=>z.elim)
  have I12':=I12.pinned (fun b hb=>fx hb (fr12 b hb)) (T.obj _ _ st12)
  refine aa (cV (hg _ s12 σ10 H12 x1 u1 _ I12' r12 (step1 x1 H12 y12)) (fun _ s13 ⟨σ13,H13,I13,q13⟩=>?_) (fun _ _ z=>hb z))
  refine aa (aa (cV (hk _ s13 σ13 H13 _ I13 q13) (fun kv s14 ⟨kx,H14,I14,r14,q14⟩=>?_) (fun _ _ z=>hb z)))
  refine aa (c_ (cV (hv _ s14 σ13 H14 _ I14 q14) (fun vv s15 ⟨vx,H15,I15,r15,q15⟩=>?_) (fun _ _ z=>hb z)))
  obtain⟨ae,k,eD,ek,hl,m',hm',w'⟩:=q15
  subst ek
  obtain⟨z,hd,vs,rel,dd⟩:=nU I15.hok eD
  have hz:vs.length<=sizeLine:=by rw[<-rel.length];exact z
  have hl2:(br ae k vx).length<=sizeLine:=by have:=qf ae k vx;omega
  refine aa (kz (c_ (wpAny_dictSet_pairs (hsz:=hz) (iZ r14) dd fun h' dd' hs=>?_)))
  have he:∃q,h'.get? D=some q:=let⟨q,_,_,hq,_⟩:=dd';⟨q,hq⟩
  have I16:=qh (t':=s15.toks+1) I15 (by rw[eD];exact True.intro) hs he (sS hl2 hd (rel.put k r15) dd')
  refine ao ⟨rfl,m',hm',i'+1,σ13,_,I16.unpinned,T.keep _ _ _ st12 fun b hb o e=>?_,fun b hb=>?_,w'⟩
  ·exact(I16.pin (b,o) (dZ _ (dZ _ (kI hb e)))).1
  ·obtain⟨o,e,_⟩:=T.obj _ _ st12 b hb
   exact(I16.pin (b,o) (dZ _ (dZ _ (kI hb e)))).2.1
theorem Lp{s2:Shared}{H2:Hp}{it:Addr}{fp:List Addr}{tn:Nat->Heap->Prop}{J:It}{Fin:Addr->Hp->Prop}{RR:Value->Addr->Result->Shared->Prop}{E:Value->Shared->Prop}
  (hc:X.calm=true) (S:bE X.N X.env.scope scope own aB) (I2:ah X a8 σ H2 s2) (T:iC X.prog X.w X.K tg J fp it tn) (st2:tn 0 s2.heap) (f2:∀b∈fp,cJ X a8 H2 b)
  (hg:∀cl C s₂ H₂ fp,PG (gD X (own++aB.map (·.2)) scope cl C s₂ H₂ fp) tg g) (hk:∀cl C s₂ H₂ fp,PE (gD X (own++aB.map (·.2)) scope cl C s₂ H₂ fp) ke tk) (hv:∀cl C s₂ H₂ fp,PE (gD X (own++aB.map (·.2)) scope cl C s₂ H₂ fp) ve tv)
  (turns:∀D,H2 D=none->qp D J g tk tv (Fin D) (fj own.length aB σ) (ab H2 D (.dK [])))
  (hend:∀(D C:Addr) (s':Shared) (H':Hp) (m:Str->Option Value),s2.heap.objs.size<=C->ah X a8 σ H' s'->H' C=none->s'.heap.Ns C m->Fin D H'->RR (.ref D) C (.ok .next) s'):
  wpAny (model X.prog X.w) X.A newDict (fun acc s₃=>wpAny (model X.prog X.w) X.A (newFunctionEnv scope X.env.globals (dC X.env.cells scope.names []) [] X.env.qual none .none (some X.env)) (fun cenv s₄=>
   codeAny (model X.prog X.w) X.A (.compStart (jX ke ve tg iter scope pos) 0 (.ref it) acc {cenv with scope:=relabel scope X.env}) (RR acc cenv.locals) s₄) E s₃) E s2:=by
 refine iw (wpAny_newFunctionEnv S.ocell (by intro y hy;simp at hy) (fun h₁ hns₁ hsb₁=>?_) S.kind)
 dsimp only at hns₁ hsb₁⊢
 have I3:=I2.laid (a:=s2.heap.objs.size) (o:=.dK []) (t':=s2.toks) (fun _ _ q=>aW _ q) (aG _) (DY s2.heap I2.big)
 have hD0:H2 s2.heap.objs.size=none:=I2.hok.fresh (aG _)
 have eo:∀b o,s2.heap.get? b=some o->(s2.heap.push {cls:=.type "dict",data:=.dict #[]}).get? b=some o:=fun _ _ q=>aW _ q
 have esz:(s2.heap.push {cls:=.type "dict",data:=.dict #[]}).objs.size=s2.heap.objs.size+1:=eB ..
 generalize s2.heap.push {cls:=.type "dict",data:=.dict #[]}=HH at hns₁ hsb₁ I3 eo esz⊢
 generalize hD:s2.heap.objs.size=D at*
 have old:∀b o,HH.get? b=some o->h₁.get? b=some o:=fun b o e=>hsb₁.extBut b o (bP (bg e)) (aW _ e)
 have hfo:∀b∈fp,∃o,HH.get? b=some o:=fun b hb=>by obtain⟨o,e,_⟩:=T.obj _ _ st2 b hb;exact⟨o,eo _ _ e⟩
 have nD:∀b∈fp,b≠D:=fun b hb=>by obtain⟨o,e,_⟩:=T.obj _ _ st2 b hb;rw[<-hD];exact bP (bg e)
 have f3:∀b∈fp,cJ X a8 (ab H2 D (.dK [])) b:=fun b hb=>⟨by rw[az (nD b hb)];exact(f2 b hb).1,(f2 b hb).2⟩
 have I1:=Lm (tk:=s2.toks+([]:List (Str×Value)).length) I3 S f3 hfo old (aG _) hns₁
 have hg':=hg (dC X.env.cells scope.names []) HH.objs.size {s2 with heap:=HH,toks:=s2.toks} (ab H2 D (.dK [])) fp
 have hk':=hk (dC X.env.cells scope.names []) HH.objs.size {s2 with heap:=HH,toks:=s2.toks} (ab H2 D (.dK [])) fp
 have hv':=hv (dC X.env.cells scope.names []) HH.objs.size {s2 with heap:=HH,toks:=s2.toks} (ab H2 D (.dK [])) fp
 generalize hX':gD X (own++aB.map (·.2)) scope (dC X.env.cells scope.names []) HH.objs.size {s2 with heap:=HH,toks:=s2.toks} (ab H2 D (.dK [])) fp=X' at I1 hg' hk' hv'
 have eP:X'.prog=X.prog:=by rw[<-hX'];rfl
 have eW:X'.w=X.w:=by rw[<-hX'];rfl
 have eK:X'.K=X.K:=by rw[<-hX'];rfl
 have eA:X'.A=X.A:=by rw[<-hX'];rfl
 have eE:X'.env=compEnvC scope (dC X.env.cells scope.names []) HH.objs.size X.env:=by rw[<-hX'];rfl
 have eX:X'.xe=fun _ _=>False:=by rw[<-hX'];rfl
 have ePn:X'.pn=[]:=by rw[<-hX'];rfl
 have eC:X'.calm=true:=by rw[<-hX'];exact hc
 have eS:X'.s₀={s2 with heap:=HH,toks:=s2.toks}:=by rw[<-hX'];rfl
 have eH:X'.H₀=ab H2 D (.dK []):=by rw[<-hX'];rfl
 have eF:X'.fs=gy X.stack:=by rw[<-hX'];rfl
 have eEx:X'.ex=fp:=by rw[<-hX'];rfl
 have flt:∀b∈fp,b<HH.objs.size:=fun b hb=>by obtain⟨o,e⟩:=hfo b hb;exact bg e
 have stat:∀b∈fp,cJ X' [] (ab H2 D (.dK [])) b:=fun b hb=>by
  refine⟨(f3 b hb).1,?_,?_,.inl (by rw[eEx];exact hb),fun x c e=>?_,fun p hp=>?_⟩
  ·rw[eE];exact bP (flt b hb)
  ·rw[eF];intro z
   rcases cE.mp (I2.stkSub b z)with q|q
   ·exact(f2 b hb).2.1 q
   ·exact(f2 b hb).2.2.1 q
  ·rw[eE]at e
   exact(f2 b hb).2.2.2.2.1 x c (I2.clos_sub S e)
  ·rw[ePn]at hp;cases hp
 have loop:∀s₃:Shared,s₃={s2 with heap:=h₁,toks:=s2.toks+([]:List (Str×Value)).length}->
   codeAny (model X.prog X.w) X.A (.compLoop (jX ke ve tg iter scope pos) 0 (.ref it) (.ref D) (compEnvC scope (dC X.env.cells scope.names []) HH.objs.size X.env)) (RR (.ref D) HH.objs.size) s₃:=by
  rintro s₃ rfl
  have run:=Lo (R:=RR (.ref D) HH.objs.size) (iter:=iter) (scope:=scope) (pos:=pos) ⟨eX,ePn,eC⟩ hg' hk' hv' I1 (by rw[eP,eW,eK];exact T) (T.keep _ _ _ st2 fun b _ o e=>old _ _ (eo b o e)) stat nD (turns D hD0) (fun s4 σ3 H3 I4 fin=>by
    obtain⟨m4,hn4,_⟩:=I4.loc
    have b4:Un (gy X.stack) fp (ab H2 D (.dK [])) H3 HH s4.heap:=by
     have z:=I4.base
     rw[eF,eEx,eH,eS]at z
     exact z
    have o4:s4.os=s2.os:=by have z:=I4.os;rw[eS]at z;exact z
    have k4:cA X.prog X.w H3 s4.heap:=by have z:=I4.hok;rw[eP,eW]at z;exact z
    have Io:ah X a8 σ H3 s4:=I3.call' o4 b4 k4 I4.bare fun b hb=>by
     obtain⟨_,f1,_,f3,f4,f5⟩:=f2 b hb
     exact⟨f3,f1,f4,f5⟩
    refine hend _ _ s4 H3 m4 (by omega) Io ?_ ?_ fin
    ·have z:=I4.free;rw[eE]at z;exact z
    ·rw[eE]at hn4;exact hn4)
  rw[eP,eW,eA,eE]at run
  exact run
 exact codeAny_compStart_dict (loop _ rfl) (T.self X.A 0 _ _ _ (T.keep _ _ _ st2 fun b _ o e=>old _ _ (eo b o e)) (loop _ rfl))
theorem Lq(hc:X.calm=true)(S:bE X.N X.env.scope scope own aB)(hi:PI X tg iter wi)
  (hg:∀cl C s₂ H₂ fp,PG (gD X (own++aB.map (·.2)) scope cl C s₂ H₂ fp) tg g) (hk:∀cl C s₂ H₂ fp,PE (gD X (own++aB.map (·.2)) scope cl C s₂ H₂ fp) ke tk) (hv:∀cl C s₂ H₂ fp,PE (gD X (own++aB.map (·.2)) scope cl C s₂ H₂ fp) ve tv)
  (hs:∀x,foldedSetIterable iter X.env x=pure x:=by intro _;rfl):PE X (jX ke ve tg iter scope pos) (Eh own.length aB wi g tk tv):=by
 intro a8 s σ H Q I h
 show wpAny _ _ (comprehension (jX ke ve tg iter scope pos) scope X.env _ newDict false (eval iter X.env) none) _ _ s
 refine G0 (use:=none) rfl hs (vD (I.clos_cells S)) S.kind S.locs (aD (hi a8 s σ H _ I h) fun v s1 h1=>aD h1 fun itv s2 h2=>?_)
 obtain⟨it,fp,tn,J,H2,e,I2,T,st2,f2,turns⟩:=h2
 subst e
 refine Lp (RR:=fun acc C=>compPost (model X.prog X.w) X.A X.xe none (EP X a8 σ Q) acc C) hc S I2 T st2 f2 hg hk hv turns ?_
 intro D C s' H' m hC Io nC nsC fin
 refine⟨m,nsC,fun h' hs'=>?_⟩
 have J1:ah X a8 σ H' {s' with heap:=h',toks:=s'.toks}:=Io.chg (ch:=[C]) (fun b hb=>by
  have e:b=C:=by simpa using hb
  rw[e];exact I2.fpOk hC nC) fun b o hb e=>hs'.extBut _ _ (by simpa using hb) e
 exact⟨.ref D,_,J1,rfl,fin⟩
end
section
variable{σ:St}{H:Hp}{Q:VK}{n:Nat}{aB:List (Nat×Str)}{wi:TI}{g:TG}{tk tv:TE}
theorem Lr(q:wi σ H fun J H1=>∀D,H1 D=none->qp D J g tk tv (fun H'=>Q (.ref D) H') (fj n aB σ) (ab H1 D (.dK []))):Eh n aB wi g tk tv σ H Q:=q
theorem Ls{D:Addr}{J:It}{Fin:Hp->Prop}{H0:Hp}(W:Nat->St->Hp->Prop)(n:Nat)(w0:W 0 σ H0)(fin:∀σ' H',W n σ' H'->J.stop n H'/\Fin H')
  (step:∀i σ' H',i<n->W i σ' H'->J.go i H'/\∀x H2,J.yld i H' x H2->g x σ' H2 fun σ3 H3=>tk σ3 H3 fun kx H4=>tv σ3 H4 fun vx H5=>∃ae k,H5 D=some (.dK ae)/\kx=kV k/\ae.length<sizeLine/\∃m',m'<n - i/\(i+1<=n/\m'=n - (i+1)/\W (i+1) σ3 (ab H5 D (.dK (br ae k vx))))):qp D J g tk tv Fin σ H0:=by
 refine⟨fun i m σ' H'=>i<=n/\m=n - i/\W i σ' H',⟨n,b_ _,rfl,w0⟩,?_⟩
 rintro i m σ' H' ⟨hi,rfl,hw⟩
 rcases dh i n with hlt|hge
 ·exact .inr (step i σ' H' hlt hw)
 ·obtain rfl:i=n:=by omega
  exact .inl (fin _ _ hw)
end
section
variable{X:Cx}{K:W.Frag}{o value:Expr}{f:Str}{pos tpos:Pos}{ta tv:TE}
theorem Lu{op:Operator}{rd:V->V->Hp->VK->Prop}(h:X.K=K)(ha:PE X o ta)(hv:PE X value tv)(hop:BF X op rd):PS X (.AugAssign (.Attribute o f tpos) op value pos) (rM K ta tv rd f):=by subst h;exact Hj ha hv hop
theorem Lv{σ:St}{H:Hp}{D:gY}{rd:V->V->Hp->VK->Prop}(q:ta σ H fun x H1=>∃a C dx fs v,x=.ref a/\H1 a=some (.ins C dx fs)/\dA K C/\di K C f/\fs.lookup f=some v/\
 tv σ H1 fun y H2=>rd v y H2 fun z H3=>∃dx' fs',H3 a=some (.ins C dx' fs')/\fs'.length<1000/\D.nx σ (ab H3 a (.ins C dx' (bw f z fs')))):rM K ta tv rd f D σ H:=q
end
inductive mF where
 |non
 |w (b:Bool)
 |boat (nm:Int)
deriving DecidableEq
section
variable{X:Cx}{a8:List (Addr×Obj)}{σ:St}{H:Hp}{s:Shared}
noncomputable def mG(K:W.Frag)(H:Hp):V->mF->Prop
 |.non,.non=>True
 |.ref p,.w b=>ax K H p [.str (kZ b)]
 |.ref p,.boat nm=>ax K H p [.str "boat",.int nm]
 |_,_=>False
noncomputable def jY:mF->PyData
 |.non=>.none
 |.w b=>.tuple [.str (kZ b)]
 |.boat nm=>.tuple [.str "boat",.int nm]
theorem sZ{x:V}{o:mF}{v:Value}(I:ah X a8 σ H s)(h:mG X.K H x o)(r:aO x v):∃as,Reads s.heap v (jY o) as:=by
 cases o with
 |non=>
  cases x<;>first|exact h.elim|skip
  cases(show v=Value.none from r);exact⟨_,.none⟩
 |w b=>
  cases x<;>first|exact h.elim|skip
  rename_i p
  cases(show v=Value.ref p from r)
  obtain⟨ak,rv,⟨ob,g,c,n,dt⟩,_⟩:=I.tuple h
  cases rv with
  |cons r1 t=>
   cases t
   obtain⟨t,rfl⟩:=r1
   exact⟨_,.tuple g c dt (.cons (.str _ _) .nil)⟩
 |boat nm=>
  cases x<;>first|exact h.elim|skip
  rename_i p
  cases(show v=Value.ref p from r)
  obtain⟨ak,rv,⟨ob,g,c,n,dt⟩,_⟩:=I.tuple h
  cases rv with
  |cons r1 t=>
   cases t with
   |cons r2 t2=>
    cases t2
    obtain⟨t,rfl⟩:=r1
    obtain⟨t',rfl⟩:=r2
    exact⟨_,.tuple g c dt (.cons (.str _ _) (.cons (.int _ _) .nil))⟩
theorem s_(o:mF):SeqAt.shaped (jY o)=true:=by
 cases o with
 |non=>decide+kernel
 |w b=>cases b<;>decide+kernel
 |boat nm=>
  have e:PyData.strOk (Str.ofString "boat")=true:=by decide+kernel
  simp[jY,SeqAt.shaped,PyData.canLay0,PyData.depth,PyData.canLayAll0,PyData.depthAll,e]
theorem Ei(a b:mF):PyData.eqv (jY a) (jY b)=decide (a=b):=by
 cases a with
 |non=>cases b with
  |non=>decide+kernel
  |w v=>cases v<;>decide+kernel
  |boat nm=>rfl
 |w x=>cases b with
  |non=>cases x<;>decide+kernel
  |w v=>cases x<;>cases v<;>decide+kernel
  |boat nm=>cases x<;>simp[jY,kZ,PyData.eqv,PyData.eqvAll]
 |boat x=>cases b with
  |non=>rfl
  |w v=>cases v<;>simp[jY,kZ,PyData.eqv,PyData.eqvAll]
  |boat y=>
   by_cases e:x=y
   ·subst e;simp[jY,PyData.eqv,PyData.eqvAll]
   ·simp[jY,PyData.eqv,PyData.eqvAll,e]
noncomputable def wW(K:W.Frag)(neg:Bool):R2:=fun x y H Q=>∃a b,mG K H x a/\mG K H y b/\Q (.bl (neg ^^ decide (a=b))) H
theorem Lw{K:W.Frag}(h:X.K=K)(hu:X.A.units+64<cLine):bJ X (compareOp .Eq) (wW K false):=by
 subst h
 intro a8 s σ H x y v u Q I rx ry h
 obtain⟨a,b,h1,h2,k⟩:=h
 obtain⟨as,r1⟩:=sZ I h1 rx
 obtain⟨bs,r2⟩:=sZ I h2 ry
 exact eq_dataH r1 r2 (s_ a) (s_ b) hu ⟨.bl _,H,I,rfl,by rw[Ei];simpa using k⟩
theorem Lx{K:W.Frag}(h:X.K=K)(hu:X.A.units+64<cLine):bJ X (compareOp .NotEq) (wW K true):=by
 subst h
 intro a8 s σ H x y v u Q I rx ry h
 obtain⟨a,b,h1,h2,k⟩:=h
 obtain⟨as,r1⟩:=sZ I h1 rx
 obtain⟨bs,r2⟩:=sZ I h2 ry
 exact ne_dataH r1 r2 (s_ a) (s_ b) hu ⟨.bl _,H,I,rfl,by rw[Ei];simpa using k⟩
theorem wX{K:W.Frag}{neg:Bool}{x y:V}{a b:mF}{Q:VK}(h1:mG K H x a)(h2:mG K H y b)(k:Q (.bl (neg ^^ decide (a=b))) H):wW K neg x y H Q:=⟨a,b,h1,h2,k⟩
end
section
variable{X:Cx}{a8:List (Addr×Obj)}{σ:St}{H:Hp}{s:Shared}{a:Addr}{ae:List (aT×V)}{k:aT}{u r:Value}{A:Around}{E:Value->Shared->Prop}
theorem Ly{z:V}{Q:Value->Shared->Prop}(I:ah X a8 σ H s)(e:H a=some (.dK ae))(ry:aO (kV k) u)(l:b7 ae k=some z)(h:∀w' s',ah X a8 σ H s'->aO z w'->Q w' s'):
  wpAny (model X.prog X.w) A (call (.builtin "dict.setdefault") [.ref a,u,r]) Q E s:=by
 obtain⟨z1,hd,vs,rel,dd⟩:=nU I.hok e
 obtain⟨w',hw,rw'⟩:=eI.some_of (v:=z) (o:=valueAt vs k) (by rw[<-l];exact rel.val k)
 refine qZ FY dd.typeIs PySem.F.entry_dict_setdefault (PySem.F.args_dict_setdefault_3 _ _ _) (kt_meets_setdefault (dW X.prog X.w) a (iZ ry) hd r) ⟨vs,dd,by rw[<-rel.length];exact z1,(fun v q=>?_),fun q=>by rw[hw]at q;cases q⟩
 rw[hw]at q
 cases q
 exact h _ _ (I.tok _) rw'
noncomputable def Ej(td ty tx:TE):TE:=fun σ H Q=>td σ H fun x H1=>∃a,x=.ref a/\mD H1 a/\ty σ H1 fun y H2=>tx σ H2 fun z H3=>∃ae k,H3 a=some (.dK ae)/\y=kV k/\((b7 ae k=none/\ae.length<sizeLine/\Q z (ab H3 a (.dK (br ae k z))))\/∃v,b7 ae k=some v/\Q v H3)
theorem Lz{o e f:Expr}{c6 c9:Pos}{td ty tx:TE}(ho:PE X o td)(he:PE X e ty)(hf:PE X f tx)(m:M2 X o "setdefault" c6 e f c9):PE X (.Call (.Attribute o "setdefault" c6) [e,f] [] c9) (Ej td ty tx):=by
 intro a8 s σ H Q I h
 refine wpAny_Call_method m.base m.few m.line G5 FY PySem.F.type_dict_setdefault (aD (ho a8 s σ H _ I h) fun u s1 ⟨x,H1,I1,rx,a,ex,d,q1⟩=>?_)
 subst ex
 obtain rfl:u=Value.ref a:=rx
 obtain⟨t1,t2,_⟩:=wO I1 d
 refine⟨t1,t2,?_⟩
 rw[m.trees]
 refine zM rfl (zQ (oC (aD (he a8 s1 σ H1 _ I1 q1) fun iv s2 ⟨y,H2,I2,ry,q2⟩=>
  oC (aD (hf a8 s2 σ H2 _ I2 q2) fun fv s3 ⟨z,H3,I3,rz,ae,k,e3,ey,q3⟩=>zW ?_))))
 subst ey
 rcases q3 with⟨l,hl,q3⟩|⟨v,l,q3⟩
 ·exact Lj I3 e3 ry rz l hl fun s4 I4=>⟨_,_,I4,rz,q3⟩
 ·exact Ly I3 e3 ry l fun w' s4 I4 rw'=>⟨v,_,I4,rw',q3⟩
theorem Ek{td ty tx:TE}{Q:VK}(q:td σ H fun x H1=>∃a,x=.ref a/\mD H1 a/\ty σ H1 fun y H2=>tx σ H2 fun z H3=>∃ae k,H3 a=some (.dK ae)/\y=kV k/\((b7 ae k=none/\ae.length<sizeLine/\Q z (ab H3 a (.dK (br ae k z))))\/∃v,b7 ae k=some v/\Q v H3)):Ej td ty tx σ H Q:=q
end
section
variable{X:Cx}{a8:List (Addr×Obj)}{σ:St}{H:Hp}{s:Shared}
noncomputable def El:R2:=fun x y H Q=>∃(p q:Addr) (xs:List V),x=.ref p/\y=.ref q/\H p=some (.lst xs)/\H q=some (.lst [])/\Q (.bl xs.isEmpty) H
theorem LA(hu:X.A.units+64<cLine):bJ X (compareOp .Eq) El:=by
 intro a8 s σ H x y v u Q I rx ry h
 obtain⟨p,q,xs,rfl,rfl,h1,h2,k⟩:=h
 cases(show v=Value.ref p from rx)
 cases(show u=Value.ref q from ry)
 obtain⟨us,r1,l1⟩:=hZ I h1
 obtain⟨zs,r2,l2⟩:=hZ I h2
 have e1:=r1.length
 have e2:=r2.length
 cases xs with
 |nil=>
  refine SeqAt.RcAt.lists (A:=X.A) (e:=fun _=>true) l1 l2 (by simp at e1 e2⊢;omega) (by omega) (fun j h1 h2=>?_) X.prog X.w _ _ ?_
  ·simp at e1 h1;omega
  ·rw[show((List.range us.toArray.size).all fun _=>true)=true by simp]
   exact⟨.bl _,H,I,rfl,k⟩
 |cons x t=>
  refine SeqAt.RcAt.lists_lengths l1 l2 (by simp at e1 e2⊢;omega) (by omega) X.prog X.w _ _ ?_
  exact⟨.bl false,H,I,rfl,k⟩
theorem Em{Q:VK}{p q:Addr}{xs:List V}(h1:H p=some (.lst xs))(h2:H q=some (.lst []))(k:Q (.bl xs.isEmpty) H):El (.ref p) (.ref q) H Q:=⟨p,q,xs,rfl,rfl,h1,h2,k⟩
noncomputable def En:R2:=fun x y H Q=>∃(p q:Addr) (ns ms:List Int),x=.ref p/\y=.ref q/\H p=some (.tup (ns.map V.int))/\H q=some (.tup (ms.map V.int))/\Q (.bl (!decide (ns=ms))) H
theorem Eo(hu:X.A.units+64<cLine):bJ X (compareOp .NotEq) En:=by
 intro a8 s σ H x y v u Q I rx ry h
 obtain⟨p,q,ns,ms,rfl,rfl,h1,h2,k⟩:=h
 cases(show v=Value.ref p from rx)
 cases(show u=Value.ref q from ry)
 obtain⟨us,r1,l1⟩:=kU I h1
 obtain⟨zs,r2,l2⟩:=kU I h2
 have e1:=r1.length
 have e2:=r2.length
 rw[ar]at e1 e2
 refine SeqAt.RcNeAt.tuples (A:=X.A) (s:=s) (e:=fun j=>decide (ns[j]?=ms[j]?)) l1 l2 (by omega) (fun j z1 z2=>by simpa using sI (A:=X.A.in1) (s:=s) r1 r2 j (by simpa using z1) (by simpa using z2)) X.prog X.w _ _ ?_
 have er:((List.range (min us.toArray.size zs.toArray.size)).all (fun j=>decide (ns[j]?=ms[j]?)) && (us.toArray.size==zs.toArray.size))=decide (ns=ms):=by
  rw[ck,ck,<-e1,<-e2]
  by_cases hl:ns.length=ms.length
  ·rw[<-hl,Nat.min_self,sH hl,zZ,Bool.and_true]
  ·rw[cz (fun z=>hl (by rw[z])),Bool.and_eq_false_iff]
   exact .inr (by simpa using hl)
 rw[er]
 exact⟨.bl _,H,I,rfl,k⟩
theorem Ep{Q:VK}{p q:Addr}{ns ms:List Int}(h1:H p=some (.tup (ns.map V.int)))(h2:H q=some (.tup (ms.map V.int)))(k:Q (.bl (!decide (ns=ms))) H):En (.ref p) (.ref q) H Q:=⟨p,q,ns,ms,rfl,rfl,h1,h2,k⟩
end
end L2
namespace K37
open PySem L2
variable{P:Program}{w:World}{K:W.Frag}{mg:Str->Option Value}{base:Heap}{CY CD aL:Addr}
noncomputable def bf(i:Nat):Stmt:=PySem.Challenge.pw_argosy_k37_whole_a_plan_done_in_a_yard.main.body.getD i (.Pass ⟨0,0,0,0⟩)
noncomputable def yF(most day:Int)(dl dc de db:Addr):List (Str×V):=[("most",.int most),("day",.int day),("lines",.ref dl),("chains",.ref dc),("ends",.ref de),("debts",.ref db)]
noncomputable def dF(dn dt:Addr)(c:Int):List (Str×V):=[("shares",.int 1),("by_name",.ref dn),("by_timber",.ref dt),("coins",.int c),("settled",.int 0)]
section
variable{most day d2 c c2:Int}{dl dc de db dn dt:Addr}
theorem LB:(yF most day dl dc de db).lookup ("most":Str)=some (.int most):=by kernel_rfl
theorem LC:(yF most day dl dc de db).lookup ("day":Str)=some (.int day):=by kernel_rfl
theorem LD:(yF most day dl dc de db).lookup ("lines":Str)=some (.ref dl):=by kernel_rfl
theorem LF:(yF most day dl dc de db).lookup ("chains":Str)=some (.ref dc):=by kernel_rfl
theorem LG:(yF most day dl dc de db).lookup ("ends":Str)=some (.ref de):=by kernel_rfl
theorem LH:(yF most day dl dc de db).lookup ("debts":Str)=some (.ref db):=by kernel_rfl
theorem LI:(dF dn dt c).lookup ("shares":Str)=some (.int 1):=by kernel_rfl
theorem LJ:(dF dn dt c).lookup ("by_name":Str)=some (.ref dn):=by kernel_rfl
theorem Er:(dF dn dt c).lookup ("by_timber":Str)=some (.ref dt):=by kernel_rfl
theorem Es:(dF dn dt c).lookup ("coins":Str)=some (.int c):=by kernel_rfl
theorem LK:bw "day" (.int d2) (yF most day dl dc de db)=yF most d2 dl dc de db:=by kernel_rfl
theorem LL:bw "coins" (.int c2) (dF dn dt c)=dF dn dt c2:=by kernel_rfl
theorem LM:bw "debts" (.ref db) (bw "ends" (.ref de) (bw "chains" (.ref dc) (bw "lines" (.ref dl) (bw "day" (.int day) (bw "most" (.int most) [])))))=yF most day dl dc de db:=by kernel_rfl
theorem LN:bw "settled" (.int 0) (bw "coins" (.int 0) (bw "by_timber" (.ref dt) (bw "by_name" (.ref dn) (bw "shares" (.int 1) []))))=dF dn dt 0:=by kernel_rfl
end
local macro_rules| `(tactic|walk_at "s")=> `(tactic|first|((with_reducible refine' du ?k1 ?_);(case k1=>exact rfl))|(with_reducible first|refine ml ?_|refine IR ?_|refine jf ?_|refine IS ?_|refine Ck ?_|refine IU ?_|refine gE ?_|refine vQ ?_|refine ID ?_|refine nK ?_|refine IE ?_|refine IH ?_|refine Ci ?_|refine pU ?_|refine J8 ?_|refine II ?_|refine IJ ?_|refine IK ?_|refine Cj ?_|refine IL ?_|refine IM ?_|refine IP ?_|refine IQ ?_|refine i_ifE ?_|refine fU ?_|refine IV ?_|refine vR ?_|refine IW ?_|refine IX ?_|refine IY ?_|refine IZ ?_|refine I_ ?_|refine rZ ?_|refine Cm ?_|refine mm ?_|refine J5 ?_|refine J6 ?_|refine J7 ?_|refine Jg ?_|refine Ja ?_|refine Jb ?_|refine Jc ?_|refine Jd ?_|refine Je ?_|refine K0 ?_|refine J' ?_|refine K7 ?_|refine i_max2 ?_|refine K5 ?_|refine K8 ?_|refine i_rev ?_|refine Kf ?_|refine i_itS ?_|refine i_inStr ?_|refine i_find ?_|refine Ko ?_|refine Im ?_|refine i_bm0 ?_|refine i_par ?_|refine i_two ?_|refine i_ip ?_|refine i_min3 ?_|refine KZ ?_|refine K_ ?_|refine K' ?_|refine L0 ?_|refine i_dget1 ?_|refine L5 ?_|refine L6 ?_|refine L7 ?_|refine L8 ?_|refine DE ?_|refine Ip ?_|refine i_tabI ?_|refine i_tabin ?_|refine E9 ?_|refine sX ?_|refine Lc ?_|refine Le ?_|refine Lf ?_|refine Li ?_|refine i_dsetd ?_)|((with_reducible refine' IF ?k1 ?_);(case k1=>exact rfl))|((with_reducible refine' IG ?k1 ?_);(case k1=>exact rfl))|((with_reducible refine' nL ?k1 ?k2 ?_);(case k1=>first|exact ai.of (by assumption)|assumption|exact ai.of aq);(case k2=>exact rfl))|((with_reducible refine' pV ?k1 ?k2 ?_);(case k1=>first|exact ax.of (by assumption)|assumption|exact ax.of aq);(case k2=>exact rfl))|((with_reducible refine' J4 ?k1 ?k2 ?_);(case k1=>first|assumption|exact aq);(case k2=>exact rfl))|((with_reducible refine' ig ?k1 ?k2 ?_);(case k1=>first|exact ax.of (by assumption)|assumption|exact ax.of aq);(case k2=>exact rfl))|((with_reducible refine' sf ?k1 ?_);(case k1=>first|exact ai.of (by assumption)|assumption|exact ai.of aq))|((with_reducible refine' Jf ?k1 ?_);(case k1=>first|exact ax.of (by assumption)|assumption|exact ax.of aq))|((with_reducible refine' Jh ?k1 ?_);(case k1=>first|exact ai.of (by assumption)|assumption|exact ai.of aq))|((with_reducible refine' J9 ?k1 ?_);(case k1=>first|exact ai.of (by assumption)|assumption|exact ai.of aq))|((with_reducible refine' Ji ?k1 ?k2 ?_);(case k1=>assumption);(case k2=>decide))|((with_reducible refine rY ?k1 ?_);(case k1=>first|(show(0:Int)<_;decide)|(show Bp _ _;exact⟨by decide,by decide,by decide⟩)|(show v3 _ _;exact⟨by decide,by decide⟩)|(show m6 _ _;exact .inr ⟨by decide,by decide⟩)|(show m6 _ _;exact .inl ⟨by decide,by decide⟩)|(show(0:Int)<_;omega)|(show v3 _ _;exact⟨by omega,by omega⟩)|(show m6 _ _;exact .inr ⟨by omega,by omega⟩)|(show m6 _ _;exact .inl ⟨by omega,by omega⟩)))|((with_reducible refine' KF ?k1 ?_);(case k1=>exact rfl))|((with_reducible refine' Ea ?k1 ?k2 ?k3 ?k4 ?_);(case k1=>assumption);(case k2=>first|exact LB|exact LC|exact LD|exact LF|exact LG|exact LH|exact LI|exact LJ|exact Er|exact Es|exact df_settled);(case k3=>assumption);(case k4=>assumption))|((with_reducible refine' qo ?k1 ?k2 ?k3 ?k4 ?_);(case k1=>first|assumption|exact aq);(case k2=>first|decide|exact fN (by kernel_rfl));(case k3=>assumption);(case k4=>assumption))|((with_reducible refine' Ld ?k1 ?k2 ?_);(case k1=>assumption);(case k2=>kernel_rfl))|((with_reducible refine' i_isiK ?k1 ?k2 ?_);(case k1=>first|assumption|exact Or.inl (by assumption));(case k2=>decide))|((with_reducible refine' Ll ?k1 ?_);(case k1=>first|assumption|exact Rd.of (by assumption))))| `(tactic|walk_at "r")=> `(tactic|repeat walk_at "s")
noncomputable def cj(H:Hp)(d c:Addr):Prop:=∃(ns:List Int) (a:Nat) (r e:Int),H d=some (.lst [.ref c,.int a,.int r,.int e])/\H c=some (.lst (ns.map V.int))/\0<=r/\0<=e
noncomputable def wY(K:W.Frag):Sp:=fun vs H Q _=>∃(a:Addr) (ns:List Int),vs=[.ref a]/\ai K H a (ns.map V.int)/\ns.length<=63/\∀d c H',aw H H'->H d=none->H c=none->cj H' d c->Q (.ref d) H'
noncomputable def nY:Sp:=fun vs H Q _=>∃(d c:Addr) (m:Int),vs=[.ref d,.int m]/\cj H d c/\0<m/\m.natAbs<2 ^ 500/\∀r H',0<=r->r<m->cj H' d c->cI d H H'->Q (.int r) H'
theorem cj.same{H H':Hp}{d c:Addr}(s:aw H H')(h:cj H d c):cj H' d c:=by
 obtain⟨ns,a,r,e,h1,h2,h3,h4⟩:=h
 exact⟨ns,a,r,e,s _ _ h1,s _ _ h2,h3,h4⟩
theorem cj.put{H:Hp}{d c b:Addr}{o:HO}(h:cj H d c)(n1:b≠d)(n2:b≠c):cj (ab H b o) d c:=by
 obtain⟨ns,a,r,e,h1,h2,h3,h4⟩:=h
 exact⟨ns,a,r,e,by rw[az (Ne.symm n1)];exact h1,by rw[az (Ne.symm n2)];exact h2,h3,h4⟩
theorem cj.is{H:Hp}{d c:Addr}(h:cj H d c):(∃o,H d=some o)/\∃o,H c=some o:=by
 obtain⟨ns,a,r,e,h1,h2,h3,h4⟩:=h
 exact⟨⟨_,h1⟩,⟨_,h2⟩⟩
theorem cj.ne_tup{H:Hp}{d c p:Addr}{xs:List V}(h:cj H d c)(e:H p=some (.tup xs)):p≠d:=by
 obtain⟨ns,a,r,e',h1,_⟩:=h
 exact bB e h1 (by intro z;cases z)
abbrev wZ:Stmt:=bf 83
theorem LO:a_ ["_law_script"] ["_law_script"] (aC wZ):=bc
theorem LP{f:Addr}{fd:FuncData}(F:aX K "_law_begin" "_law_begin" wZ f fd)(T:Blt mg):aK P w K mg base aV 1 f fd ["_law_script"] (wY K):=by
 refine F.ok LO (fun vs H Q E h=>?_) (fun aM A outer s H vs Q E hr h=>?_)
 ·obtain⟨a,ns,rfl,_⟩:=h
  rfl
 ·obtain⟨a,ns,rfl,hS,hl,k⟩:=h
  refine⟨_,(aA (aU (fR (a9 (dJ (nM (K:=K) rfl) (by rfl) T.z_list mh (a9 (nE (pW (K:=K) rfl) (pv 0) nA (nB ay)) ag)) (a9 ay (a9 ay (a9 ay ag))))))),?_⟩
  walk_at "r"
  intro p hp
  have s1:=au (o:=.lst (fh (ns.map V.int) none (some 63))) hp
  walk_at "r"
  intro c hc
  have s2:=au (o:=.lst (fh (ns.map V.int) none (some 63))) hc
  walk_at "r"
  refine⟨by show 4<=sizeLine;decide,fun d hd=>?_⟩
  have s3:=au (o:=.lst [.ref c,.int 0,.int 0,.int 17]) hd
  have e:fh (ns.map V.int) none (some 63)=(ns.take 63).map V.int:=by
   unfold fh
   rw[HT.sIx_none,Aa,ar,List.map_take]
   have z:HT.sIx ns.length ns.length (some (63:Int))=min 63 ns.length:=HT.sIx_nat ns.length ns.length 63
   rw[z,Nat.sub_zero]
   rcases Nat.le_total 63 ns.length with q|q
   ·rw[qW q]
   ·rw[Nat.min_eq_right q,gn (by simp),gn (by simpa using q)]
  refine k d c _ ((s1.trans s2).trans s3) ((s1.trans s2).free hd) (s1.free hc) ⟨ns.take 63,0,0,17,aq,?_,by decide,by decide⟩
  rw[<-e]
  exact s3 _ _ aq
abbrev w_:Stmt:=bf 84
theorem x6:a_ ["_law_draw","_law_many","_law_cell","_law_got"] ["_law_draw","_law_many"] (aC w_):=bc
theorem LQ{f:Addr}{fd:FuncData}(F:aX K "_law_take" "_law_take" w_ f fd)(T:Blt mg):aK P w K mg base aV 1 f fd ["_law_draw","_law_many"] nY:=by
 refine F.ok x6 (fun vs H Q E h=>?_) (fun aM A outer s H vs Q E hr h=>?_)
 ·obtain⟨d,c,m,rfl,_⟩:=h
  rfl
 ·obtain⟨d,c,m,rfl,⟨ns,a,r,e,h1,h2,h3,h4⟩,hm,hm2,k⟩:=h
  have ncd:=Cg h1 h2
  refine⟨_,(ie (bQ ((AZ (c7 v9 (cp (fI (K:=K) rfl) (pv 0) ay (fun _ _=>rfl)) (pv 1) (bO _)) (AY (c7 v9 (cp (fI (K:=K) rfl) (pv 0) ay (fun _ _=>rfl)) (bp (cQ (K:=K) rfl) (by rfl) T.z_len cB (a9 (cp (fI (K:=K) rfl) (pv 0) ay (fun _ _=>rfl)) ag)) (bO _))))).pt (aF (bR (i:=2) x6.nd rfl (Or.inl rfl) (cp (fI (K:=K) rfl) (cp (fI (K:=K) rfl) (pv 0) ay (fun _ _=>rfl)) (cp (fI (K:=K) rfl) (pv 0) ay (fun _ _=>rfl)) (fun _ _=>rfl)))
   (aF (iU (bu dI (cp (fI (K:=K) rfl) (pv 0) ay (fun _ _=>rfl)) ay) (nh (pv 0) ay nF))
   (aF (iU ay (nh (pv 0) ay nF))
   (aA (bQ (c7 By (bp vS (by rfl) T.z_abs vP (a9 (pv 2) ag)) (bu Bq ay ay) (bO _)) (aA (iU (bp vS (by rfl) T.z_abs vP (a9 (pv 2) ag)) (nh (pv 0) ay nF))) (aA (iU (bu nk (bu dI (bu dI (bu ja (cp (fI (K:=K) rfl) (pv 0) ay (fun _ _=>rfl)) ay) (bu ja (bu nk (pv 2) ay) ay)) ay) ay) (nh (pv 0) ay nF)))))))) bU)
   (aF (bQ (c7 By (cp (fI (K:=K) rfl) (pv 0) ay (fun _ _=>rfl)) (pv 1) (bO _)) (aF (bR (i:=3) x6.nd rfl (Or.inl rfl) (bu nk (cp (fI (K:=K) rfl) (pv 0) ay (fun _ _=>rfl)) (pv 1)))
   (aF (iU (bu vy (cp (fI (K:=K) rfl) (pv 0) ay (fun _ _=>rfl)) (pv 1)) (nh (pv 0) ay nF))
   (aA (aU (pv 3))))) bU)
   (aF (iU (bu nk (bu dI (bu ja (cp (fI (K:=K) rfl) (pv 0) ay (fun _ _=>rfl)) ay) ay) ay) (nh (pv 0) ay nF))
   (aA (aU (bu nk (bu GV (cp (fI (K:=K) rfl) (pv 0) ay (fun _ _=>rfl)) ay) (pv 1))))))),?_⟩
  refine⟨fun σ' H'=>(∃v,σ'=[some (.ref d),some (.int m),v,none])/\cj H' d c/\cI d H H',?_,?_⟩
  ·walk_at "r"
   refine kP (fun _=>?_) (fun _=>?_)
   ·walk_at "r"
    refine kP (fun hlt=>?_) (fun _=>?_)
    ·have hlt':a<ns.length:=by
      have z:(a:Int)<((ns.map V.int).length:Int):=fN hlt
      rw[ar]at z
      omega
     have hc0:iF (ns.map V.int) (a:Int)=some (.int (ns[a]'hlt')):=vg (by rw[aI,aN hlt'];rfl)
     generalize ns[a]'hlt'=cell at hc0
     walk_at "r"
     refine nL (ai.of h2) hc0 ?_
     walk_at "r"
     refine kP (fun _=>?_) (fun _=>?_)
     ·walk_at "r"
      refine⟨⟨_,rfl⟩,⟨ns,a+1,_,e,aq,?_,?_,h4⟩,hW.trans (hW.trans hW)⟩
      ·rw[az ncd,az ncd,az ncd]
       exact h2
      ·split<;>omega
     ·walk_at "r"
      refine⟨⟨_,rfl⟩,⟨ns,a+1,0,_,aq,?_,by decide,?_⟩,hW.trans (hW.trans hW)⟩
      ·rw[az ncd,az ncd,az ncd]
       exact h2
      ·exact uK _ (by decide)
    ·exact⟨⟨_,rfl⟩,⟨ns,a,r,e,h1,h2,h3,h4⟩,cI.refl⟩
   ·exact⟨⟨_,rfl⟩,⟨ns,a,r,e,h1,h2,h3,h4⟩,cI.refl⟩
  ·rintro σ' H' ⟨⟨v,rfl⟩,⟨ns,a,r,e,h1,h2,h3,h4⟩,bt⟩
   have ncd:=Cg h1 h2
   walk_at "r"
   refine kP (fun _=>?_) (fun _=>?_)
   ·walk_at "r"
    refine rY (Jj hm hm2) ?_
    walk_at "r"
    refine k _ _ (uK _ (by omega)) (zU _ hm) ⟨ns,a,_,e,aq,?_,Int.ediv_nonneg h3 (by omega),h4⟩ (bt.trans hW)
    rw[az ncd]
    exact h2
   ·walk_at "r"
    refine k _ _ (uK _ (by omega)) (zU _ hm) ⟨ns,a,r,_,aq,?_,h3,uK _ (by decide)⟩ (bt.trans hW)
    rw[az ncd]
    exact h2
theorem cj.ne_ints{H:Hp}{d c p:Addr}{ns:List Int}(h:cj H d c)(e:H p=some (.lst (ns.map V.int))):p≠d:=by
 obtain⟨_,a,r,e',h1,_⟩:=h
 intro z
 subst z
 rw[h1]at e
 have q:=cm e
 injection q with q
 cases ns with
 |nil=>cases q
 |cons n r=>injection q with q _;cases q
noncomputable def tj(K:W.Frag):Sp:=fun vs H Q _=>∃(d c0 l:Addr) (ns:List Int) (m:Int),vs=[.ref d,.ref l,.int m]/\cj H d c0/\ai K H l (ns.map V.int)/\ns.length<=200/\ -(2 ^ 61)<=m/\m<=2 ^ 61/\
 ∀p H' (fs ls:List Int),cj H' d c0->cI d H H'->H p=none->H' p=some (.lst (fs.map V.int))->(fs++ls).Perm ns->fs.length=min m.toNat ns.length->Q (.ref p) H'
theorem qr{m:Int}(h:0<m)(h2:m<=10000):m.natAbs<2 ^ 500:=oJ (show m.natAbs<2 ^ 20 by omega) (Nat.pow_lt_pow_right (by decide) (by decide))
theorem mH{n:Nat}(h:n<=1000):n<=sizeLine:=cN h (by decide)
theorem gI{n:Nat}(h:n<1000):n<sizeLine:=cL h (by decide)
theorem Et{d a:Addr}{H H':Hp}{o:HO}(h:H a=none)(b:cI d H H'):cI d H (ab H' a o):=fun c u n e=>by rw[az (bh e h)];exact b c u n e
theorem Eu:∀(l:List Int) (k:Nat) (h:k<l.length),(l[k]::l.eraseIdx k).Perm l
 |[],_,h=>absurd h (mY _)
 |x::r,0,_=>iS _
 |x::r,k+1,h=>by
  have h':k<r.length:=by simpa using h
  exact(List.Perm.swap x (r[k]) (r.eraseIdx k)).trans ((Eu r k h').cons x)
abbrev xa:Stmt:=bf 86
theorem tq:a_ ["_law_draw","_law_pool","_law_many","_law_left","_law_found","_law_k"] ["_law_draw","_law_pool","_law_many"] (aC xa):=bc
theorem LR{f:Addr}{fd:FuncData}(F:aX K "_law_some" "_law_some" xa f fd)(T:bG mg)(fu:aY P w K mg base "_law_take" 1 ["_law_draw","_law_many"] nY):aK P w K mg base aV 2 f fd ["_law_draw","_law_pool","_law_many"] (tj K):=by
 refine F.ok tq (fun vs H Q E h=>?_) (fun aM A outer s H vs Q E hr h=>?_)
 ·obtain⟨d,c0,l,ns,m,rfl,_⟩:=h
  rfl
 ·obtain⟨d,c0,l,ns,m,rfl,hD,hS,hl,m1,m2,k⟩:=h
  refine⟨_,(aF (bR (i:=3) tq.nd rfl (Or.inl rfl) (dJ (nM (K:=K) rfl) (by rfl) T.z_list mh (a9 (pv 1) ag)))
   (aF (bR (i:=4) tq.nd rfl (Or.inl rfl) (fR ag))
   (aF (hU gU rfl (nj (by rfl) T.z_range (a9 (bp (Dq rfl) (by rfl) T.z_min Dx (a9 (pv 2) (a9 (bp (cQ (K:=K) rfl) (by rfl) T.z_len cB (a9 (pv 3) ag)) ag))) ag)) (aR (i:=5) tq.nd rfl (Or.inl rfl)) (aA (dG (nS (K:=K) rfl (pv 4) (a9 (K4 (K:=K) rfl (pv 3) (a9 (pC fu (a9 (pv 0) (a9 (bp (cQ (K:=K) rfl) (by rfl) T.z_len cB (a9 (pv 3) ag)) ag))) ag)) ag)))))
   (aA (aU (pv 4)))))),?_⟩
  walk_at "r"
  intro a ha
  have s1:=au (o:=.lst (ns.map V.int)) ha
  have ha1:ab H a (.lst (ns.map V.int)) a=some (.lst (ns.map V.int)):=aq
  generalize ab H a (.lst (ns.map V.int))=H1 at s1 ha1⊢
  walk_at "r"
  refine⟨b_ _,fun b hb=>?_⟩
  have s2:=au (o:=.lst []) hb
  have hb2:ab H1 b (.lst []) b=some (.lst []):=aq
  have ha2:=s2 _ _ ha1
  have hab:a≠b:=bh ha1 hb
  have hb0:=s1.free hb
  have s12:=s1.trans s2
  generalize ab H1 b (.lst [])=H2 at s2 s12 ha2 hb2⊢
  walk_at "r"
  refine⟨_,rfl,?_,?_,?_⟩
  ·rw[ar];split<;>omega
  ·rw[ar];split<;>omega
  rw[ar]
  have en:(if(ns.length:Int)<m then(ns.length:Int)else m).toNat=min m.toNat ns.length:=by split<;>omega
  rw[en]
  obtain⟨⟨o,ho⟩,⟨o',ho'⟩⟩:=hD.is
  have hac:a≠c0:=Ne.symm (bh ho' ha)
  have hbc:b≠c0:=Ne.symm (bh ho' hb0)
  have had:a≠d:=Ne.symm (bh ho ha)
  have hbd:b≠d:=Ne.symm (bh ho hb0)
  refine h_ (fun i σ' H'=>(∃x,σ'=[some (.ref d),some (.ref l),some (.int m),some (.ref a),some (.ref b),x])/\cj H' d c0/\cI d H H'/\∃fs ls:List Int,H' a=some (.lst (ls.map V.int))/\H' b=some (.lst (fs.map V.int))/\fs.length=i/\ls.length=ns.length - i/\(fs++ls).Perm ns) (min m.toNat ns.length)
   ⟨⟨none,rfl⟩,hD.same s12,s12.but,[],ns,ha2,hb2,rfl,rfl,iS _⟩ ?_ ?_
  ·rintro σ' H' ⟨⟨x,rfl⟩,hD',bt,fs,ls,_,hb',lf,_,pm⟩
   refine⟨aG _,?_⟩
   walk_at "r"
   exact k b H' fs ls hD' bt hb0 hb' pm lf
  ·rintro i σ' H' hi ⟨⟨x,rfl⟩,hD',bt,fs,ls,ha',hb',lf,ll,pm⟩
   refine⟨hi,?_⟩
   rintro x' H3 ⟨rfl,rfl⟩
   walk_at "r"
   refine⟨.inl ⟨rfl,_,ai.of hb'⟩,?_⟩
   walk_at "r"
   refine⟨.inl ⟨rfl,_,ai.of ha'⟩,?_⟩
   walk_at "r"
   refine⟨d,c0,_,rfl,hD',by rw[ar];omega,qr (by rw[ar];omega) (by rw[ar];omega),fun r H4 r0 r1 hD4 b4=>?_⟩
   rw[ar]at r1
   have ha4:=b4 _ _ had ha'
   have hb4:=b4 _ _ hbd hb'
   walk_at "r"
   obtain⟨j,rfl⟩:∃j:Nat,r=j:=⟨r.toNat,by omega⟩
   have hj:j<ls.length:=by omega
   refine K9 ha4 hj (by omega) ?_
   walk_at "r"
   refine kW (by rw[az (Ne.symm hab)];exact hb4) (gI (by rw[ar];omega)) ?_
   walk_at "r"
   have bt4:=bt.trans b4
   have hx:(fs.map V.int++[V.int ls[j]])=(fs++[ls[j]]).map V.int:=by rw[cF];rfl
   rw[hx]
   refine⟨⟨_,rfl⟩,(hD4.put had hac).put hbd hbc,Et hb0 (Et ha bt4),fs++[ls[j]],ls.eraseIdx j,by rw[az hab];exact aq,aq,by simp[lf],by rw[uy hj];omega,?_⟩
   refine List.Perm.trans ?_ pm
   rw[km]
   exact List.Perm.append_left fs (Eu ls j hj)
abbrev xb:Stmt:=bf 85
theorem LS:a_ ["_law_timbers"] ["_law_timbers"] (aC xb):=bc
noncomputable def iL(K:W.Frag):Sp:=fun vs H Q _=>∃(p:Addr) (ns:List Int),vs=[.ref p]/\cZ K H p (ns.map V.int)/\ns.length<64/\∀l H' (rs:List Int),aw H H'->H l=none->H' l=some (.lst (rs.map V.int))->bH rs (fun x=>x∈ns)->Q (.ref l) H'
theorem LU{f:Addr}{fd:FuncData}(F:aX K "_law_set" "_law_set" xb f fd)(T:bG mg):aK P w K mg base aV 1 f fd ["_law_timbers"] (iL K):=by
 refine F.ok LS (fun vs H Q E h=>?_) (fun aM A outer s H vs Q E hr h=>?_)
 ·obtain⟨p,ns,rfl,_⟩:=h
  rfl
 ·obtain⟨p,ns,rfl,hS,hl,k⟩:=h
  refine⟨_,(aA (aU (bp (sA (w:=w) rfl rfl) (by rfl) T.z_sorted pT (a9 (dJ (jT (K:=K) (w:=w) rfl rfl rfl) (by rfl) T.z_set jQ (a9 (pv 0) ag)) ag)))),?_⟩
  walk_at "r"
  refine jU hS (by omega) fun a ks ha nd mem=>?_
  walk_at "r"
  refine sC aq (eN (i4 nd fun x hx=>(mem x).mp hx) hl) fun l rs hl pm so=>?_
  have s1:=au (o:=cc w a ks) ha
  exact k l _ rs (s1.trans (au hl)) (s1.free hl) aq (nT pm so nd mem)
abbrev xc:Stmt:=bf 11
theorem LV:a_ ["timbers"] ["timbers"] (aC xc):=bc
theorem LW{f:Addr}{fd:FuncData}(F:aX K "rising" "rising" xc f fd)(T:bG mg):aK P w K mg base aV 1 f fd ["timbers"] (iL K):=by
 refine F.ok LV (fun vs H Q E h=>?_) (fun aM A outer s H vs Q E hr h=>?_)
 ·obtain⟨p,ns,rfl,_⟩:=h
  rfl
 ·obtain⟨p,ns,rfl,hS,hl,k⟩:=h
  refine⟨_,(aA (aU (bp (sA (w:=w) rfl rfl) (by rfl) T.z_sorted pT (a9 (dJ (jT (K:=K) (w:=w) rfl rfl rfl) (by rfl) T.z_set jQ (a9 (pv 0) ag)) ag)))),?_⟩
  walk_at "r"
  refine jU hS (by omega) fun a ks ha nd mem=>?_
  walk_at "r"
  refine sC aq (eN (i4 nd fun x hx=>(mem x).mp hx) hl) fun l rs hl pm so=>?_
  have s1:=au (o:=cc w a ks) ha
  exact k l _ rs (s1.trans (au hl)) (s1.free hl) aq (nT pm so nd mem)
theorem bS.snoc{H:Hp}:∀{vs:List V} {ds:List Dt} {v:V} {d:Dt},bS H vs ds->cK H v d->bS H (vs++[v]) (ds++[d])
 |_,_,_,_,.nil,r=>.cons r .nil
 |_,_,_,_,.cons a t,r=>.cons a (bS.snoc t r)
theorem bS.append{H:Hp}:∀{vs ws:List V} {ds es:List Dt},bS H vs ds->bS H ws es->bS H (vs++ws) (ds++es)
 |_,_,_,_,.nil,r=>r
 |_,_,_,_,.cons a t,r=>.cons a (bS.append t r)
theorem iM{J:It}{g:TG}{te:TE}{ws:List V}{H1:Hp}{Fin:List V->Hp->Prop}{σ0:St}(Iv:St->Prop)(h0:Iv σ0)(hl:ws.length<=1000)
  (stop:∀H',aw H1 H'->J.stop ws.length H') (go:∀i H',i<ws.length->aw H1 H'->J.go i H')
  (step:∀i w x σ' H' H2 (R:V->St->Hp->Prop) (R0:St->Hp->Prop),ws[i]?=some w->Iv σ'->aw H1 H'->J.yld i H' x H2->(∀σ3 H3,Iv σ3->aw H1 H3->R w σ3 H3)->
   g x σ' H2 fun σ3 H3=>hV σ3 H3 fun b H4=>if b=true then te σ3 H4 (fun y H5=>R y σ3 H5)else R0 σ3 H4)
  (fin:∀H',aw H1 H'->Fin ws H'):ic J g hV te Fin σ0 H1:=by
 refine ji (fun i ys σ' H'=>Iv σ'/\aw H1 H'/\ys=ws.take i) ws.length ⟨h0,aw.refl _,rfl⟩ ?_ ?_
 ·rintro ys σ' H' ⟨_,s1,rfl⟩
  refine⟨stop H' s1,?_⟩
  rw[gn (aG _)]
  exact fin H' s1
 ·rintro i ys σ' H' hi ⟨iv,s1,rfl⟩
  refine⟨go i H' hi s1,cL (show _<1001 by rw[e9];omega) (by decide),?_⟩
  intro x H2 hy
  have hw:ws[i]?=some ws[i]:=aN hi
  refine step i _ x σ' H' H2 _ _ hw iv s1 hy fun σ3 H3 iv3 s3=>cY hi ⟨iv3,s3,?_⟩
  rw[gu,hw]
  rfl
noncomputable def cR(lo hi x:Int):Bool:=decide (lo<=x) && decide (x<=hi)
noncomputable def gJ(lo hi:Int):Sp:=fun vs H Q _=>∃x:Int,vs=[.int x]/\Q (.bl (cR lo hi x)) H
theorem nZ{σ:St}{H:Hp}{Q:VK}{ta tb tc:TE}{lo hi x:Int}(h1:∀Q',Q' (.int lo) H->ta σ H Q')(h2:∀Q',Q' (.int x) H->tb σ H Q')(h3:∀Q',Q' (.int hi) H->tc σ H Q')(q:Q (.bl (cR lo hi x)) H):
  rG (iD fun i j=>.bl (decide (i<=j))) (iD fun i j=>.bl (decide (i<=j))) ta tb tc σ H Q:=by
 refine DE (h1 _ (h2 _ (nK (pU ?_))))
 unfold cR at q
 cases h:decide (lo<=x)with
 |true=>
  rw[h,iA]at q
  exact ba (h3 _ (nK q))
 |false=>
  rw[h,jz]at q
  exact bj q
theorem jj{lo hi x:Int}(h1:lo<=x)(h2:x<=hi):cR lo hi x=true:=by unfold cR;rw[bZ h1,bZ h2];rfl
noncomputable def dg(ns ms:List Int):Nat:=((gG ns).filter fun x=>!decide (x∈ms)).length
theorem n_{ks ns ms:List Int}(h:ks.Nodup)(m:∀x,x∈ks↔x∈ns/\x∉ms):ks.length=dg ns ms:=qd h (i5.filter _) fun x=>by
 rw[m x,gk,fW];simp
theorem jk(ns ms:List Int):dg ns ms+aZ ns ms=bK ns:=by
 unfold dg aZ bK
 induction gG ns with
 |nil=>rfl
 |cons x r ih=>
  rw[gr,gr,cM]
  cases h:decide (x∈ms)<;>simp only[Bool.not_false,Bool.not_true,jC,kA,qV,cM]<;>omega
abbrev T3:=Nat×Nat×Nat
noncomputable def mI(p:T3):Dt:=.tup [.int p.1,.int p.2.1,.int p.2.2]
noncomputable def Ew(p:T3):List V:=[.int p.1,.int p.2.1,.int p.2.2]
noncomputable def xf(p:T3):List Int:=[p.1,p.2.1,p.2.2]
theorem LX{H:Hp}{v:V}{p:T3}(h:cK H v (mI p)):∃a,v=.ref a/\H a=some (.tup (Ew p)):=by
 cases h with
 |tup e r=>
  cases r with
  |cons r1 t1=>
   cases t1 with
   |cons r2 t2=>
    cases t2 with
    |cons r3 t3=>
     cases t3
     cases r1;cases r2;cases r3
     exact⟨_,rfl,e⟩
theorem LZ{H:Hp}{a:Addr}{p:T3}(h:H a=some (.tup (Ew p))):cK H (.ref a) (mI p):=.tup h (.cons (.int _) (.cons (.int _) (.cons (.int _) .nil)))
noncomputable def i_(af:Int)(p:T3):Bool:=cR 1 af ((p.1:Int)+p.2.1+p.2.2)
noncomputable def j0(x y k:Nat):List T3:=(List.range k).map fun z=>(x,y,z)
noncomputable def iN(x c j:Nat):List T3:=(List.range j).flatMap fun y=>j0 x y (c+1)
noncomputable def iO(b c i:Nat):List T3:=(List.range i).flatMap fun x=>iN x c (b+1)
noncomputable def k_(a b c:Nat)(af:Int):List T3:=(iO b c (a+1)).filter (i_ af)
theorem L_(x y k:Nat):j0 x y (k+1)=j0 x y k++[(x,y,k)]:=by unfold j0;rw[ko,cF];rfl
theorem Ex(x c j:Nat):iN x c (j+1)=iN x c j++j0 x j (c+1):=by unfold iN;rw[ko,Gi];simp
theorem Ey(b c i:Nat):iO b c (i+1)=iO b c i++iN i c (b+1):=by unfold iO;rw[ko,Gi];simp
theorem L'(x y k:Nat):(j0 x y k).length=k:=by simp[j0]
theorem M0(x c j:Nat):(iN x c j).length=j*(c+1):=by
 induction j with
 |zero=>simp[iN]
 |succ j ih=>rw[Ex,bF,ih,L',Nat.succ_mul]
theorem M1(b c i:Nat):(iO b c i).length=i*((b+1)*(c+1)):=by
 induction i with
 |zero=>simp[iO]
 |succ j ih=>rw[Ey,bF,ih,M0];exact(Nat.succ_mul _ _).symm
theorem M3:∀b,b<13->(13 - b)*((b+1)*(13 - b))<=405:=by decide
theorem few{a b c:Nat}(h1:a+b<=12)(h2:c+b<=12):(a+1)*((b+1)*(c+1))<=1000:=by
 have e:=M3 b (by omega)
 have e1:a+1<=13 - b:=by omega
 have e2:c+1<=13 - b:=by omega
 exact cN (Nat.mul_le_mul e1 (Nat.mul_le_mul (aG _) e2)) (by omega)
theorem M4{a b c:Nat}{af:Int}(h1:a+b<=12)(h2:c+b<=12):(k_ a b c af).length<=1000:=
 cN (j6 _ _) (by rw[M1];exact few h1 h2)
noncomputable def jl(i j:Int):Int:=if j<i then j else i
noncomputable def o7(xs ys:List Int):Int:=(List.zipWith jl xs ys).sum
noncomputable def gK(xs ys:List Int):Bool:=decide (2*o7 xs ys >xs.sum) && decide (2*o7 xs ys >ys.sum)
noncomputable def xg(K:W.Frag):Sp:=fun vs H Q _=>∃(p q:Addr) (xs ys:List Int),vs=[.ref p,.ref q]/\ax K H p (xs.map V.int)/\ax K H q (ys.map V.int)/\xs.length=3/\ys.length=3/\∀H',aw H H'->Q (.bl (gK xs ys)) H'
noncomputable def fJ(ns ms:List Int)(x:Int):Prop:=x∈ns/\x∈ms
noncomputable def dN(ns ms:List Int)(x:Int):Prop:=x∈ns/\x∉ms
noncomputable def jm(K:W.Frag)(R:List Int->List Int->Int->Prop):Sp:=fun vs H Q _=>∃(p q:Addr) (ns ms:List Int),vs=[.ref p,.ref q]/\cZ K H p (ns.map V.int)/\cZ K H q (ms.map V.int)/\ns.length<64/\ms.length<64/\
 ∀l H' (rs:List Int),aw H H'->H l=none->H' l=some (.lst (rs.map V.int))->bH rs (R ns ms)->Q (.ref l) H'
abbrev xh:Stmt:=bf 12
theorem M5:a_ ["one","other"] ["one","other"] (aC xh):=bc
theorem M6{f:Addr}{fd:FuncData}(F:aX K "common" "common" xh f fd)(T:bG mg):aK P w K mg base aV 1 f fd ["one","other"] (jm K fJ):=by
 refine F.ok M5 (fun vs H Q E h=>?_) (fun aM A outer s H vs Q E hr h=>?_)
 ·obtain⟨p,q,ns,ms,rfl,_⟩:=h
  rfl
 ·obtain⟨p,q,ns,ms,rfl,hp,hq,l1,l2,k⟩:=h
  refine⟨_,(aA (aU (bp (sA (w:=w) rfl rfl) (by rfl) T.z_sorted pT (a9 (bu (Dd (w:=w) rfl) (dJ (jT (K:=K) (w:=w) rfl rfl rfl) (by rfl) T.z_set jQ (a9 (pv 0) ag)) (dJ (jT (K:=K) (w:=w) rfl rfl rfl) (by rfl) T.z_set jQ (a9 (pv 1) ag))) ag)))),?_⟩
  walk_at "r"
  refine jU hp (by omega) fun a ks ha nd mem=>?_
  have s1:=au (o:=cc w a ks) ha
  walk_at "r"
  refine jU (hq.same s1) (by omega) fun b js hb nd2 mem2=>?_
  have s2:=au (o:=cc w b js) hb
  have ea:ab (ab H a (cc w a ks)) b (cc w b js) a=some (cc w a ks):=s2 _ _ aq
  refine Df ea aq (bh aq hb) fun c kr hc nd3 mem3=>?_
  have s3:=au (o:=cc w c kr) hc
  refine sC aq (eN (i4 nd3 fun x hx=>(mem x).mp ((mem3 x).mp hx).1) l1) fun l rs hl pm so=>?_
  have s123:=(s1.trans s2).trans s3
  refine k l _ rs (s123.trans (au hl)) (s123.free hl) aq (nT pm so nd3 fun x=>?_)
  rw[mem3 x,mem x,mem2 x]
  exact eG
abbrev xi:Stmt:=bf 13
theorem M7:a_ ["one","other"] ["one","other"] (aC xi):=bc
theorem M8{f:Addr}{fd:FuncData}(F:aX K "apart" "apart" xi f fd)(T:bG mg):aK P w K mg base aV 1 f fd ["one","other"] (jm K dN):=by
 refine F.ok M7 (fun vs H Q E h=>?_) (fun aM A outer s H vs Q E hr h=>?_)
 ·obtain⟨p,q,ns,ms,rfl,_⟩:=h
  rfl
 ·obtain⟨p,q,ns,ms,rfl,hp,hq,l1,l2,k⟩:=h
  refine⟨_,(aA (aU (bp (sA (w:=w) rfl rfl) (by rfl) T.z_sorted pT (a9 (bu (JZ (w:=w) rfl) (dJ (jT (K:=K) (w:=w) rfl rfl rfl) (by rfl) T.z_set jQ (a9 (pv 0) ag)) (dJ (jT (K:=K) (w:=w) rfl rfl rfl) (by rfl) T.z_set jQ (a9 (pv 1) ag))) ag)))),?_⟩
  walk_at "r"
  refine jU hp (by omega) fun a ks ha nd mem=>?_
  have s1:=au (o:=cc w a ks) ha
  walk_at "r"
  refine jU (hq.same s1) (by omega) fun b js hb nd2 mem2=>?_
  have s2:=au (o:=cc w b js) hb
  have ea:ab (ab H a (cc w a ks)) b (cc w b js) a=some (cc w a ks):=s2 _ _ aq
  refine J_ ea aq (eN (i4 nd fun x hx=>(mem x).mp hx) l1) fun c kr hc nd3 mem3=>?_
  have s3:=au (o:=cc w c kr) hc
  refine sC aq (eN (i4 nd3 fun x hx=>(mem x).mp ((mem3 x).mp hx).1) l1) fun l rs hl pm so=>?_
  have s123:=(s1.trans s2).trans s3
  refine k l _ rs (s123.trans (au hl)) (s123.free hl) aq (nT pm so nd3 fun x=>?_)
  rw[mem3 x,mem x,mem2 x]
  exact eG
abbrev xj:Stmt:=bf 22
theorem M9:a_ ["number"] ["number"] (aC xj):=bc
theorem Ma{f:Addr}{fd:FuncData}(F:aX K "is_slip" "is_slip" xj f fd)(T:bG mg){tk:Tok}(hMost:mg "MOST_SLIP"=some (.int 12 tk)):aK P w K mg base aV 1 f fd ["number"] (gJ 1 12):=by
 refine F.ok M9 (fun vs H Q E h=>?_) (fun aM A outer s H vs Q E hr h=>?_)
 ·obtain⟨x,rfl,_⟩:=h
  rfl
 ·obtain⟨x,rfl,k⟩:=h
  refine⟨_,(aA (aU (m7 eR eR ay (pv 0) (fG (v:=.int 12) (by rfl) hMost ⟨_,rfl⟩)))),?_⟩
  refine jf ?_
  exact nZ (fun _ q=>gE q) (fun _ q=>du rfl q) (fun _ q=>gE q) k
noncomputable def tu:Sp:=fun vs H Q _=>∃x:Int,vs=[.int x]/\1<=x/\x<=12/\Q .non H
abbrev xk:Stmt:=bf 26
theorem Mb:a_ ["number"] ["number"] (aC xk):=bc
theorem Mc{f:Addr}{fd:FuncData}(F:aX K "need_slip" "need_slip" xk f fd)(T:bG mg)(Ad:aY P w K mg base "is_slip" 1 ["number"] (gJ 1 12)):aK P w K mg base aV 2 f fd ["number"] tu:=by
 refine F.ok Mb (fun vs H Q E h=>?_) (fun aM A outer s H vs Q E hr h=>?_)
 ·obtain⟨x,rfl,_⟩:=h
  rfl
 ·obtain⟨x,rfl,h1,h2,k⟩:=h
  refine⟨_,(aA (bQ (eJ (dX (pC Ad (a9 (pv 0) ag)))) (aA je) bU)),?_⟩
  walk_at "r"
  refine⟨x,rfl,?_⟩
  rw[jj h1 h2]
  walk_at "r"
  refine bj ?_
  walk_at "r"
  exact k
noncomputable def xl(K:W.Frag):Sp:=fun vs H Q _=>∃(p:Addr) (ns:List Int) (af:Int),vs=[.ref p,.int af]/\cZ K H p (ns.map V.int)/\ns.length<64/\1<=bK ns/\(bK ns:Int)<=af/\∀H',aw H H'->Q .non H'
abbrev xm:Stmt:=bf 27
theorem Md:a_ ["timbers","slip"] ["timbers","slip"] (aC xm):=bc
theorem Me{f:Addr}{fd:FuncData}(F:aX K "need_boat" "need_boat" xm f fd)(T:bG mg)(dU:aY P w K mg base "rising" 1 ["timbers"] (iL K)):aK P w K mg base aV 2 f fd ["timbers","slip"] (xl K):=by
 refine F.ok Md (fun vs H Q E h=>?_) (fun aM A outer s H vs Q E hr h=>?_)
 ·obtain⟨p,ns,af,rfl,_⟩:=h
  rfl
 ·obtain⟨p,ns,af,rfl,hp,hl,h1,h2,k⟩:=h
  refine⟨_,(aA (bQ (eJ (Bz eR eR ay (bp (cQ (K:=K) rfl) (by rfl) T.z_len cB (a9 (pC dU (a9 (pv 0) ag)) ag)) (pv 1))) (aA je) bU)),?_⟩
  walk_at "r"
  refine⟨p,ns,rfl,hp,hl,fun l H1 rs s1 _ hl1 ris=>?_⟩
  have er:rs.length=bK ns:=jS ris.nodup ris.2
  walk_at "r"
  rw[ar,er,bZ (show(1:Int)<=(bK ns:Int) by omega)]
  refine ba ?_
  walk_at "r"
  rw[bZ h2]
  walk_at "r"
  refine bj ?_
  walk_at "r"
  exact k _ s1
noncomputable def xn(K:W.Frag):Sp:=fun vs H Q _=>∃(p q:Addr) (ns ms:List Int) (af:Int),vs=[.ref p,.ref q,.int af]/\cZ K H p (ns.map V.int)/\cZ K H q (ms.map V.int)/\ns.length<64/\ms.length<64/\af<=12/\1<=bK ns/\(bK ns:Int)<=af/\1<=bK ms/\(bK ms:Int)<=af/\∀H',aw H H'->Q .non H'
abbrev xo:Stmt:=bf 29
theorem Mf:a_ ["start","goal","slip"] ["start","goal","slip"] (aC xo):=bc
theorem Mg{f:Addr}{fd:FuncData}(F:aX K "need_carrying" "need_carrying" xo f fd)(T:bG mg)(oK:aY P w K mg base "need_slip" 2 ["number"] tu)(uS:aY P w K mg base "need_boat" 2 ["timbers","slip"] (xl K)):aK P w K mg base aV 3 f fd ["start","goal","slip"] (xn K):=by
 refine F.ok Mf (fun vs H Q E h=>?_) (fun aM A outer s H vs Q E hr h=>?_)
 ·obtain⟨p,q,ns,ms,af,rfl,_⟩:=h
  rfl
 ·obtain⟨p,q,ns,ms,af,rfl,hp,hq,l1,l2,h12,h1,h2,h3,h4,k⟩:=h
  refine⟨_,(aF (dG (pC oK (a9 (pv 2) ag)))
   (aF (dG (pC uS (a9 (pv 0) (a9 (pv 2) ag))))
   (aA (dG (pC uS (a9 (pv 1) (a9 (pv 2) ag))))))),?_⟩
  walk_at "r"
  refine⟨af,rfl,by omega,h12,?_⟩
  walk_at "r"
  refine⟨p,ns,af,rfl,hp,l1,h1,h2,fun H1 s1=>?_⟩
  walk_at "r"
  refine⟨q,ms,af,rfl,hq.same s1,l2,h3,h4,fun H2 s2=>?_⟩
  walk_at "r"
  exact k _ (s1.trans s2)
noncomputable def qt(K:W.Frag):Sp:=fun vs H Q _=>∃(p q:Addr) (ns ms:List Int),vs=[.ref p,.ref q]/\cZ K H p (ns.map V.int)/\cZ K H q (ms.map V.int)/\ns.length<64/\ms.length<64/\
 ∀l H' (a b c:Addr) (r1 r2 r3:List Int),aw H H'->H l=none->H' l=some (.lst [.ref a,.ref b,.ref c])->H' a=some (.lst (r1.map V.int))->H' b=some (.lst (r2.map V.int))->H' c=some (.lst (r3.map V.int))->
  bH r1 (dN ns ms)->bH r2 (fJ ns ms)->bH r3 (dN ms ns)->(∀v∈[a,b,c],H v=none)->Q (.ref l) H'
abbrev xp:Stmt:=bf 30
theorem Mh:a_ ["start","goal"] ["start","goal"] (aC xp):=bc
theorem Mi{f:Addr}{fd:FuncData}(F:aX K "timbers_by_kind" "timbers_by_kind" xp f fd)(T:bG mg)(kB:aY P w K mg base "common" 1 ["one","other"] (jm K fJ))(jE:aY P w K mg base "apart" 1 ["one","other"] (jm K dN)):aK P w K mg base aV 2 f fd ["start","goal"] (qt K):=by
 refine F.ok Mh (fun vs H Q E h=>?_) (fun aM A outer s H vs Q E hr h=>?_)
 ·obtain⟨p,q,ns,ms,rfl,_⟩:=h
  rfl
 ·obtain⟨p,q,ns,ms,rfl,hp,hq,l1,l2,k⟩:=h
  refine⟨_,(aA (aU (fR (a9 (pC jE (a9 (pv 0) (a9 (pv 1) ag))) (a9 (pC kB (a9 (pv 0) (a9 (pv 1) ag))) (a9 (pC jE (a9 (pv 1) (a9 (pv 0) ag))) ag)))))),?_⟩
  walk_at "r"
  refine⟨p,q,ns,ms,rfl,hp,hq,l1,l2,fun a H1 r1 s1 fa ha1 ris1=>?_⟩
  walk_at "r"
  refine⟨p,q,ns,ms,rfl,hp.same s1,hq.same s1,l1,l2,fun b H2 r2 s2 fb hb2 ris2=>?_⟩
  have s12:=s1.trans s2
  walk_at "r"
  refine⟨q,p,ms,ns,rfl,hq.same s12,hp.same s12,l2,l1,fun c H3 r3 s3 fc hc3 ris3=>?_⟩
  walk_at "r"
  refine⟨by show 3<=sizeLine;decide,fun l hl=>?_⟩
  have s4:=au (o:=.lst [.ref a,.ref b,.ref c]) hl
  have s13:=s12.trans s3
  exact k l _ a b c r1 r2 r3 (s13.trans s4) (s13.free hl) aq (s4 _ _ (s3 _ _ (s2 _ _ ha1))) (s4 _ _ (s3 _ _ hb2)) (s4 _ _ hc3) ris1 ris2 ris3 (fun v hv=>by
   simp only[cE,dk,eO]at hv
   rcases hv with rfl|rfl|rfl
   ·exact fa
   ·exact s1.free fb
   ·exact s12.free fc)
abbrev tD:Stmt:=bf 32
theorem Ez:a_ ["one","other","shared"] ["one","other"] (aC tD):=bc
theorem EA:(["here","there"]:List Str).Nodup:=by decide+kernel
theorem Mj:bE ["one","other","shared"] (aC tD) (cS [("here",kL),("there",kL),("min",kG)]) ["here","there"] []:=cg
theorem Ml{f:Addr}{fd:FuncData}(F:aX K "near" "near" tD f fd)(T:bG mg):aK P w K mg base aV 1 f fd ["one","other"] (xg K):=by
 refine F.ok Ez (fun vs H Q E h=>?_) (fun aM A outer s H vs Q E hr h=>?_)
 ·obtain⟨p,q,xs,ys,rfl,_⟩:=h
  rfl
 ·obtain⟨p,q,xs,ys,rfl,hp,hq,l1,l2,k⟩:=h
  refine⟨_,(aF (bR (i:=2) Ez.nd rfl (Or.inl rfl) (bp (wD (K:=K) rfl rfl) (by rfl) T.z_sum wy (a9 (eL rfl Mj (vT (K:=K) rfl (by rfl) T.z_zip (a9 (pv 0) (a9 (pv 1) ag))) (by intro _ _ _ _ _;exact(fV (K:=K) (n:=2) rfl rfl (bW (aR (i:=0) EA rfl (Or.inl rfl)) (bW (aR (i:=1) EA rfl (Or.inl rfl)) fw)))) (by intro _ _ _ _ _;exact cH) (by intro _ _ _ _ _;exact(bp (Dq rfl) (by rfl) T.z_min Dx (a9 (pv 0) (a9 (pv 1) ag))))) ag)))
   (aA (aU (g_ (fP ia (bu ja ay (pv 2)) (bp (wD (K:=K) rfl rfl) (by rfl) T.z_sum wy (a9 (pv 0) ag)) (bO _)) (iB (fP ia (bu ja ay (pv 2)) (bp (wD (K:=K) rfl rfl) (by rfl) T.z_sum wy (a9 (pv 1) ag)) (bO _))))))),?_⟩
  walk_at "r"
  refine⟨p,q,rfl,.inr ⟨_,_,hp,hq,?_⟩⟩
  have lz:((List.zipWith jl xs ys).map V.int).length=3:=by rw[ar,List.length_zipWith,l1,l2];rfl
  refine iM (ws:=(List.zipWith jl xs ys).map V.int) (fun σ=>∃a b,σ=[a,b]) ⟨none,none,rfl⟩ (by omega) (fun H' s'=>⟨_,_,fY s' hp,fY s' hq,.inl (by rw[ar];omega)⟩) (fun i H' hi s'=>?_) ?_ ?_
  ·rw[lz]at hi
   exact⟨_,_,.int (xs[i]'(by omega)),.int (ys[i]'(by omega)),fY s' hp,fY s' hq,by rw[aI,aN (by omega)];rfl,by rw[aI,aN (by omega)];rfl⟩
  ·rintro i wv x σ' H' H2 R R0 hw ⟨a0,b0,rfl⟩ s' ⟨T',u,v,rfl,hn,rfl,qq⟩ hR
   obtain⟨q1,q2⟩:=qq _ _ (fY s' hp) (fY s' hq)
   rw[aI]at q1 q2 hw
   rw[List.getElem?_zipWith]at hw
   cases ex:xs[i]? with
   |none=>rw[ex]at q1;cases q1
   |some x1=>
    cases ey:ys[i]? with
    |none=>rw[ey]at q2;cases q2
    |some y1=>
     rw[ex]at q1 hw
     rw[ey]at q2 hw
     cases q1;cases q2;cases hw
     have s2:=s'.trans (au (o:=.tup [.int x1,.int y1]) hn)
     refine ig (ax.of aq) rfl ?_
     walk_at "r"
     refine ba ?_
     walk_at "r"
     exact hR _ _ ⟨_,_,rfl⟩ s2
  ·intro H1 s1 D hD
   have s2:=s1.trans (au (o:=.lst ((List.zipWith jl xs ys).map V.int)) hD)
   walk_at "r"
   refine Ku (ai.of aq) ?_
   walk_at "r"
   refine DI (fY s2 hp) ?_
   walk_at "r"
   have e1:(List.zipWith jl xs ys).sum=o7 xs ys:=rfl
   rw[e1]
   unfold gK at k
   cases h:decide (2*o7 xs ys >xs.sum)with
   |false=>
    refine bj ?_
    rw[h,jz]at k
    exact k _ s2
   |true=>
    refine ba ?_
    rw[h,iA]at k
    walk_at "r"
    refine DI (fY s2 hq) ?_
    walk_at "r"
    exact k _ s2
noncomputable def qu(af:Int)(x y k:Nat):List T3:=(j0 x y k).filter (i_ af)
theorem EB(af:Int)(x y k:Nat):qu af x y (k+1)=qu af x y k++(if i_ af (x,y,k)=true then[(x,y,k)]else[]):=by
 unfold qu
 rw[L_,gS,gr]
 split<;>rfl
noncomputable def xq(K:W.Frag):Sp:=fun vs H Q _=>∃(p q:Addr) (ns ms:List Int) (af:Int),vs=[.ref p,.ref q,.int af]/\cZ K H p (ns.map V.int)/\cZ K H q (ms.map V.int)/\ns.length<64/\ms.length<64/\af<=12/\1<=bK ns/\(bK ns:Int)<=af/\1<=bK ms/\(bK ms:Int)<=af/\
 ∀l H' (ws:List V),aw H H'->H l=none->H' l=some (.lst ws)->bS H' ws ((k_ (dg ns ms) (aZ ns ms) (dg ms ns) af).map mI)->Q (.ref l) H'
abbrev qv:Stmt:=bf 33
abbrev xr:List Str:=["start","goal","slip","most_alone","most_both","most_wished"]
theorem tF:a_ xr ["start","goal","slip"] (aC qv):=bc
theorem Mm:(["timbers"]:List Str).Nodup:=by decide+kernel
theorem Mn:bE xr (aC qv) (cS [("timbers",kL),("len",kG)]) ["timbers"] []:=cg
theorem xt:(["alone","both","wished","slip","most_both","most_wished"]:List Str).Nodup:=by decide+kernel
theorem Mo:bE xr (aC qv) (cS [("alone",kL),("both",kL),("range",kG),("wished",kL),("most_both",kF),("most_wished",kF),("slip",kF)]) ["alone","both","wished"] [(2,"slip"),(4,"most_both"),(5,"most_wished")]:=cg
theorem Mp{f:Addr}{fd:FuncData}(F:aX K "stages" "stages" qv f fd)(T:bG mg)(Ae:aY P w K mg base "need_carrying" 3 ["start","goal","slip"] (xn K))(kC:aY P w K mg base "timbers_by_kind" 2 ["start","goal"] (qt K)):aK P w K mg base aV 4 f fd ["start","goal","slip"] (xq K):=by
 refine F.ok tF (fun vs H Q E h=>?_) (fun aM A outer s H vs Q E hr h=>?_)
 ·obtain⟨p,q,ns,ms,af,rfl,_⟩:=h
  rfl
 ·obtain⟨p,q,ns,ms,af,rfl,hp,hq,l1,l2,h12,h1,h2,h3,h4,k⟩:=h
  refine⟨_,(aF (dG (pC Ae (a9 (pv 0) (a9 (pv 1) (a9 (pv 2) ag)))))
   (aF (iU (eL rfl Mn (fm (K:=K) rfl (pC kC (a9 (pv 0) (a9 (pv 1) ag)))) (by intro _ _ _ _ _;exact(aR (i:=0) Mm rfl (Or.inl rfl))) (by intro _ _ _ _ _;exact cH) (by intro _ _ _ _ _;exact(bp (cQ (K:=K) rfl) (by rfl) T.z_len cB (a9 (pv 0) ag)))) (DH (K:=K) (n:=3) rfl rfl (bW (aR (i:=3) tF.nd rfl (Or.inl rfl)) (bW (aR (i:=4) tF.nd rfl (Or.inr rfl)) (bW (aR (i:=5) tF.nd rfl (Or.inr rfl)) fw)))))
   (aA (aU (Il rfl Mo (nj (by rfl) T.z_range (a9 (bu dI (pv 3) ay) ag)) (by intro _ _ _ _ _;exact(aR (i:=0) xt rfl (Or.inl rfl))) (by intro _ _ _ _ _;exact cH) (by intro _ _ _ _ _;exact(e_ (a9 (pv 0) (a9 (pv 1) (a9 (pv 2) ag))))) (by intro _ _ _ _ _;exact(nj (by rfl) T.z_range (a9 (bu dI (pv 4) ay) ag))) (by intro _ _ _ _ _;exact(aR (i:=1) xt rfl (Or.inl rfl))) (by intro _ _ _ _ _;exact cH) (by intro _ _ _ _ _;exact(nj (by rfl) T.z_range (a9 (bu dI (pv 5) ay) ag))) (by intro _ _ _ _ _;exact(aR (i:=2) xt rfl (Or.inl rfl))) (by intro _ _ _ _ _;exact(iH (Bz eR eR ay (bu dI (bu dI (pv 0) (pv 1)) (pv 2)) (pv 3))))))))),?_⟩
  walk_at "r"
  refine⟨p,q,ns,ms,af,rfl,hp,hq,l1,l2,h12,h1,h2,h3,h4,fun H1 s1=>?_⟩
  walk_at "r"
  refine⟨p,q,ns,ms,rfl,hp.same s1,hq.same s1,l1,l2,fun l H2 a b c r1 r2 r3 s2 _ hl2 ha2 hb2 hc2 ris1 ris2 ris3 _=>?_⟩
  have e1:r1.length=dg ns ms:=n_ ris1.nodup ris1.2
  have e2:r2.length=aZ ns ms:=fX ris2.nodup ris2.2
  have e3:r3.length=dg ms ns:=n_ ris3.nodup ris3.2
  have q1:=jk ns ms
  have q2:=jk ms ns
  rw[my ms ns]at q2
  generalize dg ns ms=na at e1 q1 k
  generalize aZ ns ms=nb at e2 q1 q2 k
  generalize dg ms ns=nc at e3 q2 k
  have s12:=s1.trans s2
  walk_at "r"
  refine⟨l,rfl,⟨_,ai.of hl2⟩,?_⟩
  refine iM (ws:=[.int na,.int nb,.int nc]) (fun σ=>∃x,σ=[x]) ⟨none,rfl⟩ (show 3<=1000 by decide) (fun H' s'=>⟨_,ai.of (s' _ _ hl2),aG _⟩) (fun i H' hi s'=>?_) ?_ ?_
  ·have hi':i<[V.ref a,V.ref b,V.ref c].length:=hi
   exact⟨_,_,ai.of (s' _ _ hl2),aN hi'⟩
  ·rintro i wv x σ' H' G R R0 hw ⟨x0,rfl⟩ s' ⟨rfl,hy⟩ hR
   have ex:=hy _ (ai.of (s' _ _ hl2))
   match i,hw,ex with
   |0,hw,ex=>
    cases hw;cases ex
    walk_at "r"
    refine ba ?_
    walk_at "r"
    refine sf (ai.of (s' _ _ ha2)) ?_
    rw[ar,e1]
    exact hR _ _ ⟨_,rfl⟩ s'
   |1,hw,ex=>
    cases hw;cases ex
    walk_at "r"
    refine ba ?_
    walk_at "r"
    refine sf (ai.of (s' _ _ hb2)) ?_
    rw[ar,e2]
    exact hR _ _ ⟨_,rfl⟩ s'
   |2,hw,ex=>
    cases hw;cases ex
    walk_at "r"
    refine ba ?_
    walk_at "r"
    refine sf (ai.of (s' _ _ hc2)) ?_
    rw[ar,e3]
    exact hR _ _ ⟨_,rfl⟩ s'
   |n+3,hw,ex=>simp at hw
  ·intro H3 s3 D hD
   have s4:=s12.trans (s3.trans (au (o:=.lst [.int na,.int nb,.int nc]) hD))
   have hD4:ab H3 D (.lst [.int na,.int nb,.int nc]) D=some (.lst [.int na,.int nb,.int nc]):=aq
   generalize ab H3 D (.lst [.int na,.int nb,.int nc])=H4 at s4 hD4⊢
   refine DJ (ai.of hD4) rfl ?_
   walk_at "r"
   refine⟨_,rfl,by omega,by omega,?_⟩
   have t1:((na:Int)+1).toNat=na+1:=by omega
   have t2:((nb:Int)+1).toNat=nb+1:=by omega
   have t3:((nc:Int)+1).toNat=nc+1:=by omega
   rw[t1]
   refine Cd (fun i ys σ' H'=>(∃x y z,σ'=[x,y,z,some (.int af),some (.int nb),some (.int nc)])/\aw H4 H'/\bS H' ys (((iO nb nc i).filter (i_ af)).map mI)/\ys.length<=i*169) (na+1) ⟨⟨none,none,none,rfl⟩,aw.refl _,.nil,b_ _⟩ ?_ ?_
   ·rintro ys σ' H5 ⟨_,s5,rp,_⟩
    refine⟨aG _,fun e he=>?_⟩
    have s6:=au (o:=.lst ys) he
    exact k e _ ys (s4.trans (s5.trans s6)) ((s4.trans s5).free he) aq (rp.mono s6)
   ·rintro i ys σ' H5 hi ⟨⟨x,y,z,rfl⟩,s5,rp,ly⟩
    refine⟨hi,?_⟩
    rintro x' G ⟨rfl,rfl⟩
    rw[uQ]
    walk_at "r"
    refine ba ?_
    walk_at "r"
    refine⟨_,rfl,by omega,by omega,?_⟩
    rw[t2]
    refine Cd (fun j ys σ' H'=>(∃y z,σ'=[some (.int i),y,z,some (.int af),some (.int nb),some (.int nc)])/\aw H4 H'/\bS H' ys (((iO nb nc i++iN i nc j).filter (i_ af)).map mI)/\ys.length<=i*169+j*13) (nb+1) ⟨⟨_,_,rfl⟩,s5,by simpa[iN]using rp,by omega⟩ ?_ ?_
    ·rintro ys σ' H6 ⟨⟨y,z,rfl⟩,s6,rp6,ly6⟩
     refine⟨aG _,cY hi ⟨⟨_,_,_,rfl⟩,s6,by rw[Ey];exact rp6,by omega⟩⟩
    ·rintro j ys σ' H6 hj ⟨⟨y,z,rfl⟩,s6,rp6,ly6⟩
     refine⟨hj,?_⟩
     rintro x' G2 ⟨rfl,rfl⟩
     rw[uQ]
     walk_at "r"
     refine ba ?_
     walk_at "r"
     refine⟨_,rfl,by omega,by omega,?_⟩
     rw[t3]
     refine Iq (fun m ys σ' H'=>(∃z,σ'=[some (.int i),some (.int j),z,some (.int af),some (.int nb),some (.int nc)])/\aw H4 H'/\bS H' ys (((iO nb nc i++iN i nc j).filter (i_ af)++qu af i j m).map mI)/\ys.length<=i*169+j*13+m) (nc+1) ⟨⟨_,rfl⟩,s6,by simpa[qu,j0]using rp6,by omega⟩ ?_ ?_
     ·rintro ys σ' H7 ⟨⟨z,rfl⟩,s7,rp7,ly7⟩
      refine⟨aG _,cY hj ⟨⟨_,_,rfl⟩,s7,?_,by omega⟩⟩
      rw[Ex,<-km,gS]
      exact rp7
     ·rintro m ys σ' H7 hm ⟨⟨z,rfl⟩,s7,rp7,ly7⟩
      refine⟨hm,cL (show _<10000 by omega) (by decide),?_⟩
      rintro x' G3 ⟨rfl,rfl⟩
      rw[uQ]
      refine fU ?_
      refine Ci ?_
      refine nZ (x:=(i:Int)+j+m) (hi:=af) (fun _ q=>gE q) (fun _ q=>vQ (vQ (du rfl (du rfl (nK (du rfl (nK q))))))) (fun _ q=>du rfl q) ?_
      refine pU ?_
      have eo:cR 1 af ((i:Int)+j+m)=i_ af (i,j,m):=rfl
      rw[eo]
      cases ho:i_ af (i,j,m)with
      |false=>
       refine bj ?_
       refine cY hm ⟨⟨_,rfl⟩,s7,?_,by omega⟩
       rw[EB,ho,av cq,gW]
       exact rp7
      |true=>
       refine ba ?_
       walk_at "r"
       refine⟨by show 3<=sizeLine;decide,fun e he=>?_⟩
       have s8:=au (o:=.tup [.int i,.int j,.int m]) he
       refine cY hm ⟨⟨_,rfl⟩,s7.trans s8,?_,by rw[bF,oz];omega⟩
       rw[EB,ho,aH rfl,<-km,cF]
       exact bS.snoc (rp7.mono s8) (LZ (p:=(i,j,m)) aq)
noncomputable def xu:Sp:=fun vs H Q _=>∃(d c0:Addr),vs=[.ref d]/\cj H d c0/\∀(m:Int) H',1<=m->m<=12->cj H' d c0->cI d H H'->Q (.int m) H'
abbrev xv:Stmt:=bf 87
theorem Mq:a_ ["_law_draw"] ["_law_draw"] (aC xv):=bc
theorem Mr{f:Addr}{fd:FuncData}(F:aX K "_law_slip" "_law_slip" xv f fd)(T:bG mg)(fu:aY P w K mg base "_law_take" 1 ["_law_draw","_law_many"] nY):aK P w K mg base aV 2 f fd ["_law_draw"] xu:=by
 refine F.ok Mq (fun vs H Q E h=>?_) (fun aM A outer s H vs Q E hr h=>?_)
 ·obtain⟨d,c0,rfl,_⟩:=h
  rfl
 ·obtain⟨d,c0,rfl,hD,k⟩:=h
  refine⟨_,(aA (aU (cp (fk (K:=K) rfl) (e_ (a9 (bu dI ay (pC fu (a9 (pv 0) (a9 ay ag)))) (a9 (bu dI ay (pC fu (a9 (pv 0) (a9 ay ag)))) (a9 ay ag)))) (pC fu (a9 (pv 0) (a9 ay ag))) (fun _ _=>rfl)))),?_⟩
  walk_at "r"
  refine⟨d,c0,12,rfl,hD,by decide,by decide,fun x H1 x0 x1 hD1 b1=>?_⟩
  walk_at "r"
  refine⟨d,c0,4,rfl,hD1,by decide,by decide,fun y H2 y0 y1 hD2 b2=>?_⟩
  walk_at "r"
  refine⟨by show 3<=sizeLine;decide,fun p hp=>?_⟩
  have s3:=au (o:=.tup [V.int (1+x),V.int (3+y),V.int 12]) hp
  have hp3:ab H2 p (.tup [V.int (1+x),V.int (3+y),V.int 12]) p=some (.tup [V.int (1+x),V.int (3+y),V.int 12]):=aq
  generalize ab H2 p (.tup [V.int (1+x),V.int (3+y),V.int 12])=H3 at s3 hp3⊢
  have hD3:=hD2.same s3
  walk_at "r"
  refine⟨d,c0,3,rfl,hD3,by decide,by decide,fun r H4 r0 r1 hD4 b4=>?_⟩
  have hp4:=b4 _ _ (hD3.ne_tup hp3) hp3
  have b04:=(b1.trans b2).trans ((s3.but (d:=d)).trans b4)
  rcases(show r=0\/r=1\/r=2 by omega)with rfl|rfl|rfl
  ·exact pV (ax.of hp4) (v:=.int (1+x)) rfl (k _ _ (by omega) (by omega) hD4 b04)
  ·exact pV (ax.of hp4) (v:=.int (3+y)) rfl (k _ _ (by omega) (by omega) hD4 b04)
  ·exact pV (ax.of hp4) (v:=.int 12) rfl (k _ _ (by omega) (by omega) hD4 b04)
structure EC(af:Int)(ns ms:List Int):Prop where
 nd1:ns.Nodup
 nd2:ms.Nodup
 p1:1<=ns.length
 p2:1<=ms.length
 l1:(ns.length:Int)<=af
 l2:(ms.length:Int)<=af
 u1:∀x∈ns,1<=x/\x<=60
 u2:∀x∈ms,1<=x/\x<=60
noncomputable def xw:Sp:=fun vs H Q _=>∃(d c0:Addr) (af:Int),vs=[.ref d,.int af]/\cj H d c0/\1<=af/\af<=12/\
 ∀t H' (p q:Addr) (ns ms:List Int),cj H' d c0->cI d H H'->H t=none->H' t=some (.tup [.ref p,.ref q])->H' p=some (.lst (ns.map V.int))->H' q=some (.lst (ms.map V.int))->EC af ns ms->Q (.ref t) H'
theorem Ms{d c0 e:Addr}{H H':Hp}(hD:cj H d c0)(hD':cj H' d c0)(b:cI d H H')(he:H' e=none):H e=none:=by
 cases hh:H e with
 |none=>rfl
 |some o=>
  by_cases hed:e=d
  ·subst hed
   obtain⟨⟨o2,ho2⟩,_⟩:=hD'.is
   rw[he]at ho2
   cases ho2
  ·have:=b _ _ hed hh
   rw[he]at this
   cases this
abbrev tG:Stmt:=bf 88
abbrev ED:List Str:=["_law_draw","_law_slip_here","_law_start","_law_goal","_law_fresh","_law_new"]
theorem mJ:a_ ED ["_law_draw","_law_slip_here"] (aC tG):=bc
theorem Mt:(["_law_timber","_law_start"]:List Str).Nodup:=by decide+kernel
theorem Mu:bE ED (aC tG) (cS [("_law_timber",kL),("_law_start",kF)]) ["_law_timber"] [(2,"_law_start")]:=cg
theorem Mv{f:Addr}{fd:FuncData}(F:aX K "_law_ends" "_law_ends" tG f fd)(T:bG mg)(fu:aY P w K mg base "_law_take" 1 ["_law_draw","_law_many"] nY)(lX:aY P w K mg base "_law_some" 2 ["_law_draw","_law_pool","_law_many"] (tj K)):aK P w K mg base aV 3 f fd ["_law_draw","_law_slip_here"] xw:=by
 refine F.ok mJ (fun vs H Q E h=>?_) (fun aM A outer s H vs Q E hr h=>?_)
 ·obtain⟨d,c0,af,rfl,_⟩:=h
  rfl
 ·obtain⟨d,c0,af,rfl,hD,h1,h2,k⟩:=h
  refine⟨_,(aF (bR (i:=2) mJ.nd rfl (Or.inr rfl) (pC lX (a9 (pv 0) (a9 (dJ (K2 rfl) (by rfl) T.z_list mh (a9 (dJ K1 (by rfl) T.z_range Kc (a9 ay (a9 ay ag))) ag)) (a9 (bu dI ay (pC fu (a9 (pv 0) (a9 (pv 1) ag)))) ag)))))
   (aF (bR (i:=3) mJ.nd rfl (Or.inl rfl) (pC lX (a9 (pv 0) (a9 (pv 2) (a9 (bu ja (pC fu (a9 (pv 0) (a9 (bu dI (bp (cQ (K:=K) rfl) (by rfl) T.z_len cB (a9 (pv 2) ag)) ay) ag))) (dJ K3 (by rfl) T.z_int Cf (a9 (fP ia (pC fu (a9 (pv 0) (a9 ay ag))) ay (bO _)) ag))) ag)))))
   (aF (kR (iy:=4) rfl mJ.nd rfl rfl Mu (uX (by rfl) T.z_range (a9 ay (a9 ay ag))) (by intro _ _ _ _ _;exact(aR (i:=0) Mt rfl (Or.inl rfl))) (by intro _ _ _ _ _;exact(iH (c7 (mn (K:=K) rfl) (pv 0) (pv 1) (by with_unfolding_all rfl)))) (by intro _ _ _ _ _;exact(pv 0)) (by rfl))
   (aF (bR (i:=5) mJ.nd rfl (Or.inl rfl) (pC lX (a9 (pv 0) (a9 (pv 4) (a9 (pC fu (a9 (pv 0) (a9 (bu dI (bu v5 (pv 1) (bp (cQ (K:=K) rfl) (by rfl) T.z_len cB (a9 (pv 3) ag))) ay) ag))) ag)))))
   (aF (bR (i:=3) mJ.nd rfl (Or.inl rfl) (bu nG (pv 3) (pv 5)))
   (aF (bQ (c7 (Dv hr.units) (pv 3) (fR ag) (bO _)) (aA (bR (i:=3) mJ.nd rfl (Or.inl rfl) (fR (a9 (cp (fI (K:=K) rfl) (pv 2) ay (fun _ _=>rfl)) ag)))) bU)
   (aA (aU (e_ (a9 (pv 2) (a9 (pv 3) ag))))))))))),?_⟩
  walk_at "r"
  intro g hg
  walk_at "r"
  refine K6 aq (by decide) (by decide) (by decide) (by decide) (by decide) fun l hl=>?_
  have s1:=(au (o:=.rng 1 61) hg).trans (au (o:=.lst ((cy 1 (61 - 1:Int).toNat).map V.int)) hl)
  have hl1:ab (ab H g (.rng 1 61)) l (.lst ((cy 1 (61 - 1:Int).toNat).map V.int)) l=_:=aq
  generalize ab (ab H g (.rng 1 61)) l (.lst ((cy 1 (61 - 1:Int).toNat).map V.int))=H1 at s1 hl1⊢
  have hD1:=hD.same s1
  walk_at "r"
  refine⟨d,c0,af,rfl,hD1,by omega,qr (by omega) (by omega),fun r H2 r0 r1 hD2 b2=>?_⟩
  have hl2:=b2 _ _ (hD1.ne_ints hl1) hl1
  have bt2:=(s1.but (d:=d)).trans b2
  walk_at "r"
  have lr:(cy 1 (61 - 1:Int).toNat).length=60:=jR 1 60
  have ndr:(cy 1 (61 - 1:Int).toNat).Nodup:=(wu 1 60).imp fun h z=>by omega
  have mr:∀x∈cy 1 (61 - 1:Int).toNat,1<=x/\x<=60:=fun x hx=>by have:=pZ.mp hx;omega
  generalize cy 1 (61 - 1:Int).toNat=all at lr ndr mr hl1 hl2
  refine⟨d,c0,l,all,_,rfl,hD2,ai.of hl2,by omega,by omega,by omega,fun p H3 ns us hD3 b3 hp0 hp3 pm ln=>?_⟩
  have bt3:=bt2.trans b3
  have nd1:ns.Nodup:=(qT.mp (pm.nodup_iff.mpr ndr)).1
  have u1:∀x∈ns,1<=x/\x<=60:=fun x hx=>mr x (pm.mem_iff.mp (ki _ hx))
  have ln1:1<=ns.length:=by omega
  have ln2:(ns.length:Int)<=af:=by omega
  clear hl2 b3 b2 hl1 s1 bt2 pm ln
  walk_at "r"
  rw[ar]
  refine⟨d,c0,_,rfl,hD3,by omega,qr (by omega) (by omega),fun x H4 x0 x1 hD4 b4=>?_⟩
  have hp4:=b4 _ _ (hD3.ne_ints hp3) hp3
  walk_at "r"
  refine⟨d,c0,3,rfl,hD4,by decide,by decide,fun y H5 y0 y1 hD5 b5=>?_⟩
  have hp5:=b5 _ _ (hD4.ne_ints hp4) hp4
  have bt5:=bt3.trans (b4.trans b5)
  clear b4 b5 bt3 hp4 hp3
  walk_at "r"
  have hm:∃m:Int,x*(if decide (0<y)=true then 1 else 0)=m/\0<=m/\m<=ns.length:=by
   split
   ·exact⟨x,by omega,by omega,by omega⟩
   ·exact⟨0,by omega,by omega,by omega⟩
  obtain⟨m,em,m0,m1⟩:=hm
  rw[em]
  refine⟨d,c0,p,ns,m,rfl,hD5,ai.of hp5,by omega,by omega,by omega,fun q H6 gs us2 hD6 b6 hq0 hq6 pm2 lg=>?_⟩
  have hp6:=b6 _ _ (hD5.ne_ints hp5) hp5
  have bt6:=bt5.trans b6
  have ndg:gs.Nodup:=(qT.mp (pm2.nodup_iff.mpr nd1)).1
  have mg':∀x∈gs,x∈ns:=fun x hx=>pm2.mem_iff.mp (ki _ hx)
  have lg2:gs.length<=ns.length:=by omega
  clear bt5 b6 hp5 pm2 lg hq0 em
  walk_at "r"
  refine⟨1,61,rfl,by decide,?_⟩
  refine Dy (σ0:=[some (.ref p)]) (f:=fun z=>!decide (z∈ns)) (by decide) ?_ ?_
  ·intro z R hR
   walk_at "r"
   refine mx (ai.of hp6) ?_
   walk_at "r"
   exact hR
  intro e he
  have lf:((cy 1 (61 - 1:Int).toNat).filter fun z=>!decide (z∈ns)).length<=60:=cN (j6 _ _) (by rw[jR];decide)
  have ndf:((cy 1 (61 - 1:Int).toNat).filter fun z=>!decide (z∈ns)).Nodup:=Gg _ ((wu 1 60).imp fun h z=>by omega)
  have mf:∀x∈(cy 1 (61 - 1:Int).toNat).filter fun z=>!decide (z∈ns),x∉ns:=fun x hx=>by
   have:=(gk.mp hx).2
   simpa using this
  have mf2:∀x∈(cy 1 (61 - 1:Int).toNat).filter fun z=>!decide (z∈ns),1<=x/\x<=60:=fun x hx=>by have:=pZ.mp (gk.mp hx).1;omega
  generalize(cy 1 (61 - 1:Int).toNat).filter (fun z=>!decide (z∈ns))=fr at lf ndf mf mf2
  have s7:=au (o:=.lst (fr.map V.int)) he
  have he7:ab H6 e (.lst (fr.map V.int)) e=_:=aq
  have hD7:=hD6.same s7
  have bt7:=bt6.trans (s7.but (d:=d))
  have hp7:=s7 _ _ hp6
  have hq7:=s7 _ _ hq6
  generalize ab H6 e (.lst (fr.map V.int))=H7 at s7 he7 hD7 bt7 hp7 hq7⊢
  clear s7 bt6 hp6 hq6 hD6
  walk_at "r"
  rw[ar]
  refine⟨d,c0,_,rfl,hD7,by omega,qr (by omega) (by omega),fun z H8 z0 z1 hD8 b8=>?_⟩
  have hp8:=b8 _ _ (hD7.ne_ints hp7) hp7
  have hq8:=b8 _ _ (hD7.ne_ints hq7) hq7
  have he8:=b8 _ _ (hD7.ne_ints he7) he7
  walk_at "r"
  refine⟨d,c0,e,fr,z,rfl,hD8,ai.of he8,by omega,by omega,by omega,fun u H9 ws us3 hD9 b9 hu0 hu9 pm3 lw=>?_⟩
  have hp9:=b9 _ _ (hD8.ne_ints hp8) hp8
  have hq9:=b9 _ _ (hD8.ne_ints hq8) hq8
  have bt9:=bt7.trans (b8.trans b9)
  have ndw:ws.Nodup:=(qT.mp (pm3.nodup_iff.mpr ndf)).1
  have mw:∀x∈ws,x∉ns:=fun x hx=>mf x (pm3.mem_iff.mp (ki _ hx))
  have uw:∀x∈ws,1<=x/\x<=60:=fun x hx=>mf2 x (pm3.mem_iff.mp (ki _ hx))
  have lw2:(ws.length:Int)<=z:=by omega
  clear hp8 hq8 he8 bt7 b8 b9 hp7 hq7 he7 pm3 lw
  walk_at "r"
  refine nR hq9 hu9 (mH (by rw[ar,ar];omega)) fun v hv=>?_
  have s10:=au (o:=.lst (gs.map V.int++ws.map V.int)) hv
  have hv10:ab H9 v (.lst (gs.map V.int++ws.map V.int)) v=some (.lst ((gs++ws).map V.int)):=by rw[aq,cF]
  have hD10:=hD9.same s10
  have hp10:=s10 _ _ hp9
  have bt10:=bt9.trans (s10.but (d:=d))
  generalize ab H9 v (.lst (gs.map V.int++ws.map V.int))=H10 at s10 hv10 hD10 hp10 bt10⊢
  have ndm:(gs++ws).Nodup:=qT.mpr ⟨ndg,ndw,fun x hx y hy z=>mw y hy (z▸mg' x hx)⟩
  have lm:((gs++ws).length:Int)<=af:=by rw[bF];omega
  clear s10 hp9 hq9 hu9 bt9 hD9
  have um:∀x∈gs++ws,1<=x/\x<=60:=fun x hx=>by
   rcases iu.mp hx with q|q
   ·exact u1 x (mg' x q)
   ·exact uw x q
  generalize gs++ws=ms at hv10 ndm lm um
  walk_at "r"
  refine⟨b_ _,fun o ho=>?_⟩
  have s11:=au (o:=.lst []) ho
  refine sJ (ms:=[]) (s11 _ _ hv10) aq ?_
  rw[av cq]
  have hD11:=hD10.same s11
  have bt11:=bt10.trans (s11.but (d:=d))
  have hp11:=s11 _ _ hp10
  have hv11:=s11 _ _ hv10
  generalize ab H10 o (.lst [])=H11 at s11 hD11 bt11 hp11 hv11⊢
  walk_at "r"
  have last:∀(H':Hp) (q':Addr) (ms':List Int) (t:Addr),cj H' d c0->cI d H H'->H' p=some (.lst (ns.map V.int))->H' q'=some (.lst (ms'.map V.int))->ms'.Nodup->1<=ms'.length->(ms'.length:Int)<=af->(∀x∈ms',1<=x/\x<=60)->H' t=none->Q (.ref t) (ab H' t (.tup [.ref p,.ref q'])):=by
   intro H' q' ms' t hD' bt' hp' hq' nd' l' l'' u' ht
   have s':=au (o:=.tup [.ref p,.ref q']) ht
   exact k t _ p q' ns ms' (hD'.same s') (bt'.trans (s'.but (d:=d))) (Ms hD hD' bt' ht) aq (s' _ _ hp') (s' _ _ hq') ⟨nd1,nd',ln1,l',ln2,l'',u1,u'⟩
  cases hz:decide (ms=[])with
  |true=>
   refine ba ?_
   walk_at "r"
   have hx0:(ns.map V.int)[0]?=some (.int (ns[0]'(by omega))):=by rw[aI,aN (by omega)];rfl
   refine nL (ai.of hp11) (show iF (ns.map V.int) ((0:Nat):Int)=_ from vg hx0) ?_
   walk_at "r"
   refine⟨by show 1<=sizeLine;decide,fun v2 hv2=>?_⟩
   have s12:=au (o:=.lst [.int (ns[0]'(by omega))]) hv2
   have hv12:ab H11 v2 (.lst [.int (ns[0]'(by omega))]) v2=some (.lst ([ns[0]'(by omega)].map V.int)):=aq
   have hD12:=hD11.same s12
   have bt12:=bt11.trans (s12.but (d:=d))
   have hp12:=s12 _ _ hp11
   generalize ab H11 v2 (.lst [.int (ns[0]'(by omega))])=H12 at s12 hv12 hD12 bt12 hp12⊢
   walk_at "r"
   refine⟨by show 2<=sizeLine;decide,fun t ht=>?_⟩
   exact last _ v2 _ t hD12 bt12 hp12 hv12 (lO.mpr ⟨by simp,mZ⟩) (aG _) (by simpa using h1) (fun x hx=>by rw[lN.mp hx];exact u1 _ (gT _)) ht
  |false=>
   refine bj ?_
   walk_at "r"
   refine⟨by show 2<=sizeLine;decide,fun t ht=>?_⟩
   have:ms≠[]:=of_decide_eq_false hz
   have hpos:1<=ms.length:=by
    cases ms with
    |nil=>exact absurd rfl this
    |cons _ _=>simp
   exact last _ v ms t hD11 bt11 hp11 hv11 ndm hpos lm um ht
noncomputable def rg(S:List (List Int))(g:List Int):Nat->List (List Int)×List (List Int)
 |0=>([g],S)
 |n+1=>(((rg S g n).2.filter fun ys=>!decide (ys∈(rg S g n).1)).filter (fun ys=>(rg S g n).1.any fun zs=>gK ys zs),(rg S g n).2.filter fun ys=>!decide (ys∈(rg S g n).1))
theorem xx{S:List (List Int)}{g:List Int}:∀(n:Nat) (y:List Int),y∈(rg S g n).2↔y∈S/\∀i,i<n->y∉ (rg S g i).1
 |0,y=>by
  show y∈S↔_
  exact⟨fun h=>⟨h,fun i hi=>by omega⟩,fun h=>h.1⟩
 |n+1,y=>by
  show y∈(rg S g n).2.filter _↔_
  rw[gk,xx n y]
  constructor
  ·rintro⟨⟨h1,h2⟩,h3⟩
   refine⟨h1,fun i hi=>?_⟩
   rcases dh i n with q|q
   ·exact h2 i q
   ·have:i=n:=by omega
    subst this
    simpa using h3
  ·rintro⟨h1,h2⟩
   exact⟨⟨h1,fun i hi=>h2 i (by omega)⟩,by simpa using h2 n (by omega)⟩
theorem qw{S:List (List Int)}{g:List Int}{n:Nat}{y:List Int}:y∈(rg S g (n+1)).1↔y∈(rg S g (n+1)).2/\∃z∈(rg S g n).1,gK y z=true:=by
 show y∈List.filter _ _↔_
 rw[gk,List.any_eq_true]
 rfl
theorem Mw{S:List (List Int)}{g:List Int}(hg:g∈S):∀{n:Nat} {y:List Int},y∈(rg S g n).1->y∈S
 |0,y,h=>by
  rw[lN.mp h];exact hg
 |n+1,y,h=>((xx (n+1) y).mp (qw.mp h).1).1
theorem Mx{S:List (List Int)}{g:List Int}{i j:Nat}{y:List Int}(h1:y∈(rg S g i).1)(h2:y∈(rg S g j).1):i=j:=by
 have lt:∀{i j:Nat},i<j->y∈(rg S g i).1->y∈(rg S g j).1->False:=by
  intro i j hij h1 h2
  obtain⟨k,rfl⟩:∃k,j=k+1:=⟨j - 1,by omega⟩
  exact((xx (k+1) y).mp (qw.mp h2).1).2 i hij h1
 rcases Nat.lt_trichotomy i j with q|q|q
 ·exact(lt q h1 h2).elim
 ·exact q
 ·exact(lt q h2 h1).elim
theorem xy{S:List (List Int)}{g:List Int}{n:Nat}(h:(rg S g n).1=[]):∀k,(rg S g (n+k)).1=[]
 |0=>h
 |k+1=>by
  have ih:=xy h k
  rw[List.eq_nil_iff_forall_not_mem]
  intro y hy
  obtain⟨_,z,hz,_⟩:=qw (n:=n+k).mp hy
  rw[ih]at hz
  cases hz
open Classical in
noncomputable def gL(S:List (List Int))(g y:List Int):Option Nat:=if h:∃i,y∈(rg S g i).1 then some h.choose else none
theorem xA{S:List (List Int)}{g y:List Int}{i:Nat}(h:y∈(rg S g i).1):gL S g y=some i:=by
 have e:∃i,y∈(rg S g i).1:=⟨i,h⟩
 unfold gL
 rw[dif_pos e,Mx e.choose_spec h]
theorem My{S:List (List Int)}{g y:List Int}(h:∀i,y∉ (rg S g i).1):gL S g y=none:=by
 unfold gL
 rw[dif_neg (fun⟨i,q⟩=>h i q)]
noncomputable def mK(K:W.Frag)(H:Hp)(p q:Addr)(ns ms:List Int):Prop:=cZ K H p (ns.map V.int)/\cZ K H q (ms.map V.int)/\ns.length<64/\ms.length<64
theorem mK.same{H H':Hp}{p q:Addr}{ns ms:List Int}(h:mK K H p q ns ms)(s:aw H H'):mK K H' p q ns ms:=⟨h.1.same s,h.2.1.same s,h.2.2⟩
theorem EE{H:Hp}:∀{ws:List V} {ps:List T3},bS H ws (ps.map mI)->∃ts:List Addr,ws=ts.map V.ref/\eU H ts (ps.map xf)
 |[],[],_=>⟨[],rfl,rfl,fun i t ys e=>by simp at e⟩
 |_::_,[],h=>by cases h
 |[],_::_,h=>by cases h
 |v::ws,p::ps,h=>by
  cases h with
  |cons a r=>
   obtain⟨t,rfl,ht⟩:=LX a
   obtain⟨ts,rfl,h2⟩:=EE r
   refine⟨t::ts,rfl,by simp[h2.1],fun i t' ys e1 e2=>?_⟩
   cases i with
   |zero=>cases e1;cases e2;exact ht
   |succ i=>exact h2.2 i t' ys (by simpa using e1) (by simpa using e2)
noncomputable def fK(H:Hp)(l:Addr)(aJ:List (List Int)):Prop:=∃ts:List Addr,H l=some (.lst (ts.map V.ref))/\eU H ts aJ
theorem fK.same{H H':Hp}{l:Addr}{aJ:List (List Int)}(h:fK H l aJ)(s:aw H H'):fK H' l aJ:=by
 obtain⟨ts,h1,h2⟩:=h
 exact⟨ts,s _ _ h1,h2.same s⟩
noncomputable def dO(ns ms:List Int)(af:Int):List (List Int):=(k_ (dg ns ms) (aZ ns ms) (dg ms ns) af).map xf
noncomputable def dv(ns ms:List Int):List Int:=(gG ns).filter fun x=>!decide (x∈ms)
noncomputable def fZ(ns ms:List Int):List Int:=(gG ns).filter fun x=>decide (x∈ms)
theorem j1{ns ms:List Int}{x:Int}:x∈dv ns ms↔dN ns ms x:=by unfold dv dN;rw[gk,fW];simp
theorem lq{ns ms:List Int}{x:Int}:x∈fZ ns ms↔fJ ns ms x:=by unfold fZ fJ;rw[gk,fW];simp
noncomputable def bL(bs ns ms:List Int):List Int:=[(aZ bs (dv ns ms):Nat),(aZ bs (fZ ns ms):Nat),(aZ bs (dv ms ns):Nat)]
noncomputable def tH(K:W.Frag):Sp:=fun vs H Q _=>∃(r p q:Addr) (bs ns ms:List Int),vs=[.ref r,.ref p,.ref q]/\cZ K H r (bs.map V.int)/\bs.length<64/\mK K H p q ns ms/\∀t H',aw H H'->H' t=some (.tup ((bL bs ns ms).map V.int))->Q (.ref t) H'
abbrev tI:Stmt:=bf 31
abbrev EF:List Str:=["boat","start","goal","alone","both","wished"]
theorem tJ:a_ EF ["boat","start","goal"] (aC tI):=bc
theorem Mz:(["timbers","boat"]:List Str).Nodup:=by decide+kernel
theorem MA:bE EF (aC tI) (cS [("timbers",kL),("len",kG),("common",kG),("boat",kF)]) ["timbers"] [(0,"boat")]:=cg
theorem MB{f:Addr}{fd:FuncData}(F:aX K "stage_of" "stage_of" tI f fd)(T:bG mg)(kB:aY P w K mg base "common" 1 ["one","other"] (jm K fJ))(kC:aY P w K mg base "timbers_by_kind" 2 ["start","goal"] (qt K)):aK P w K mg base aV 3 f fd ["boat","start","goal"] (tH K):=by
 refine F.ok tJ (fun vs H Q E h=>?_) (fun aM A outer s H vs Q E hr h=>?_)
 ·obtain⟨r,p,q,bs,ns,ms,rfl,_⟩:=h
  rfl
 ·obtain⟨r,p,q,bs,ns,ms,rfl,hb,lb,⟨hp,hq,l1,l2⟩,k⟩:=h
  refine⟨_,(aF (iU (eL rfl MA (fm (K:=K) rfl (pC kC (a9 (pv 1) (a9 (pv 2) ag)))) (by intro _ _ _ _ _;exact(aR (i:=0) Mz rfl (Or.inl rfl))) (by intro _ _ _ _ _;exact cH) (by intro _ _ _ _ _;exact(bp (cQ (K:=K) rfl) (by rfl) T.z_len cB (a9 (pC kB (a9 (pv 1) (a9 (pv 0) ag))) ag)))) (DH (K:=K) (n:=3) rfl rfl (bW (aR (i:=3) tJ.nd rfl (Or.inl rfl)) (bW (aR (i:=4) tJ.nd rfl (Or.inl rfl)) (bW (aR (i:=5) tJ.nd rfl (Or.inl rfl)) fw)))))
   (aA (aU (e_ (a9 (pv 3) (a9 (pv 4) (a9 (pv 5) ag))))))),?_⟩
  walk_at "r"
  refine⟨p,q,ns,ms,rfl,hp,hq,l1,l2,fun l H2 a b c r1 r2 r3 s2 _ hl2 ha2 hb2 hc2 ris1 ris2 ris3 _=>?_⟩
  have lr1:r1.length<64:=eN (ris1.le fun x h=>h.1) l1
  have lr2:r2.length<64:=eN (ris2.le fun x h=>h.1) l1
  have lr3:r3.length<64:=eN (ris3.le fun x h=>h.1) l2
  have c1:∀{rs:List Int},bH rs (fJ bs r1)->rs.length=aZ bs (dv ns ms):=fun ris=>by
   rw[fX ris.nodup ris.2]
   exact iY (fun x=>eG) (fun x=>by rw[ris1.2,j1])
  have c2:∀{rs:List Int},bH rs (fJ bs r2)->rs.length=aZ bs (fZ ns ms):=fun ris=>by
   rw[fX ris.nodup ris.2]
   exact iY (fun x=>eG) (fun x=>by rw[ris2.2,lq])
  have c3:∀{rs:List Int},bH rs (fJ bs r3)->rs.length=aZ bs (dv ms ns):=fun ris=>by
   rw[fX ris.nodup ris.2]
   exact iY (fun x=>eG) (fun x=>by rw[ris3.2,j1])
  have hb':=hb.same s2
  refine⟨l,rfl,⟨_,ai.of hl2⟩,?_⟩
  refine iM (ws:=(bL bs ns ms).map V.int) (fun σ=>∃x,σ=[x,some (.ref r)]) ⟨none,rfl⟩ (show 3<=1000 by decide) (fun H' s'=>⟨_,ai.of (s' _ _ hl2),aG _⟩) (fun i H' hi s'=>?_) ?_ ?_
  ·have hi':i<[V.ref a,V.ref b,V.ref c].length:=hi
   exact⟨_,_,ai.of (s' _ _ hl2),aN hi'⟩
  ·rintro i wv x σ' H' G R R0 hw ⟨x0,rfl⟩ s' ⟨rfl,hy⟩ hR
   have ex:=hy _ (ai.of (s' _ _ hl2))
   match i,hw,ex with
   |0,hw,ex=>
    cases hw;cases ex
    walk_at "r"
    refine ba ?_
    walk_at "r"
    refine⟨r,a,bs,r1,rfl,hb'.same s',.inl (ai.of (s' _ _ ha2)),lb,lr1,fun e H5 rs s5 _ he ris=>?_⟩
    walk_at "r"
    rw[ar,c1 ris]
    exact hR _ _ ⟨_,rfl⟩ (s'.trans s5)
   |1,hw,ex=>
    cases hw;cases ex
    walk_at "r"
    refine ba ?_
    walk_at "r"
    refine⟨r,b,bs,r2,rfl,hb'.same s',.inl (ai.of (s' _ _ hb2)),lb,lr2,fun e H5 rs s5 _ he ris=>?_⟩
    walk_at "r"
    rw[ar,c2 ris]
    exact hR _ _ ⟨_,rfl⟩ (s'.trans s5)
   |2,hw,ex=>
    cases hw;cases ex
    walk_at "r"
    refine ba ?_
    walk_at "r"
    refine⟨r,c,bs,r3,rfl,hb'.same s',.inl (ai.of (s' _ _ hc2)),lb,lr3,fun e H5 rs s5 _ he ris=>?_⟩
    walk_at "r"
    rw[ar,c3 ris]
    exact hR _ _ ⟨_,rfl⟩ (s'.trans s5)
   |n+3,hw,ex=>simp[bL]at hw
  ·intro H3 s3 D hD
   have s4:=s2.trans (s3.trans (au (o:=.lst ((bL bs ns ms).map V.int)) hD))
   have hD4:ab H3 D (.lst ((bL bs ns ms).map V.int)) D=some (.lst ((bL bs ns ms).map V.int)):=aq
   generalize ab H3 D (.lst ((bL bs ns ms).map V.int))=H4 at s4 hD4⊢
   refine DJ (ai.of hD4) rfl ?_
   refine rZ (fU (rZ (fU (rZ (fU (Cm ?_))))))
   walk_at "r"
   exact⟨by show 3<=sizeLine;decide,fun t ht=>k t _ (s4.trans (au ht)) aq⟩
noncomputable def tK:Sp:=fun vs H Q _=>∃(a l:Addr) (xs:List Int) (aJ:List (List Int)),vs=[.ref a,.ref l]/\H a=some (.tup (xs.map V.int))/\xs.length=3/\fK H l aJ/\(∀ys∈aJ,ys.length=3)/\
 (∀t ys H',aw H H'->ys∈aJ->gK xs ys=true->H' t=some (.tup (ys.map V.int))->Q (.ref t) H')/\((∀ys∈aJ,gK xs ys=false)->∀H',aw H H'->Q .non H')
abbrev xB:Stmt:=bf 34
theorem EG:a_ ["stage","others","other"] ["stage","others"] (aC xB):=bc
theorem MC{f:Addr}{fd:FuncData}(F:aX K "first_near" "first_near" xB f fd)(T:bG mg)(Af:aY P w K mg base "near" 1 ["one","other"] (xg K)):aK P w K mg base aV 2 f fd ["stage","others"] tK:=by
 refine F.ok EG (fun vs H Q E h=>?_) (fun aM A outer s H vs Q E hr h=>?_)
 ·obtain⟨a,l,xs,aJ,rfl,_⟩:=h
  rfl
 ·obtain⟨a,l,xs,aJ,rfl,ha,l3,⟨ts,hl,hts⟩,hy3,kt,kn⟩:=h
  refine⟨_,(aF (hU gU rfl (fm (K:=K) rfl (pv 1)) (aR (i:=2) EG.nd rfl (Or.inl rfl)) (aA (bQ (dX (pC Af (a9 (pv 0) (a9 (pv 2) ag)))) (aA (aU (pv 2))) bU)))
   (aA (aU pf))),?_⟩
  walk_at "r"
  refine⟨l,rfl,⟨_,ai.of hl⟩,?_⟩
  refine h_ (fun i σ' H'=>(∃x,σ'=[some (.ref a),some (.ref l),x])/\aw H H'/\∀j,j<i->∀ys,aJ[j]?=some ys->gK xs ys=false) aJ.length ⟨⟨none,rfl⟩,aw.refl _,fun j hj=>by omega⟩ ?_ ?_
  ·rintro σ' H' ⟨⟨x,rfl⟩,s1,nn⟩
   refine⟨⟨_,ai.of (s1 _ _ hl),by rw[ar,hts.1];exact aG _⟩,?_⟩
   walk_at "r"
   refine kn (fun ys hys=>?_) _ s1
   obtain⟨j,hj,e⟩:=Qs.mp hys
   exact nn j hj ys (by rw[aN hj,e])
  ·rintro i σ' H' hi ⟨⟨x,rfl⟩,s1,nn⟩
   have hi2:i<ts.length:=by rw[hts.1];exact hi
   have e1:ts[i]?=some ts[i]:=aN hi2
   have e2:aJ[i]?=some aJ[i]:=aN hi
   have ht:=hts.2 i _ _ e1 e2
   refine⟨⟨_,.ref ts[i],ai.of (s1 _ _ hl),by rw[aI,e1];rfl⟩,?_⟩
   rintro x' G ⟨rfl,hy⟩
   have ex:=hy _ (ai.of (s1 _ _ hl))
   rw[aI,e1]at ex
   cases ex
   walk_at "r"
   refine⟨a,ts[i],xs,aJ[i],rfl,ax.of (s1 _ _ ha),ax.of (s1 _ _ ht),l3,hy3 _ (gT hi),fun H2 s2=>?_⟩
   have s12:=s1.trans s2
   walk_at "r"
   cases hn:gK xs aJ[i]with
   |true=>
    refine ba ?_
    walk_at "r"
    exact kt _ _ _ s12 (gT hi) hn (s12 _ _ ht)
   |false=>
    refine bj ?_
    walk_at "r"
    refine⟨⟨_,rfl⟩,s12,fun j hj ys ey=>?_⟩
    by_cases hji:j<i
    ·exact nn j hji ys ey
    ·have:j=i:=by omega
     subst this
     rw[e2]at ey
     cases ey
     exact hn
noncomputable def qx(H:Hp)(l:Addr)(bq:List (List (List Int))):Prop:=∃rs:List Addr,H l=some (.lst (rs.map V.ref))/\rs.length=bq.length/\∀(i:Nat) r aJ,rs[i]?=some r->bq[i]?=some aJ->fK H r aJ
theorem qx.same{H H':Hp}{l:Addr}{bq:List (List (List Int))}(h:qx H l bq)(s:aw H H'):qx H' l bq:=by
 obtain⟨rs,h1,h2,h3⟩:=h
 exact⟨rs,s _ _ h1,h2,fun i r aJ e1 e2=>(h3 i r aJ e1 e2).same s⟩
noncomputable def xC:Sp:=fun vs H Q _=>∃(a l:Addr) (xs:List Int) (bq:List (List (List Int))),vs=[.ref a,.ref l]/\H a=some (.tup (xs.map V.int))/\qx H l bq/\
 (∀(h:Nat) aJ H',aw H H'->bq[h]?=some aJ->xs∈aJ->Q (.int h) H')/\((∀aJ∈bq,xs∉aJ)->∀H',aw H H'->Q .non H')
abbrev xD:Stmt:=bf 36
theorem xE:a_ ["stage","told","height","ring"] ["stage","told"] (aC xD):=bc
theorem MD{f:Addr}{fd:FuncData}(F:aX K "height_of" "height_of" xD f fd)(T:bG mg):aK P w K mg base aV 1 f fd ["stage","told"] xC:=by
 refine F.ok xE (fun vs H Q E h=>?_) (fun aM A outer s H vs Q E hr h=>?_)
 ·obtain⟨a,l,xs,bq,rfl,_⟩:=h
  rfl
 ·obtain⟨a,l,xs,bq,rfl,ha,⟨rs,hl,lr,hrs⟩,kh,kn⟩:=h
  refine⟨_,(aF (hU gU rfl (sL (K:=K) rfl (by rfl) T.z_enumerate (a9 (pv 1) ag)) (fV (K:=K) (n:=2) rfl rfl (bW (aR (i:=2) xE.nd rfl (Or.inl rfl)) (bW (aR (i:=3) xE.nd rfl (Or.inl rfl)) fw))) (aA (bQ (c7 (Kw hr.units) (pv 0) (pv 3) (by with_unfolding_all rfl)) (aA (aU (pv 2))) bU)))
   (aA (aU pf))),?_⟩
  walk_at "r"
  refine⟨l,rfl,⟨_,ai.of hl⟩,?_⟩
  refine h_ (fun i σ' H'=>(∃x y,σ'=[some (.ref a),some (.ref l),x,y])/\aw H H'/\∀j,j<i->∀aJ,bq[j]?=some aJ->xs∉aJ) bq.length ⟨⟨none,none,rfl⟩,aw.refl _,fun j hj=>by omega⟩ ?_ ?_
  ·rintro σ' H' ⟨⟨x,y,rfl⟩,s1,nn⟩
   refine⟨⟨_,ai.of (s1 _ _ hl),by rw[ar];omega⟩,?_⟩
   walk_at "r"
   refine kn (fun aJ hys=>?_) _ s1
   obtain⟨j,hj,e⟩:=Qs.mp hys
   exact nn j hj aJ (by rw[aN hj,e])
  ·rintro i σ' H' hi ⟨⟨x,y,rfl⟩,s1,nn⟩
   have hi2:i<rs.length:=by omega
   have e1:rs[i]?=some rs[i]:=aN hi2
   have e2:bq[i]?=some bq[i]:=aN hi
   obtain⟨ts,hr1,hts⟩:=hrs i _ _ e1 e2
   refine⟨⟨_,.ref rs[i],ai.of (s1 _ _ hl),by rw[aI,e1];rfl⟩,?_⟩
   rintro x' G ⟨t',u,rfl,hn,rfl,hy⟩
   have ex:=hy _ (ai.of (s1 _ _ hl))
   rw[aI,e1]at ex
   cases ex
   have s2:=s1.trans (au (o:=.tup [.int i,.ref rs[i]]) hn)
   refine ig (ax.of aq) rfl ?_
   walk_at "r"
   refine DL (s2 _ _ ha) (s2 _ _ hr1) (hts.same s2) ?_
   rw[av (by decide)]
   walk_at "r"
   by_cases hx:xs∈bq[i]
   ·rw[bZ hx]
    refine ba ?_
    walk_at "r"
    exact kh i _ _ s2 e2 hx
   ·rw[cz hx]
    refine bj ?_
    walk_at "r"
    refine⟨⟨_,_,rfl⟩,s2,fun j hj aJ ey=>?_⟩
    by_cases hji:j<i
    ·exact nn j hji aJ ey
    ·have:j=i:=by omega
     subst this
     rw[e2]at ey
     cases ey
     exact hx
theorem EH{H1:Hp}{l:Addr}{ts:List Addr}{aJ:List (List Int)}{tt:TT}{f:List Int->Bool}{fr:St}{Fin:List V->Hp->Prop}(hl:H1 l=some (.lst (ts.map V.ref)))(hts:eU H1 ts aJ)(le:aJ.length<=1000)
  (step:∀t ys H' (R:Bool->Hp->Prop),aw H1 H'->H1 t=some (.tup (ys.map V.int))->ys∈aJ->(∀H3,aw H1 H3->R (f ys) H3)->tt (some (.ref t)::fr) H' R)
  (fin:∀us H',aw H1 H'->eU H1 us (aJ.filter f)->Fin (us.map V.ref) H'):ic (kE K l) (dH 0) tt (dq 0) Fin (none::fr) H1:=by
 refine ji (fun i ys σ' H'=>(∃x,σ'=x::fr)/\aw H1 H'/\∃us:List Addr,ys=us.map V.ref/\eU H1 us ((aJ.take i).filter f)/\us.length<=i) aJ.length ⟨⟨none,rfl⟩,aw.refl _,[],rfl,⟨rfl,fun j t p e=>by simp at e⟩,aG _⟩ ?_ ?_
 ·rintro ys σ' H' ⟨_,s1,us,rfl,pu,_⟩
  rw[jy]at pu
  exact⟨⟨_,ai.of (s1 _ _ hl),by rw[ar,hts.1];exact aG _⟩,fin us H' s1 pu⟩
 ·rintro i ys σ' H' hi ⟨⟨x0,rfl⟩,s1,us,rfl,pu,lu⟩
  have hi2:i<ts.length:=by rw[hts.1];exact hi
  have e1:ts[i]?=some ts[i]:=aN hi2
  have e2:aJ[i]?=some aJ[i]:=aN hi
  have ht:=hts.2 i _ _ e1 e2
  refine⟨⟨_,.ref ts[i],ai.of (s1 _ _ hl),by rw[aI,e1];rfl⟩,eN (show(us.map V.ref).length<=1000 by rw[ar];omega) (by decide),?_⟩
  rintro x' G ⟨rfl,hy⟩
  have ex:=hy _ (ai.of (s1 _ _ hl))
  rw[aI,e1]at ex
  cases ex
  refine fU ?_
  have et:aJ.take (i+1)=aJ.take i++[aJ[i]]:=by rw[gu,e2];rfl
  refine step ts[i] aJ[i] _ _ s1 ht (gT hi) fun H3 s3=>?_
  cases hf:f aJ[i]with
  |false=>
   refine bj ?_
   refine cY hi ⟨⟨_,rfl⟩,s3,us,rfl,?_,by omega⟩
   rw[et,gS,gr,hf]
   simpa using pu
  |true=>
   refine ba ?_
   refine du rfl ?_
   refine cY hi ⟨⟨_,rfl⟩,s3,us++[ts[i]],by rw[cF];rfl,?_,by rw[bF];show _+1<=_;omega⟩
   rw[et,gS,gr,hf]
   show eU H1 (us++[ts[i]]) ((aJ.take i).filter f++[aJ[i]])
   refine⟨by simp[pu.1],fun j t' p' f1 f2=>?_⟩
   rcases dh j us.length with q|q
   ·rw[eZ q]at f1
    rw[eZ (by rw[<-pu.1];exact q)]at f2
    exact pu.2 j t' p' f1 f2
   ·rw[dY q]at f1
    rw[dY (by rw[<-pu.1];exact q),<-pu.1]at f2
    cases hz:j - us.length with
    |zero=>
     rw[hz]at f1 f2
     cases f1;cases f2
     exact ht
    |succ m=>
     rw[hz]at f1
     simp at f1
noncomputable def jZ(ns ms:List Int)(ys:List Int):Prop:=∃x y z:Nat,ys=[(x:Int),(y:Int),(z:Int)]/\x<=dg ns ms/\y<=aZ ns ms/\z<=dg ms ns
theorem ME{b c i:Nat}{p:T3}(h:p∈iO b c i):p.1<i/\p.2.1<=b/\p.2.2<=c:=by
 unfold iO at h
 obtain⟨x,hx,h⟩:=Qw.mp h
 unfold iN at h
 obtain⟨y,hy,h⟩:=Qw.mp h
 unfold j0 at h
 obtain⟨z,hz,rfl⟩:=Qd.mp h
 rw[FW]at hx hy hz
 exact⟨hx,by show y<=b;omega,by show z<=c;omega⟩
theorem MF{ns ms:List Int}{af:Int}{ys:List Int}(h:ys∈dO ns ms af):jZ ns ms ys:=by
 obtain⟨p,hp,rfl⟩:=Qd.mp h
 have:=ME (gk.mp hp).1
 exact⟨p.1,p.2.1,p.2.2,rfl,by omega,by omega,by omega⟩
theorem jZ.len{ns ms ys:List Int}(h:jZ ns ms ys):ys.length=3:=by
 obtain⟨x,y,z,rfl,_⟩:=h
 rfl
structure EI(ns ms:List Int)(af:Int)(bq:List (List (List Int))):Prop where
 ok:∀aJ∈bq,∀ys∈aJ,jZ ns ms ys
 e:∀(k:Nat),k<bq.length->bq[k]?=some (rg (dO ns ms af) (bL ms ns ms) k).1
 nil:(rg (dO ns ms af) (bL ms ns ms) bq.length).1=[]
 le:bq.length<=2000
noncomputable def qy(ns ms:List Int)(af:Int):Prop:=af<=12/\1<=bK ns/\(bK ns:Int)<=af/\1<=bK ms/\(bK ms:Int)<=af
noncomputable def xF(K:W.Frag):Sp:=fun vs H Q _=>∃(p q:Addr) (ns ms:List Int) (af:Int),vs=[.ref p,.ref q,.int af]/\mK K H p q ns ms/\qy ns ms af/\
 ∀l H' bq,aw H H'->qx H' l bq->EI ns ms af bq->Q (.ref l) H'
theorem xG(bs L:List Int):aZ bs L<=L.length:=i4 (i5.filter _) fun x hx=>by simpa using(gk.mp hx).2
theorem MG{bs ns ms:List Int}:jZ ns ms (bL bs ns ms):=⟨aZ bs (dv ns ms),aZ bs (fZ ns ms),aZ bs (dv ms ns),rfl,xG _ _,xG _ _,xG _ _⟩
theorem fK.put{H:Hp}{l pt:Addr}{aJ:List (List Int)}{zs:List V}{o:HO}(h:fK H l aJ)(n:l≠pt)(hp:H pt=some (.lst zs)):fK (ab H pt o) l aJ:=by
 obtain⟨ts,h1,h2⟩:=h
 refine⟨ts,by rw[az n];exact h1,h2.1,fun i t ys e1 e2=>?_⟩
 have ht:=h2.2 i t ys e1 e2
 rw[az (fun z=>by rw[z,hp]at ht;cases ht)]
 exact ht
theorem xH{α:Type}{f:α->Bool}:∀{l:List α} {x:α},x∈l->f x=false->(l.filter f).length<l.length
 |y::l,x,h,hf=>by
  rw[gr]
  rcases cE.mp h with rfl|h
  ·rw[hf,av (by decide),cM]
   have:=j6 f l
   omega
  ·have:=xH h hf
   split
   ·rw[cM,cM];omega
   ·rw[cM];omega
structure tL(ns ms:List Int)(af:Int)(H H':Hp)(pr pl pt:Addr)(R L:List (List Int))(bq:List (List (List Int)))(m:Nat):Prop where
 s:aw H H'
 ft:H pt=none
 r:fK H' pr R
 l:fK H' pl L
 t:∃rs:List Addr,H' pt=some (.lst (rs.map V.ref))/\rs.length=bq.length/\(∀x∈rs,x≠pt)/\∀(i:Nat) x aJ,rs[i]?=some x->bq[i]?=some aJ->fK H' x aJ
 n1:pr≠pt
 n2:pl≠pt
 oR:∀ys∈R,jZ ns ms ys
 oL:∀ys∈L,jZ ns ms ys
 lL:L.length<=1000
 lR:R.length<=1000
 ok:∀aJ∈bq,∀ys∈aJ,jZ ns ms ys
 e:∀(k:Nat),k<bq.length->bq[k]?=some (rg (dO ns ms af) (bL ms ns ms) k).1
 e2:rg (dO ns ms af) (bL ms ns ms) bq.length=(R,L)
 le:bq.length+m<=1002
 me:(m=L.length/\∀ys∈R,ys∈L)\/m=L.length+1
abbrev qz:Stmt:=bf 35
abbrev xI:List Str:=["start","goal","slip","ring","left","told"]
theorem o8:a_ xI ["start","goal","slip"] (aC qz):=bc
theorem MH:(["stage","ring"]:List Str).Nodup:=by decide+kernel
theorem MI:bE xI (aC qz) (cS [("stage",kL),("ring",kF)]) ["stage"] [(3,"ring")]:=cg
theorem MJ:(["stage","ring"]:List Str).Nodup:=by decide+kernel
theorem MK:bE xI (aC qz) (cS [("stage",kL),("first_near",kG),("ring",kF)]) ["stage"] [(3,"ring")]:=cg
theorem ML{f:Addr}{fd:FuncData}(F:aX K "rings" "rings" qz f fd)(T:bG mg)(Ag:aY P w K mg base "stages" 4 ["start","goal","slip"] (xq K))(n8:aY P w K mg base "stage_of" 3 ["boat","start","goal"] (tH K))(oM:aY P w K mg base "first_near" 2 ["stage","others"] tK):aK P w K mg base aV 5 f fd ["start","goal","slip"] (xF K):=by
 refine F.ok o8 (fun vs H Q E h=>?_) (fun aM A outer s H vs Q E hr h=>?_)
 ·obtain⟨p,q,ns,ms,af,rfl,_⟩:=h
  rfl
 ·obtain⟨p,q,ns,ms,af,rfl,tw,fit,k0⟩:=h
  refine⟨_,(aF (bR (i:=3) o8.nd rfl (Or.inr rfl) (fR (a9 (pC n8 (a9 (pv 1) (a9 (pv 0) (a9 (pv 1) ag)))) ag)))
   (aF (bR (i:=4) o8.nd rfl (Or.inl rfl) (pC Ag (a9 (pv 0) (a9 (pv 1) (a9 (pv 2) ag)))))
   (aF (bR (i:=5) o8.nd rfl (Or.inl rfl) (fR ag))
   (aF (Bf gU (c7 ((wj hr.units).or (Kb hr.units)) (pv 3) (fR ag) (bO _)) (aF (dG (nS (K:=K) rfl (pv 5) (a9 (pv 3) ag)))
   (aF (kR (iy:=4) rfl o8.nd rfl rfl MI (fm (K:=K) rfl (pv 4)) (by intro _ _ _ _ _;exact(aR (i:=0) MH rfl (Or.inl rfl))) (by intro _ _ _ _ _;exact(iH (c7 (Kx hr.units) (pv 0) (pv 1) (by with_unfolding_all rfl)))) (by intro _ _ _ _ _;exact(pv 0)) (by rfl))
   (aA (bR (i:=3) o8.nd rfl (Or.inr rfl) (eL rfl MK (fm (K:=K) rfl (pv 4)) (by intro _ _ _ _ _;exact(aR (i:=0) MJ rfl (Or.inl rfl))) (by intro _ _ _ _ _;exact(iH (jK (GH (pC oM (a9 (pv 0) (a9 (pv 1) ag))))))) (by intro _ _ _ _ _;exact(pv 0))))))))
   (aA (aU (pv 5))))))),?_⟩
  walk_at "r"
  refine⟨q,p,q,ms,ns,ms,rfl,tw.2.1,tw.2.2.2,tw,fun t H1 s1 ht1=>?_⟩
  walk_at "r"
  refine⟨by show 1<=sizeLine;decide,fun pr hpr=>?_⟩
  have s2:=s1.trans (au (o:=.lst [.ref t]) hpr)
  have r2:fK (ab H1 pr (.lst [.ref t])) pr [bL ms ns ms]:=⟨[t],aq,rfl,fun i x ys e1 e2=>by
   cases i with
   |zero=>cases e1;cases e2;exact(au (o:=.lst [.ref t]) hpr) _ _ ht1
   |succ i=>simp at e1⟩
  generalize ab H1 pr (.lst [.ref t])=H2 at s2 r2⊢
  walk_at "r"
  have tw2:=tw.same s2
  refine⟨p,q,ns,ms,af,rfl,tw2.1,tw2.2.1,tw2.2.2.1,tw2.2.2.2,fit.1,fit.2.1,fit.2.2.1,fit.2.2.2.1,fit.2.2.2.2,fun pl H3 ws3 s3' _ hw3 rp3=>?_⟩
  obtain⟨ts3,rfl,hts3⟩:=EE rp3
  have l3:fK H3 pl (dO ns ms af):=⟨ts3,hw3,by unfold dO;exact hts3⟩
  have s3:=s2.trans s3'
  have r3:=r2.same s3'
  obtain⟨h12,c1,c2,c3,c4⟩:=id fit
  have lS:(dO ns ms af).length<=1000:=by
   unfold dO
   rw[ar]
   have q1:=jk ns ms
   have q2:=jk ms ns
   rw[my ms ns]at q2
   exact M4 (by omega) (by omega)
  walk_at "r"
  refine⟨b_ _,fun pt hpt=>?_⟩
  have x4:=au (o:=.lst []) hpt
  have ht4:ab H3 pt (.lst []) pt=some (.lst []):=aq
  have w0:tL ns ms af H (ab H3 pt (.lst [])) pr pl pt [bL ms ns ms] (dO ns ms af) [] ((dO ns ms af).length+1):=by
   obtain⟨tr,hr1,_⟩:=id r3
   obtain⟨tl,hl1,_⟩:=id l3
   exact⟨s3.trans x4,s3.free hpt,r3.same x4,l3.same x4,⟨[],ht4,rfl,fun x hx=>(by cases hx),fun i x aJ e=>(by simp at e)⟩,bh hr1 hpt,bh hl1 hpt,
    fun ys hy=>(by rw[lN]at hy;rw[hy];exact MG),fun ys hy=>MF hy,lS,(by show 1<=1000;decide),fun aJ hy=>(by cases hy),fun k hk=>(by simp at hk),rfl,(by show 0+_<=_;omega),.inr rfl⟩
  generalize ab H3 pt (.lst [])=H4 at w0⊢
  walk_at "r"
  refine⟨fun m σ' H'=>∃(pr pl:Addr) (R L:List (List Int)) (bq:List (List (List Int))),σ'=[some (.ref p),some (.ref q),some (.int af),some (.ref pr),some (.ref pl),some (.ref pt)]/\tL ns ms af H H' pr pl pt R L bq m,⟨_,pr,pl,_,_,[],rfl,w0⟩,?_⟩
  clear w0 r3 l3 s3 s2 r2
  rintro m σ' H5 ⟨pr,pl,R,L,bq,rfl,wk⟩
  obtain⟨tr,hr5,htr⟩:=id wk.r
  walk_at "r"
  refine⟨b_ _,fun e he=>?_⟩
  have xe:=au (o:=.lst []) he
  have hre:=xe _ _ hr5
  have hee:ab H5 e (.lst []) e=some (.lst []):=aq
  have wk6:tL ns ms af H (ab H5 e (.lst [])) pr pl pt R L bq m:=by
   obtain⟨rs,g1,g2,g3,g4⟩:=wk.t
   exact{wk with s:=wk.s.trans xe,r:=wk.r.same xe,l:=wk.l.same xe,t:=⟨rs,xe _ _ g1,g2,g3,fun i x aJ e1 e2=>(g4 i x aJ e1 e2).same xe⟩}
  generalize ab H5 e (.lst [])=H6 at hre hee wk6⊢
  clear wk xe hr5 he
  have lR:=htr.1
  cases R with
  |nil=>
   left
   have et:tr=[]:=List.eq_nil_of_length_eq_zero (by rw[lR];rfl)
   subst et
   refine wm (d:=.lst []) (.lst hre .nil) (.lst hee .nil) (by decide) ?_
   walk_at "r"
   refine bj ?_
   walk_at "r"
   obtain⟨rs,g1,g2,g3,g4⟩:=wk6.t
   exact k0 pt H6 bq wk6.s ⟨rs,g1,g2,g4⟩ ⟨wk6.ok,wk6.e,by rw[wk6.e2],by have:=wk6.le;omega⟩
  |cons R0 R1=>
   right
   refine⟨pr,e,_,_,rfl,rfl,hre,hee,by rw[ar,lR];simp,?_⟩
   walk_at "r"
   refine ba ?_
   obtain⟨rs,g1,g2,g3,g4⟩:=wk6.t
   refine⟨fun σ' H'=>∃m',m'<m/\∃(pr pl:Addr) (R L:List (List Int)) (bq:List (List (List Int))),σ'=[some (.ref p),some (.ref q),some (.int af),some (.ref pr),some (.ref pl),some (.ref pt)]/\tL ns ms af H H' pr pl pt R L bq m',fun σ' H' h=>h,?_⟩
   walk_at "r"
   refine⟨.inl ⟨rfl,_,ai.of g1⟩,?_⟩
   walk_at "r"
   refine kW g1 (eN (show(rs.map V.ref).length<=1002 by rw[ar,g2];have:=wk6.le;omega) (by decide)) ?_
   have u1:ab H6 pt (.lst (rs.map V.ref++[.ref pr])) pt=some (.lst ((rs++[pr]).map V.ref)):=by rw[cF];exact aq
   have u2:fK (ab H6 pt (.lst (rs.map V.ref++[.ref pr]))) pr (R0::R1):=wk6.r.put wk6.n1 g1
   have u3:fK (ab H6 pt (.lst (rs.map V.ref++[.ref pr]))) pl L:=wk6.l.put wk6.n2 g1
   have u4:∀(i:Nat) x aJ,(rs++[pr])[i]?=some x->(bq++[R0::R1])[i]?=some aJ->fK (ab H6 pt (.lst (rs.map V.ref++[.ref pr]))) x aJ:=fun i x aJ e1 e2=>by
    rcases dh i rs.length with z|z
    ·rw[eZ z]at e1
     rw[eZ (by omega)]at e2
     exact(g4 i x aJ e1 e2).put (g3 x (dE e1)) g1
    ·rw[dY z]at e1
     rw[dY (by omega),<-g2]at e2
     cases hz:i - rs.length with
     |zero=>
      rw[hz]at e1 e2
      cases e1;cases e2
      exact u2
     |succ n=>
      rw[hz]at e1
      simp at e1
   have u5:aw H (ab H6 pt (.lst (rs.map V.ref++[.ref pr]))):=fun a o ha=>by
    rw[az (bh ha wk6.ft)]
    exact wk6.s _ _ ha
   generalize ab H6 pt (.lst (rs.map V.ref++[.ref pr]))=H7 at u1 u2 u3 u4 u5⊢
   obtain⟨tl,hl7,htl⟩:=id u3
   obtain⟨tr7,hr7,htr7⟩:=id u2
   walk_at "r"
   refine⟨pl,rfl,⟨_,ai.of hl7⟩,?_⟩
   refine EH (f:=fun ys=>!decide (ys∈R0::R1)) hl7 htl wk6.lL (fun t ys H' R' s' ht hy hq=>?_) fun us H8 s8 hus D hD=>?_
   ·walk_at "r"
    refine DL (s' _ _ ht) (s' _ _ hr7) (htr7.same s') ?_
    rw[aH rfl]
    walk_at "r"
    exact hq _ s'
   have x9:=s8.trans (au (o:=.lst (us.map V.ref)) hD)
   have l9:fK (ab H8 D (.lst (us.map V.ref))) D (L.filter fun ys=>!decide (ys∈R0::R1)):=⟨us,aq,hus.same x9⟩
   have nD:D≠pt:=Ne.symm (bh (s8 _ _ u1) hD)
   generalize ab H8 D (.lst (us.map V.ref))=H9 at x9 l9⊢
   obtain⟨tl9,hl9,htl9⟩:=id l9
   walk_at "r"
   refine⟨D,rfl,⟨_,ai.of hl9⟩,?_⟩
   have lL':=j6 (fun ys=>!decide (ys∈R0::R1)) L
   have r9:=u2.same x9
   refine EH (f:=fun ys=>(R0::R1).any fun zs=>gK ys zs) hl9 htl9 (by have:=wk6.lL;omega) (fun t ys H' R' s' ht hy hq=>?_) fun vs' H10 s10 hvs D2 hD2=>?_
   ·have hyo:jZ ns ms ys:=wk6.oL ys (gk.mp hy).1
    walk_at "r"
    refine⟨t,pr,ys,R0::R1,rfl,s' _ _ ht,hyo.len,r9.same s',fun zs hz=>(wk6.oR zs hz).len,fun t' zs H3 s3 hz hn _=>?_,fun hn H3 s3=>?_⟩
    ·have e:((R0::R1).any fun zs=>gK ys zs)=true:=List.any_eq_true.mpr ⟨zs,hz,hn⟩
     have:=hq _ (s'.trans s3)
     rw[e]at this
     walk_at "r"
     exact this
    ·have e:((R0::R1).any fun zs=>gK ys zs)=false:=by
      rw[List.any_eq_false]
      intro zs hz
      rw[hn zs hz]
      decide
     have:=hq _ (s'.trans s3)
     rw[e]at this
     walk_at "r"
     exact this
   have x11:=x9.trans (s10.trans (au (o:=.lst (vs'.map V.ref)) hD2))
   have x12:=s10.trans (au (o:=.lst (vs'.map V.ref)) hD2)
   have nD2:D2≠pt:=Ne.symm (bh (s10 _ _ (x9 _ _ u1)) hD2)
   walk_at "r"
   have mem_f:∀{ys:List Int},ys∈(L.filter fun ys=>!decide (ys∈R0::R1)).filter (fun ys=>(R0::R1).any fun zs=>gK ys zs)->ys∈(L.filter fun ys=>!decide (ys∈R0::R1)):=fun h=>(gk.mp h).1
   refine⟨(L.filter fun ys=>!decide (ys∈R0::R1)).length,?_,D2,D,(L.filter fun ys=>!decide (ys∈R0::R1)).filter (fun ys=>(R0::R1).any fun zs=>gK ys zs),L.filter fun ys=>!decide (ys∈R0::R1),bq++[R0::R1],rfl,?_⟩
   ·rcases wk6.me with⟨rfl,sub⟩|rfl
    ·exact xH (sub R0 dR) (by simp)
    ·omega
   ·have lt:(L.filter fun ys=>!decide (ys∈R0::R1)).length<m:=by
     rcases wk6.me with⟨rfl,sub⟩|rfl
     ·exact xH (sub R0 dR) (by simp)
     ·omega
    refine⟨u5.trans x11,wk6.ft,⟨vs',aq,hvs.same x12⟩,l9.same x12,⟨rs++[pr],x11 _ _ u1,by simp[g2],fun x hx=>?_,fun i x aJ e1 e2=>(u4 i x aJ e1 e2).same x11⟩,nD2,nD,fun ys hy=>wk6.oL ys (gk.mp (mem_f hy)).1,fun ys hy=>wk6.oL ys (gk.mp hy).1,by have:=wk6.lL;omega,?_,fun aJ hy=>?_,fun k hk=>?_,?_,?_,.inl ⟨rfl,fun ys hy=>mem_f hy⟩⟩
    ·rcases iu.mp hx with hx|hx
     ·exact g3 x hx
     ·rw[lN]at hx
      rw[hx];exact wk6.n1
    ·have:=j6 (fun ys=>(R0::R1).any fun zs=>gK ys zs) (L.filter fun ys=>!decide (ys∈R0::R1))
     have:=wk6.lL
     omega
    ·rcases iu.mp hy with hy|hy
     ·exact wk6.ok aJ hy
     ·rw[lN]at hy
      rw[hy];exact wk6.oR
    ·rcases dh k bq.length with z|z
     ·rw[eZ z]
      exact wk6.e k z
     ·have ek:k=bq.length:=by rw[bF]at hk;simp at hk;omega
      subst ek
      rw[dY (aG _),Nat.sub_self,wk6.e2]
      rfl
    ·rw[show(bq++[R0::R1]).length=bq.length+1 by simp]
     show(List.filter _ _,List.filter _ _)=_
     rw[wk6.e2]
    ·have:=wk6.le
     rw[bF]
     show bq.length+1+_<=_
     omega
noncomputable def xJ(S:List (List Int))(g y:List Int):Option Int:=(gL S g y).map fun(n:Nat)=>(n:Int)
theorem MM{ns ms:List Int}{af:Int}{bq:List (List (List Int))}(r:EI ns ms af bq){y:List Int}(n:∀aJ∈bq,y∉aJ):xJ (dO ns ms af) (bL ms ns ms) y=none:=by
 unfold xJ
 rw[My]
 ·rfl
 ·intro i
  rcases dh i bq.length with q|q
  ·exact n _ (dE (r.e i q))
  ·have:=xy r.nil (i - bq.length)
   rw[show bq.length+(i - bq.length)=i by omega]at this
   rw[this]
   simp
noncomputable def mL(bs ns ms:List Int):Prop:=∀x∈bs,x∈ns\/x∈ms
theorem EJ{p q r:Int->Bool}:∀{l:List Int},(∀x∈l,(p x=true/\q x=false/\r x=false)\/(p x=false/\q x=true/\r x=false)\/(p x=false/\q x=false/\r x=true))->(l.filter p).length+(l.filter q).length+(l.filter r).length=l.length
 |[],_=>rfl
 |x::l,h=>by
  have ih:=EJ fun y hy=>h y (d_ _ hy)
  rw[gr,gr,gr,cM]
  rcases h x dR with⟨a,b,c⟩|⟨a,b,c⟩|⟨a,b,c⟩<;>rw[a,b,c]<;>simp only[jC,kA,qV,cM]<;>omega
theorem EK{bs ns ms:List Int}(h:mL bs ns ms):(bL bs ns ms).sum=(bK bs:Int):=by
 have e:aZ bs (dv ns ms)+aZ bs (fZ ns ms)+aZ bs (dv ms ns)=bK bs:=by
  unfold aZ bK
  refine EJ fun x hx=>?_
  have hx':=fW.mp hx
  simp only[dQ,uB,j1,lq]
  unfold dN fJ
  by_cases c1:x∈ns
  ·by_cases c2:x∈ms
   ·exact .inr (.inl ⟨fun q=>q.2 c2,⟨c1,c2⟩,fun q=>q.2 c1⟩)
   ·exact .inl ⟨⟨c1,c2⟩,fun q=>c2 q.2,fun q=>q.2 c1⟩
  ·have c2:x∈ms:=(h x hx').resolve_left c1
   exact .inr (.inr ⟨fun q=>c1 q.1,fun q=>c1 q.1,⟨c2,c1⟩⟩)
 show((aZ bs (dv ns ms):Nat):Int)+(((aZ bs (fZ ns ms):Nat):Int)+(((aZ bs (dv ms ns):Nat):Int)+0))=_
 omega
theorem EL{bs L:List Int}(nd:L.Nodup)(h:aZ bs L=L.length):∀x∈L,x∈bs:=by
 have e:(L.filter fun x=>decide (x∈bs)).length=aZ bs L:=fX (nd.filter _) fun x=>by
  rw[gk,dQ];exact And.comm
 rw[h]at e
 have:=List.filter_eq_self.mp (List.Sublist.eq_of_length (List.filter_sublist (p:=fun x=>decide (x∈bs)) (l:=L)) e)
 intro x hx
 simpa using this x hx
theorem MN(ns ms:List Int):(fZ ns ms).length=aZ ns ms:=rfl
theorem MO(ns ms:List Int):(dv ns ms).length=dg ns ms:=rfl
theorem MP{bs L:List Int}(h:∀x∈bs,x∉L):aZ bs L=0:=by
 rcases zT (aZ bs L)with z|z
 ·exact z
 ·obtain⟨x,hx⟩:=List.exists_mem_of_length_pos z
  obtain⟨h1,h2⟩:=gk.mp hx
  exact absurd (by simpa using h2) (h x (fW.mp h1))
theorem none_of{bs L:List Int}(h:aZ bs L=0):∀x∈bs,x∉L:=fun x hx hL=>by
 have:0<aZ bs L:=List.length_pos_of_mem (gk.mpr ⟨fW.mpr hx,by simpa using hL⟩)
 omega
theorem MQ(ns ms:List Int):aZ ns (dv ns ms)=dg ns ms:=(n_ (ks:=(gG ns).filter fun x=>decide (x∈dv ns ms)) (i5.filter _) fun x=>by
 rw[gk,fW,dQ,j1];exact⟨fun h=>h.2,fun h=>⟨h.1,h⟩⟩)
theorem MR(ns ms:List Int):aZ ns (fZ ns ms)=aZ ns ms:=(fX (ks:=(gG ns).filter fun x=>decide (x∈fZ ns ms)) (i5.filter _) fun x=>by
 rw[gk,fW,dQ,lq];exact⟨fun h=>h.2,fun h=>⟨h.1,h⟩⟩)
theorem EM(ns ms:List Int):bL ms ns ms=[0,(aZ ns ms:Int),(dg ms ns:Int)]:=by
 unfold bL
 rw[MP (bs:=ms) (L:=dv ns ms) fun x hx h=>(j1.mp h).2 hx,MQ]
 have e:aZ ms (fZ ns ms)=aZ ns ms:=by
  rw[my ns ms,<-MR ms ns]
  exact iY (fun _=>eG) fun x=>by rw[lq,lq];exact And.comm
 rw[e]
 rfl
theorem MS{bs ns ms:List Int}(h:mL bs ns ms)(e:bL bs ns ms=bL ms ns ms):∀x,x∈bs↔x∈ms:=by
 rw[EM]at e
 unfold bL at e
 injection e with e1 e
 injection e with e2 e
 injection e with e3 _
 have h1:=none_of (bs:=bs) (L:=dv ns ms) (by omega)
 have h2:=EL (bs:=bs) (L:=fZ ns ms) (i5.filter _) (by rw[MN];omega)
 have h3:=EL (bs:=bs) (L:=dv ms ns) (i5.filter _) (by rw[MO];omega)
 intro x
 constructor
 ·intro hx
  rcases h x hx with q|q
  ·by_cases c:x∈ms
   ·exact c
   ·exact absurd (j1.mpr ⟨q,c⟩) (h1 x hx)
  ·exact q
 ·intro hx
  by_cases c:x∈ns
  ·exact h2 x (lq.mpr ⟨c,hx⟩)
  ·exact h3 x (j1.mpr ⟨hx,c⟩)
theorem xK(a b:Nat):jl (a:Int) (b:Int)=((min a b:Nat):Int):=by unfold jl;split<;>omega
theorem EN{xs:List V}{k:Nat}(h:k<=xs.length):fh xs none (some (k:Int))=xs.take k:=by
 unfold fh
 rw[HT.sIx_none,Aa,Nat.sub_zero]
 have z:HT.sIx xs.length xs.length (some (k:Int))=min k xs.length:=HT.sIx_nat xs.length xs.length k
 rw[z,qW h]
theorem lA{ns:List Int}(h:ns.Nodup):bK ns=ns.length:=(jS h fun _=>eG).symm
structure Pt(A r:List Int)(m:Nat)(bs:List Int):Prop where
 nd:A.Nodup
 sub:∀v∈A,v∈r
 len:A.length=m
 bt:(A.filter fun v=>decide (v∈bs)).length=min m (aZ bs r)
theorem MT{l:List Int}{f:Int->Bool}(h:∀x∈l,f x=true):l.filter f=l:=List.filter_eq_self.mpr h
theorem MU{l:List Int}{f:Int->Bool}(h:∀x∈l,f x=false):l.filter f=[]:=List.filter_eq_nil_iff.mpr fun x hx q=>by rw[h x hx]at q;cases q
theorem MV{c1 c2 bs r:List Int}{m:Nat}(h1:bH c1 (fJ r bs))(h2:bH c2 (dN r bs)):(((c1++c2).take m).filter fun v=>decide (v∈bs)).length=min m (aZ bs r):=by
 rw[List.take_append,gS,bF]
 rw[MT (l:=c1.take m) fun x hx=>bZ ((h1.2 x).mp (Gf hx)).2,MU (l:=c2.take (m - c1.length)) fun x hx=>cz ((h2.2 x).mp (Gf hx)).2]
 have e:c1.length=aZ bs r:=by rw[my];exact fX h1.nodup h1.2
 rw[e9,e]
 rfl
theorem MW{bs ns ms A B C rs r1 r2 r3:List Int}{x y z:Nat}(a:Pt A r1 x bs)(b:Pt B r2 y bs)(c:Pt C r3 z bs)(i1:bH r1 (dN ns ms))(i2:bH r2 (fJ ns ms))(i3:bH r3 (dN ms ns))(m:∀v,v∈rs↔v∈A++B++C):(aZ bs rs:Int)=o7 (bL bs ns ms) [(x:Int),(y:Int),(z:Int)]:=by
 have ha:∀v∈A,dN ns ms v:=fun v h=>(i1.2 v).mp (a.sub v h)
 have hb:∀v∈B,fJ ns ms v:=fun v h=>(i2.2 v).mp (b.sub v h)
 have hc:∀v∈C,dN ms ns v:=fun v h=>(i3.2 v).mp (c.sub v h)
 have e:((A++B++C).filter fun v=>decide (v∈bs)).length=aZ bs rs:=by
  refine fX ?_ fun v=>?_
  ·refine Gg _ ?_
   rw[<-List.Nodup,qT]
   refine⟨?_,c.nd,fun p hp q hq e=>?_⟩
   ·rw[qT]
    refine⟨a.nd,b.nd,fun p hp q hq e=>?_⟩
    subst e
    exact(ha p hp).2 (hb p hq).2
   ·subst e
    rcases iu.mp hp with h|h
    ·exact(hc p hq).2 (ha p h).1
    ·exact(hc p hq).2 (hb p h).1
  ·rw[gk,dQ,m];exact And.comm
 rw[gS,gS,bF,bF,a.bt,b.bt,c.bt]at e
 have k1:aZ bs r1=aZ bs (dv ns ms):=iY (fun _=>eG) fun v=>by rw[i1.2,j1]
 have k2:aZ bs r2=aZ bs (fZ ns ms):=iY (fun _=>eG) fun v=>by rw[i2.2,lq]
 have k3:aZ bs r3=aZ bs (dv ms ns):=iY (fun _=>eG) fun v=>by rw[i3.2,j1]
 rw[k1,k2,k3]at e
 show _=jl ((aZ bs (dv ns ms):Nat):Int) (x:Int)+(jl ((aZ bs (fZ ns ms):Nat):Int) (y:Int)+(jl ((aZ bs (dv ms ns):Nat):Int) (z:Int)+0))
 rw[xK,xK,xK]
 omega
theorem MX{ns ms A B C rs r1 r2 r3:List Int}{x y z:Nat}{bs:List Int}(a:Pt A r1 x bs)(b:Pt B r2 y bs)(c:Pt C r3 z bs)(i1:bH r1 (dN ns ms))(i2:bH r2 (fJ ns ms))(i3:bH r3 (dN ms ns))(m:∀v,v∈rs↔v∈A++B++C):bL rs ns ms=[(x:Int),(y:Int),(z:Int)]:=by
 have ha:∀v∈A,dN ns ms v:=fun v h=>(i1.2 v).mp (a.sub v h)
 have hb:∀v∈B,fJ ns ms v:=fun v h=>(i2.2 v).mp (b.sub v h)
 have hc:∀v∈C,dN ms ns v:=fun v h=>(i3.2 v).mp (c.sub v h)
 have e1:A.length=aZ rs (dv ns ms):=fX a.nd fun v=>by
  rw[m,j1,iu,iu]
  constructor
  ·intro h;exact⟨.inl (.inl h),ha v h⟩
  ·rintro⟨(h|h)|h,q⟩
   ·exact h
   ·exact absurd (hb v h).2 q.2
   ·exact absurd q.1 (hc v h).2
 have e2:B.length=aZ rs (fZ ns ms):=fX b.nd fun v=>by
  rw[m,lq,iu,iu]
  constructor
  ·intro h;exact⟨.inl (.inr h),hb v h⟩
  ·rintro⟨(h|h)|h,q⟩
   ·exact absurd q.2 (ha v h).2
   ·exact h
   ·exact absurd q.1 (hc v h).2
 have e3:C.length=aZ rs (dv ms ns):=fX c.nd fun v=>by
  rw[m,j1,iu,iu]
  constructor
  ·intro h;exact⟨.inr h,hc v h⟩
  ·rintro⟨(h|h)|h,q⟩
   ·exact absurd (ha v h).1 q.2
   ·exact absurd (hb v h).1 q.2
   ·exact h
 unfold bL
 rw[<-e1,<-e2,<-e3,a.len,b.len,c.len]
noncomputable def xM(K:W.Frag):Sp:=fun vs H Q _=>∃(r t p q:Addr) (bs ns ms:List Int) (x y z:Nat),vs=[.ref r,.ref t,.ref p,.ref q]/\cZ K H r (bs.map V.int)/\bs.length<64/\H t=some (.tup [.int x,.int y,.int z])/\mK K H p q ns ms/\x<=dg ns ms/\y<=aZ ns ms/\z<=dg ms ns/\bK ns<=12/\bK ms<=12/\
 ∀l H' (rs:List Int),aw H H'->H l=none->H' l=some (.lst (rs.map V.int))->rs.length<64->bL rs ns ms=[(x:Int),(y:Int),(z:Int)]->rs.Pairwise (· < ·)->mL rs ns ms->(aZ bs rs:Int)=o7 (bL bs ns ms) [(x:Int),(y:Int),(z:Int)]->Q (.ref l) H'
noncomputable def EO(r1 r2 r3:List Int)(x y z:Nat)(bs:List Int)(i:Nat)(td:List Int):Prop:=match i with
 |0=>td=[]
 |1=>Pt td r1 x bs
 |2=>∃A B,td=A++B/\Pt A r1 x bs/\Pt B r2 y bs
 |_=>∃A B C,td=A++B++C/\Pt A r1 x bs/\Pt B r2 y bs/\Pt C r3 z bs
abbrev xN:Stmt:=bf 37
theorem tM:a_ ["boat","stage","start","goal","told","timbers","many"] ["boat","stage","start","goal"] (aC xN):=bc
theorem MY{f:Addr}{fd:FuncData}(F:aX K "refitted" "refitted" xN f fd)(T:bG mg)(dU:aY P w K mg base "rising" 1 ["timbers"] (iL K))(kB:aY P w K mg base "common" 1 ["one","other"] (jm K fJ))(jE:aY P w K mg base "apart" 1 ["one","other"] (jm K dN))(kC:aY P w K mg base "timbers_by_kind" 2 ["start","goal"] (qt K)):aK P w K mg base aV 3 f fd ["boat","stage","start","goal"] (xM K):=by
 refine F.ok tM (fun vs H Q E h=>?_) (fun aM A outer s H vs Q E hr h=>?_)
 ·obtain⟨r,t,p,q,bs,ns,ms,x,y,z,rfl,_⟩:=h
  rfl
 ·obtain⟨r,t,p,q,bs,ns,ms,x,y,z,rfl,hb,lb,ht,⟨hp,hq,l1,l2⟩,hx,hy,hz,n12,m12,k⟩:=h
  refine⟨_,(aF (bR (i:=4) tM.nd rfl (Or.inl rfl) (fR ag))
   (aF (hU gU rfl (DO (K:=K) rfl (by rfl) T.z_zip (a9 (pC kC (a9 (pv 2) (a9 (pv 3) ag))) (a9 (pv 1) ag))) (fV (K:=K) (n:=2) rfl rfl (bW (aR (i:=5) tM.nd rfl (Or.inl rfl)) (bW (aR (i:=6) tM.nd rfl (Or.inl rfl)) fw))) (aA (dG (Ds (K:=K) rfl (pv 4) (a9 (nE (pW (K:=K) rfl) (bu nG (pC kB (a9 (pv 5) (a9 (pv 0) ag))) (pC jE (a9 (pv 5) (a9 (pv 0) ag)))) nA (nB (pv 6))) ag)))))
   (aA (aU (pC dU (a9 (pv 4) ag)))))),?_⟩
  walk_at "r"
  refine⟨b_ _,fun pt hpt=>?_⟩
  have s0:=au (o:=.lst []) hpt
  have ht0:ab H pt (.lst []) pt=some (.lst (([]:List Int).map V.int)):=aq
  generalize ab H pt (.lst [])=H0 at s0 ht0⊢
  walk_at "r"
  refine DP ?_
  walk_at "r"
  refine⟨p,q,ns,ms,rfl,hp.same s0,hq.same s0,l1,l2,fun l H1 a b c r1 r2 r3 s1 fl hl1 ha1 hb1 hc1 i1 i2 i3 fr=>?_⟩
  walk_at "r"
  have e1:r1.length=dg ns ms:=n_ i1.nodup i1.2
  have e2:r2.length=aZ ns ms:=fX i2.nodup i2.2
  have e3:r3.length=dg ms ns:=n_ i3.nodup i3.2
  have q1:=jk ns ms
  have q2:=jk ms ns
  rw[my ms ns]at q2
  have s01:=s0.trans s1
  have ht1:=s01 _ _ ht
  have hpt1:=s1 _ _ ht0
  have nlp:l≠pt:=Ne.symm (bh ht0 fl)
  have na:a≠pt:=Ne.symm (bh ht0 (fr a (by simp)))
  have nb:b≠pt:=Ne.symm (bh ht0 (fr b (by simp)))
  have nc:c≠pt:=Ne.symm (bh ht0 (fr c (by simp)))
  have ntp:t≠pt:=bh ht hpt
  have hb1':=hb.same s01
  refine⟨l,t,rfl,_,_,ai.of hl1,ax.of ht1,?_⟩
  refine h_ (fun i σ' H'=>∃(u v:Option V) (td:List Int),σ'=[some (.ref r),some (.ref t),some (.ref p),some (.ref q),some (.ref pt),u,v]/\aw H H'/\H' l=some (.lst [.ref a,.ref b,.ref c])/\H' a=some (.lst (r1.map V.int))/\H' b=some (.lst (r2.map V.int))/\H' c=some (.lst (r3.map V.int))/\H' pt=some (.lst (td.map V.int))/\EO r1 r2 r3 x y z bs i td) 3
   ⟨none,none,[],rfl,s01,hl1,ha1,hb1,hc1,hpt1,rfl⟩ ?_ ?_
  ·rintro σ' H2 ⟨u,v,td,rfl,s2,g1,g2,g3,g4,g5,A,B,C,rfl,pa,pb,pc⟩
   refine⟨⟨_,_,ai.of g1,ax.of (s2 _ _ ht),.inl (aG _)⟩,?_⟩
   walk_at "r"
   have lt:(A++B++C).length<64:=by rw[bF,bF,pa.len,pb.len,pc.len];omega
   refine⟨pt,A++B++C,rfl,.inl (ai.of g5),lt,fun l3 H3 rs s3 f3 h3 ris=>?_⟩
   refine k l3 H3 rs (s2.trans s3) (s2.free f3) h3 (eN (ris.le fun v h=>h) lt) (MX pa pb pc i1 i2 i3 ris.2) ris.1 (fun v hv=>?_) (MW pa pb pc i1 i2 i3 ris.2)
   rcases iu.mp ((ris.2 v).mp hv)with h|h
   ·rcases iu.mp h with h|h
    ·exact .inl ((i1.2 v).mp (pa.sub v h)).1
    ·exact .inl ((i2.2 v).mp (pb.sub v h)).1
   ·exact .inr ((i3.2 v).mp (pc.sub v h)).1
  ·rintro i σ' H2 hi ⟨u,v,td,rfl,s2,g1,g2,g3,g4,g5,tda⟩
   have ltd:td.length<=36:=by
    match i,hi,tda with
    |0,_,h=>rw[show td=[]from h];exact b_ _
    |1,_,h=>have h':Pt td r1 x bs:=h;rw[h'.len];omega
    |2,_,h=>obtain⟨A,B,rfl,pa,pb⟩:=h;rw[bF,pa.len,pb.len];omega
   obtain⟨e,re,m,ee,em,he,ne,nde,le64,me,nx⟩:∃(e:Addr) (re:List Int) (m:Nat),[V.ref a,.ref b,.ref c][i]?=some (.ref e)/\[V.int x,.int y,.int z][i]?=some (.int m)/\H2 e=some (.lst (re.map V.int))/\e≠pt/\re.Nodup/\re.length<64/\m<=re.length/\∀A,Pt A re m bs->EO r1 r2 r3 x y z bs (i+1) (td++A):=by
    match i,hi,tda with
    |0,_,h=>exact⟨a,r1,x,rfl,rfl,g2,na,i1.nodup,by omega,by omega,fun A pa=>by rw[show td=[]from h,List.nil_append];exact pa⟩
    |1,_,h=>exact⟨b,r2,y,rfl,rfl,g3,nb,i2.nodup,by omega,by omega,fun B pb=>⟨td,B,rfl,h,pb⟩⟩
    |2,_,h=>
     obtain⟨A,B,rfl,pa,pb⟩:=h
     exact⟨c,r3,z,rfl,rfl,g4,nc,i3.nodup,by omega,by omega,fun C pc=>⟨A,B,C,rfl,pa,pb,pc⟩⟩
   refine⟨⟨_,_,_,_,ai.of g1,ax.of (s2 _ _ ht),ee,em⟩,?_⟩
   rintro x' G ⟨T',u',v',rfl,hn,rfl,qq⟩
   obtain⟨z1,z2⟩:=qq _ _ (ai.of g1) (ax.of (s2 _ _ ht))
   rw[ee]at z1
   rw[em]at z2
   cases z1;cases z2
   have sT:=au (o:=.tup [.ref e,.int m]) hn
   refine ig (ax.of aq) rfl ?_
   generalize ab H2 T' (.tup [.ref e,.int m])=H3 at sT⊢
   have g53:=sT _ _ g5
   have s3:=s2.trans sT
   walk_at "r"
   refine⟨.inl ⟨rfl,_,ai.of g53⟩,?_⟩
   walk_at "r"
   refine⟨e,r,re,bs,rfl,.inl (ai.of (sT _ _ he)),hb.same s3,le64,lb,fun l5 H5 c1 s5 f5 h5 ris5=>?_⟩
   walk_at "r"
   refine⟨e,r,re,bs,rfl,.inl (ai.of (s5 _ _ (sT _ _ he))),hb.same (s3.trans s5),le64,lb,fun l6 H6 c2 s6 f6 h6 ris6=>?_⟩
   have lc1:c1.length=aZ re bs:=fX ris5.nodup ris5.2
   have lc2:c2.length=dg re bs:=n_ ris6.nodup ris6.2
   have q3:=jk re bs
   rw[lA nde]at q3
   refine nR (s6 _ _ h5) h6 (mH (by rw[ar,ar];omega)) fun p7 hp7=>?_
   have x7:=au (o:=.lst (c1.map V.int++c2.map V.int)) hp7
   have h7:ab H6 p7 (.lst (c1.map V.int++c2.map V.int)) p7=some (.lst ((c1++c2).map V.int)):=by rw[cF];exact aq
   generalize ab H6 p7 (.lst (c1.map V.int++c2.map V.int))=H7 at x7 h7⊢
   walk_at "r"
   intro p8 hp8
   rw[EN (by rw[ar,bF];omega),<-List.map_take]at*
   have x8:=au (o:=.lst (((c1++c2).take m).map V.int)) hp8
   have h8:ab H7 p8 (.lst (((c1++c2).take m).map V.int)) p8=some (.lst (((c1++c2).take m).map V.int)):=aq
   generalize ab H7 p8 (.lst (((c1++c2).take m).map V.int))=H8 at x8 h8⊢
   have y8:=sT.trans (s5.trans (s6.trans (x7.trans x8)))
   refine vR ?_
   refine Du (y8 _ _ g5) h8 (mH (by rw[ar,ar,e9];omega)) ?_
   rw[<-cF]
   walk_at "r"
   have keep:∀{v:Addr} {o:HO},v≠pt->H2 v=some o->ab H8 pt (.lst ((td++(c1++c2).take m).map V.int)) v=some o:=fun n h=>by rw[az n];exact y8 _ _ h
   refine⟨_,_,td++(c1++c2).take m,rfl,fun v o h=>?_,keep nlp g1,keep na g2,keep nb g3,keep nc g4,aq,nx _ ⟨?_,?_,?_,MV ris5 ris6⟩⟩
   ·rw[az (bh h hpt)]
    exact y8 _ _ (s2 _ _ h)
   ·refine List.Nodup.sublist (List.take_sublist _ _) ?_
    rw[qT]
    refine⟨ris5.nodup,ris6.nodup,fun v hv w hw e=>?_⟩
    subst e
    exact((ris6.2 v).mp hw).2 ((ris5.2 v).mp hv).2
   ·intro v hv
    rcases iu.mp (Gf hv)with h|h
    ·exact((ris5.2 v).mp h).1
    ·exact((ris6.2 v).mp h).1
   ·rw[e9,bF]
    omega
theorem ER{ns ms:List Int}{af:Int}(fit:qy ns ms af):bL ms ns ms∈dO ns ms af:=by
 obtain⟨h12,c1,c2,c3,c4⟩:=fit
 have q2:=jk ms ns
 rw[my ms ns]at q2
 have hm:(0,aZ ns ms,dg ms ns)∈k_ (dg ns ms) (aZ ns ms) (dg ms ns) af:=by
  unfold k_
  rw[gk]
  constructor
  ·unfold iO iN j0
   exact Qw.mpr ⟨0,FW.mpr (by omega),Qw.mpr ⟨aZ ns ms,FW.mpr (by omega),Qd.mpr ⟨dg ms ns,FW.mpr (by omega),rfl⟩⟩⟩
  ·unfold i_
   refine jj ?_ ?_
   ·show(1:Int)<=((0:Nat):Int)+(aZ ns ms:Nat)+(dg ms ns:Nat)
    omega
   ·show((0:Nat):Int)+(aZ ns ms:Nat)+(dg ms ns:Nat)<=af
    omega
 rw[EM]
 exact Qd.mpr ⟨_,hm,rfl⟩
theorem MZ{ns ms ys:List Int}{af:Int}(h:ys∈dO ns ms af):1<=ys.sum/\ys.sum<=af:=by
 obtain⟨p,hp,rfl⟩:=Qd.mp h
 have:=(gk.mp hp).2
 unfold i_ cR at this
 rw[fF,dQ,dQ]at this
 simp[xf]
 omega
noncomputable def qA(ns ms:List Int)(af:Int)(here b:List Int):Prop:=b.Pairwise (· < ·)/\mL b ns ms/\1<=b.length/\(b.length:Int)<=af/\eT here b=true/\¬ ∀x,x∈here↔x∈b
noncomputable def f_(ns ms:List Int)(af:Int):List Int->List (List Int)->Prop
 |_,[]=>True
 |here,b::r=>qA ns ms af here b/\f_ ns ms af b r
noncomputable def gM:List Int->List (List Int)->List Int
 |here,[]=>here
 |_,b::r=>gM b r
theorem xO(b:List Int):∀(here:List Int) (bss:List (List Int)),gM here (bss++[b])=b
 |_,[]=>rfl
 |_,c::r=>xO b c r
theorem ES{ns ms b:List Int}{af:Int}:∀{here:List Int} {bss:List (List Int)},f_ ns ms af here bss->qA ns ms af (gM here bss) b->f_ ns ms af here (bss++[b])
 |_,[],_,h=>⟨h,trivial⟩
 |_,c::r,⟨h1,h2⟩,h=>⟨h1,ES h2 h⟩
noncomputable def fz(H:Hp)(bM:List Addr)(bss:List (List Int)):Prop:=bM.length=bss.length/\∀(i:Nat) b bs,bM[i]?=some b->bss[i]?=some bs->H b=some (.lst (bs.map V.int))
theorem fz.same{H H':Hp}{bM:List Addr}{bss:List (List Int)}(s:aw H H')(h:fz H bM bss):fz H' bM bss:=⟨h.1,fun i b bs e1 e2=>s _ _ (h.2 i b bs e1 e2)⟩
theorem fz.put{H:Hp}{D:Addr}{xs:List V}{o:HO}{bM:List Addr}{bss:List (List Int)}(h:fz H bM bss)(_e:H D=some (.lst xs))(n:∀b∈bM,b≠D):fz (ab H D o) bM bss:=
 ⟨h.1,fun i b bs e1 e2=>by rw[az (n b (dE e1))];exact h.2 i b bs e1 e2⟩
theorem fz.snoc{H:Hp}{t:Addr}{ys:List Int}{ts:List Addr}{aJ:List (List Int)}(h:fz H ts aJ)(e:H t=some (.lst (ys.map V.int))):fz H (ts++[t]) (aJ++[ys]):=by
 refine⟨by rw[bF,bF,h.1];rfl,fun i t' p e1 e2=>?_⟩
 rcases Nat.lt_trichotomy i ts.length with q|q|q
 ·rw[eZ q]at e1
  rw[eZ (by rw[<-h.1];exact q)]at e2
  exact h.2 i t' p e1 e2
 ·subst q
  rw[dY (aG _),Nat.sub_self]at e1
  rw[dY (by rw[h.1];exact aG _),h.1,Nat.sub_self]at e2
  cases e1;cases e2
  exact e
 ·rw[dY (by omega),iQ (by simp;omega)]at e1
  cases e1
noncomputable def xP(K:W.Frag):Sp:=fun vs H Q _=>∃(p q:Addr) (ns ms:List Int) (af:Int),vs=[.ref p,.ref q,.int af]/\mK K H p q ns ms/\qy ns ms af/\
 (∀hh,gL (dO ns ms af) (bL ms ns ms) (bL ns ns ms)=some hh->∀l H' (bM:List Addr) (bss:List (List Int)),aw H H'->H l=none->H' l=some (.lst (bM.map V.ref))->bM.length=hh->fz H' bM bss->(∀b∈bM,H b=none/\b≠l)->f_ ns ms af ns bss->(∀x,x∈gM ns bss↔x∈ms)->Q (.ref l) H')/\
 (gL (dO ns ms af) (bL ms ns ms) (bL ns ns ms)=none->∀H',aw H H'->Q .non H')
theorem ET{bs bs' ns ms:List Int}(m:∀x,x∈bs↔x∈bs'):bL bs ns ms=bL bs' ns ms:=by
 unfold bL
 rw[iY m (fun x=>eG),iY (ms:=fZ ns ms) m (fun x=>eG),iY (ms:=dv ms ns) m (fun x=>eG)]
abbrev xQ:Stmt:=bf 38
theorem mM:a_ ["start","goal","slip","told","height","plan","boat","ring"] ["start","goal","slip"] (aC xQ):=bc
theorem M_{f:Addr}{fd:FuncData}(F:aX K "carried" "carried" xQ f fd)(T:bG mg)(hrev:mg "reversed"=none)(Ah:aY P w K mg base "rings" 5 ["start","goal","slip"] (xF K))(n8:aY P w K mg base "stage_of" 3 ["boat","start","goal"] (tH K))(Ai:aY P w K mg base "height_of" 1 ["stage","told"] xC)(dU:aY P w K mg base "rising" 1 ["timbers"] (iL K))(oM:aY P w K mg base "first_near" 2 ["stage","others"] tK)(Aj:aY P w K mg base "refitted" 3 ["boat","stage","start","goal"] (xM K)):aK P w K mg base aV 6 f fd ["start","goal","slip"] (xP K):=by
 refine F.ok mM (fun vs H Q E h=>?_) (fun aM A outer s H vs Q E hr h=>?_)
 ·obtain⟨p,q,ns,ms,af,rfl,_⟩:=h
  rfl
 ·obtain⟨p,q,ns,ms,af,rfl,tw,fit,kS,kN⟩:=h
  refine⟨_,(aF (bR (i:=3) mM.nd rfl (Or.inl rfl) (pC Ah (a9 (pv 0) (a9 (pv 1) (a9 (pv 2) ag)))))
   (aF (bR (i:=4) mM.nd rfl (Or.inl rfl) (pC Ai (a9 (pC n8 (a9 (pv 0) (a9 (pv 0) (a9 (pv 1) ag)))) (a9 (pv 3) ag))))
   (aF (bQ (jK (rq (pv 4))) (aA (aU pf)) bU)
   (aF (bR (i:=5) mM.nd rfl (Or.inl rfl) (fR ag))
   (aF (bR (i:=6) mM.nd rfl (Or.inl rfl) (pC dU (a9 (pv 0) ag)))
   (aF (hU gU rfl (KA (K:=K) rfl (by rfl) hrev (a9 (nE (pW (K:=K) rfl) (pv 3) nA (nB (pv 4))) ag)) (aR (i:=7) mM.nd rfl (Or.inl rfl)) (aF (bR (i:=6) mM.nd rfl (Or.inl rfl) (pC Aj (a9 (pv 6) (a9 (pC oM (a9 (pC n8 (a9 (pv 6) (a9 (pv 0) (a9 (pv 1) ag)))) (a9 (pv 7) ag))) (a9 (pv 0) (a9 (pv 1) ag))))))
   (aA (dG (nS (K:=K) rfl (pv 5) (a9 (pv 6) ag))))))
   (aA (aU (pv 5))))))))),?_⟩
  walk_at "r"
  refine⟨p,q,ns,ms,af,rfl,tw,fit,fun l H1 bq s1 rl rgs=>?_⟩
  obtain⟨h12,c1,c2,c3,c4⟩:=id fit
  have gin:=ER fit
  walk_at "r"
  refine⟨p,p,q,ns,ns,ms,rfl,tw.1.same s1,tw.2.2.1,tw.same s1,fun t H2 s2 ht2=>?_⟩
  walk_at "r"
  have s12:=s1.trans s2
  refine⟨t,l,_,bq,rfl,ht2,rl.same s2,fun hh aJ H3 s3 ehh hmem=>?_,fun nn H3 s3=>?_⟩
  ·have s13:=s12.trans s3
   have rl3:=(rl.same s2).same s3
   walk_at "r"
   refine bj ?_
   walk_at "r"
   refine⟨b_ _,fun pp hpp=>?_⟩
   have x4:=au (o:=.lst []) hpp
   have hp4:ab H3 pp (.lst []) pp=some (.lst []):=aq
   generalize ab H3 pp (.lst [])=H4 at x4 hp4⊢
   walk_at "r"
   refine⟨p,ns,rfl,tw.1.same (s13.trans x4),tw.2.2.1,fun bo H5 rs s5 fbo hbo ris=>?_⟩
   have x5:=x4.trans s5
   have hp5:=s5 _ _ hp4
   obtain⟨ra,hl3,lra,hra⟩:=id rl3
   have hl5:=x5 _ _ hl3
   have hlt:hh<bq.length:=(Qr.mp ehh).1
   have hmem:bL ns ns ms∈(rg (dO ns ms af) (bL ms ns ms) hh).1:=by
    rw[rgs.e hh hlt]at ehh
    cases ehh
    exact hmem
   have hgt1:=xA hmem
   walk_at "r"
   refine KB ?_
   walk_at "r"
   intro p9 hp9
   rw[EN (by rw[ar];omega),<-List.map_take]
   have x9:=au (o:=.lst ((ra.take hh).map V.ref)) hp9
   have h9:ab H5 p9 (.lst ((ra.take hh).map V.ref)) p9=some (.lst ((ra.take hh).map V.ref)):=aq
   have np9:p9≠pp:=Ne.symm (bh hp5 hp9)
   have nbo:bo≠pp:=Ne.symm (bh hp4 fbo)
   generalize ab H5 p9 (.lst ((ra.take hh).map V.ref))=H9 at x9 h9⊢
   have y9:=x5.trans x9
   have hp9':=x9 _ _ hp5
   have hbo9:=x9 _ _ hbo
   have lh:(ra.take hh).length=hh:=by rw[e9];omega
   refine vR ?_
   refine⟨p9,_,rfl,ai.of h9,?_⟩
   rw[ar,lh]
   refine h_ (fun i σ' H'=>∃(bo:Addr) (bs:List Int) (bM:List Addr) (bss:List (List Int)) (u:Option V),σ'=[some (.ref p),some (.ref q),some (.int af),some (.ref l),some (.int hh),some (.ref pp),some (.ref bo),u]/\aw H3 H'/\H' pp=some (.lst (bM.map V.ref))/\bM.length=i/\fz H' bM bss/\(∀b∈bM,H b=none/\b≠pp)/\H' p9=some (.lst ((ra.take hh).map V.ref))/\H' bo=some (.lst (bs.map V.int))/\bs.length<64/\bL bs ns ms∈(rg (dO ns ms af) (bL ms ns ms) (hh - i)).1/\mL bs ns ms/\f_ ns ms af ns bss/\(∀x,x∈gM ns bss↔x∈bs)) hh
    ⟨bo,rs,[],[],none,rfl,y9,hp9',rfl,⟨rfl,fun i b bs e=>by simp at e⟩,fun b hb=>(by cases hb),h9,hbo9,eN (ris.le fun v h=>h) tw.2.2.1,by rw[ET (bs':=ns) ris.2];exact hmem,fun x hx=>.inl ((ris.2 x).mp hx),trivial,fun x=>(ris.2 x).symm⟩ ?_ ?_
   ·rintro σ' H6 ⟨bo,bs,bM,bss,u,rfl,s6,gp,lpl,bt,fr,_,_,_,hz,sb,ch,la⟩
    refine⟨rfl,?_⟩
    walk_at "r"
    rw[Nat.sub_self]at hz
    have hz':bL bs ns ms=bL ms ns ms:=lN.mp hz
    have s06:=s13.trans s6
    exact kS hh hgt1 pp H6 bM bss s06 (s13.free hpp) gp lpl bt fr ch fun x=>(la x).trans (MS sb hz' x)
   ·rintro i σ' H6 hi ⟨bo,bs,bM,bss,u,rfl,s6,gp,lpl,bt,fr,g9,gb,lb,hz,sb,ch,la⟩
    have hj:hh - 1 - i<(ra.take hh).length:=by rw[lh];omega
    have er:(ra.take hh)[hh - 1 - i]?=some ((ra.take hh)[hh - 1 - i]):=aN hj
    generalize(ra.take hh)[hh - 1 - i]=rg1 at er
    have er2:ra[hh - 1 - i]?=some rg1:=by
     rw[List.getElem?_take]at er
     split at er
     ·exact er
     ·cases er
    have ey:bq[hh - 1 - i]?=some (bq[hh - 1 - i]'(by omega)):=aN (by omega)
    generalize hY:bq[hh - 1 - i]'(by omega)=Y at ey
    have st:=hra _ _ _ er2 ey
    have hYm:Y∈bq:=dE ey
    have eY:Y=(rg (dO ns ms af) (bL ms ns ms) (hh - 1 - i)).1:=by
     have:=rgs.e (hh - 1 - i) (by omega)
     rw[ey]at this
     exact cm this
    refine⟨⟨_,.ref rg1,ai.of g9,by rw[ar,lh],hi,by rw[aI,er];rfl⟩,?_⟩
    rintro x' G ⟨rfl,hy⟩
    have ex:=hy _ (ai.of g9)
    rw[aI,er]at ex
    cases ex
    walk_at "r"
    refine⟨bo,p,q,bs,ns,ms,rfl,.inl (ai.of gb),lb,tw.same (s13.trans s6),fun t2 H7 s7 ht7=>?_⟩
    walk_at "r"
    refine⟨t2,rg1,bL bs ns ms,Y,rfl,ht7,rfl,(st.same s6).same s7,fun ys h=>(rgs.ok Y hYm ys h).len,fun t3 ys H8 s8 hys hnear ht8=>?_,fun hn=>?_⟩
    ·obtain⟨x,y,z,rfl,bx,byy,bz⟩:=rgs.ok Y hYm ys hys
     have s78:=s7.trans s8
     walk_at "r"
     refine⟨bo,t3,p,q,bs,ns,ms,x,y,z,rfl,.inl (ai.of (s78 _ _ gb)),lb,ht8,tw.same (s13.trans (s6.trans s78)),bx,byy,bz,by omega,by omega,fun b2 H9 rs2 s9 fb2 hb9 lrs hst ri2 sb2 co2=>?_⟩
     have s79:=s78.trans s9
     have gp9:=s79 _ _ gp
     walk_at "r"
     refine⟨.inl ⟨rfl,_,ai.of gp9⟩,?_⟩
     walk_at "r"
     refine kW gp9 (eN (show(bM.map V.ref).length<=2000 by rw[ar];have:=rgs.le;omega) (by decide)) ?_
     walk_at "r"
     have nb2:b2≠pp:=Ne.symm (bh (s78 _ _ gp) fb2)
     have hyS:[(x:Int),(y:Int),(z:Int)]∈dO ns ms af:=Mw gin (n:=hh - 1 - i) (by rw[<-eY];exact hys)
     have bnd:=MZ hyS
     have nd2:rs2.Nodup:=ri2.imp fun q z=>by omega
     have ec:bK rs2=rs2.length:=lA nd2
     have sm2:=EK sb2
     rw[hst,ec]at sm2
     have sm1:=EK sb
     have lk:eT bs rs2=true:=by
      unfold gK at hnear
      rw[fF,dQ,dQ,<-co2,sm1,sm2]at hnear
      unfold eT
      rw[fF,dQ,dQ]
      omega
     refine⟨b2,rs2,bM++[b2],bss++[rs2],_,rfl,fun v o h=>?_,by rw[aq,cF];rfl,by rw[bF,lpl];rfl,fz.snoc (fz.put (bt.same s79) gp9 fun b hb=>(fr b hb).2) (by rw[az nb2];exact hb9),fun b hb=>?_,by rw[az np9];exact s79 _ _ g9,by rw[az nb2];exact hb9,lrs,?_,sb2,?_,fun x=>by rw[xO]⟩
     ·rw[az (bh h hpp)]
      exact s79 _ _ (s6 _ _ h)
     ·rcases iu.mp hb with h|h
      ·exact fr b h
      ·rw[lN.mp h]
       exact⟨(s13.trans (s6.trans s78)).free fb2,nb2⟩
     ·rw[hst,show hh - (i+1)=hh - 1 - i by omega,<-eY]
      exact hys
     ·refine ES ch ⟨ri2,sb2,by omega,by omega,?_,fun e=>?_⟩
      ·rw[Dz la fun x=>eG]
       exact lk
      ·have z1:=xA hz
       rw[ET (bs':=rs2) fun x=>(la x).symm.trans (e x),hst,xA (i:=hh - 1 - i) (by rw[<-eY];exact hys)]at z1
       have:=cm z1
       omega
    ·exfalso
     have e2:hh - i=(hh - 1 - i)+1:=by omega
     rw[e2]at hz
     obtain⟨_,ys,h1,h2⟩:=qw.mp hz
     rw[hn ys (by rw[eY];exact h1)]at h2
     cases h2
  ·walk_at "r"
   refine ba ?_
   walk_at "r"
   refine kN ?_ _ (s12.trans s3)
   have:=MM rgs nn
   unfold xJ at this
   cases hq:gL (dO ns ms af) (bL ms ns ms) (bL ns ns ms)with
   |none=>rfl
   |some h=>rw[hq]at this;cases this
noncomputable def tN(K:W.Frag):Sp:=fun vs H Q _=>∃(p q:Addr) (ns ms:List Int),vs=[.ref p,.ref q]/\cZ K H p (ns.map V.int)/\cZ K H q (ms.map V.int)/\ns.length<64/\ms.length<64/\∀H',aw H H'->Q (.bl (eT ns ms)) H'
noncomputable def xR(K:W.Frag):Sp:=fun vs H Q _=>∃(p q:Addr) (ns ms:List Int),vs=[.ref p,.ref q]/\cZ K H p (ns.map V.int)/\cZ K H q (ms.map V.int)/\ns.length<64/\ms.length<64/\∀H',aw H H'->Q (.int (aZ ns ms:Nat)) H'
abbrev xS:Stmt:=bf 14
theorem M':a_ ["one","other"] ["one","other"] (aC xS):=bc
theorem N0{f:Addr}{fd:FuncData}(F:aX K "many_common" "many_common" xS f fd)(T:bG mg):aK P w K mg base aV 1 f fd ["one","other"] (xR K):=by
 refine F.ok M' (fun vs H Q E h=>?_) (fun aM A outer s H vs Q E hr h=>?_)
 ·obtain⟨p,q,ns,ms,rfl,_⟩:=h
  rfl
 ·obtain⟨p,q,ns,ms,rfl,hS,hT,hl,hm,k⟩:=h
  refine⟨_,(aA (aU (bp (Dc (w:=w) rfl) (by rfl) T.z_len cB (a9 (bu (Dd (w:=w) rfl) (dJ (jT (K:=K) (w:=w) rfl rfl rfl) (by rfl) T.z_set jQ (a9 (pv 0) ag)) (dJ (jT (K:=K) (w:=w) rfl rfl rfl) (by rfl) T.z_set jQ (a9 (pv 1) ag))) ag)))),?_⟩
  walk_at "r"
  refine jU hS (by omega) fun a ks ha nd mem=>?_
  have s1:=au (o:=cc w a ks) ha
  walk_at "r"
  refine jU (hT.same s1) (by omega) fun b js hb nd2 mem2=>?_
  have s2:=au (o:=cc w b js) hb
  have hab:a≠b:=bh aq hb
  refine Df (s2 _ _ aq) aq hab fun c kr hc nd3 mem3=>?_
  have s3:=au (o:=cc w c kr) hc
  walk_at "r"
  refine De aq ?_
  rw[fX (ns:=ns) (ms:=ms) nd3 fun x=>by rw[mem3 x,mem x,mem2 x]]
  exact k _ ((s1.trans s2).trans s3)
abbrev xT:Stmt:=bf 40
theorem EU:a_ ["one","other","shared"] ["one","other"] (aC xT):=bc
theorem N1{f:Addr}{fd:FuncData}(F:aX K "same" "same" xT f fd)(T:bG mg)(Ak:aY P w K mg base "many_common" 1 ["one","other"] (xR K))(dU:aY P w K mg base "rising" 1 ["timbers"] (iL K)):aK P w K mg base aV 2 f fd ["one","other"] (tN K):=by
 refine F.ok EU (fun vs H Q E h=>?_) (fun aM A outer s H vs Q E hr h=>?_)
 ·obtain⟨p,q,ns,ms,rfl,_⟩:=h
  rfl
 ·obtain⟨p,q,ns,ms,rfl,hS,hT,hl,hm,k⟩:=h
  refine⟨_,(aF (bR (i:=2) EU.nd rfl (Or.inl rfl) (pC Ak (a9 (pv 0) (a9 (pv 1) ag))))
   (aA (aU (g_ (fP ia (bu ja ay (pv 2)) (bp (cQ (K:=K) rfl) (by rfl) T.z_len cB (a9 (pC dU (a9 (pv 0) ag)) ag)) (bO _)) (iB (fP ia (bu ja ay (pv 2)) (bp (cQ (K:=K) rfl) (by rfl) T.z_len cB (a9 (pC dU (a9 (pv 1) ag)) ag)) (bO _))))))),?_⟩
  walk_at "r"
  refine⟨p,q,ns,ms,rfl,hS,hT,hl,hm,fun H1 s1=>?_⟩
  have b1:=Kg ns ms
  have b2:=wz ns
  walk_at "r"
  refine⟨p,ns,rfl,hS.same s1,hl,fun l H2 rs s2 _ hl2 ris=>?_⟩
  have e1:rs.length=bK ns:=jS ris.nodup ris.2
  walk_at "r"
  rw[ar,e1]
  walk_at "r"
  have ee:eT ns ms=(decide ((bK ns:Int)<2*(aZ ns ms:Int)) && decide ((bK ms:Int)<2*(aZ ns ms:Int))):=by
   unfold eT
   congr 1
   ·exact decide_eq_decide.mpr (by omega)
   ·exact decide_eq_decide.mpr (by omega)
  refine kP (fun c1=>?_) (fun c1=>?_)
  ·walk_at "r"
   refine⟨q,ms,rfl,hT.same (s1.trans s2),hm,fun l' H3 rs' s3 _ hl3 ris'=>?_⟩
   have e2:rs'.length=bK ms:=jS ris'.nodup ris'.2
   walk_at "r"
   rw[ar,e2]
   have q:=k _ ((s1.trans s2).trans s3)
   rw[ee,c1,iA]at q
   exact q
  ·have q:=k _ (s1.trans s2)
   rw[ee,Qe.mpr c1,jz]at q
   exact q
noncomputable def lC(H:Hp)(c:Addr)(fl:List (List Int)):Prop:=∃ts:List Addr,H c=some (.lst (ts.map V.ref))/\ts.length=fl.length/\∀(i:Nat) t ns,ts[i]?=some t->fl[i]?=some ns->H t=some (.lst (ns.map V.int))
theorem lC.same{H H':Hp}{c:Addr}{fl:List (List Int)}(s:aw H H')(h:lC H c fl):lC H' c fl:=by
 obtain⟨ts,h1,h2,h3⟩:=h
 exact⟨ts,s _ _ h1,h2,fun i t ns e1 e2=>s _ _ (h3 i t ns e1 e2)⟩
noncomputable def il(fl:List (List Int)):Bool:=fl.all (fun ns=>!decide (ns=[])) && decide (bK fl.flatten=(fl.map bK).sum)
theorem jn{α:Type}{xs:List α}{n i:Nat}(h:xs.length=n)(hi:i<n):∃x,xs[i]?=some x:=⟨xs[i]'(by omega),aN (by omega)⟩
theorem EV(fl:List (List Int)):(fl.map bK).sum<=(fl.map List.length).sum:=by
 induction fl with
 |nil=>exact aG _
 |cons ns r ih=>
  rw[cG,cG,uN,uN]
  have:=wz ns
  omega
theorem N2(fl:List (List Int))(i:Nat):((fl.take i).map List.length).sum<=(fl.map List.length).sum:=by
 induction fl generalizing i with
 |nil=>simp
 |cons ns r ih=>
  cases i with
  |zero=>simp
  |succ i=>
   rw[List.take_succ_cons,cG,cG,uN,uN]
   have:=ih i
   omega
theorem xU{fl:List (List Int)}{ns:List Int}(h:ns∈fl):ns.length<=(fl.map List.length).sum:=by
 induction fl with
 |nil=>cases h
 |cons m r ih=>
  rw[cG,uN]
  rcases cE.mp h with rfl|h
  ·omega
  ·have:=ih h
   omega
noncomputable def xV:Sp:=fun vs H Q _=>∃(c:Addr) (fl:List (List Int)),vs=[.ref c]/\lC H c fl/\(fl.map List.length).sum<64/\∀H',aw H H'->Q (.bl (il fl)) H'
abbrev xW:Stmt:=bf 41
theorem xX:a_ ["boats","timbers","boat"] ["boats"] (aC xW):=bc
theorem N3{f:Addr}{fd:FuncData}(F:aX K "is_fleet" "is_fleet" xW f fd)(T:bG mg)(dU:aY P w K mg base "rising" 1 ["timbers"] (iL K)):aK P w K mg base aV 2 f fd ["boats"] xV:=by
 refine F.ok xX (fun vs H Q E h=>?_) (fun aM A outer s H vs Q E hr h=>?_)
 ·obtain⟨c,fl,rfl,_⟩:=h
  rfl
 ·obtain⟨c,fl,rfl,⟨ts,hc,lt,hrow⟩,hsum,k⟩:=h
  unfold il at k
  refine⟨_,(aF (bR (i:=1) xX.nd rfl (Or.inl rfl) (fR ag))
   (aF (hU gU rfl (fm (K:=K) rfl (pv 0)) (aR (i:=2) xX.nd rfl (Or.inl rfl)) (aF (bQ (c7 nu (bp (cQ (K:=K) rfl) (by rfl) T.z_len cB (a9 (pv 2) ag)) ay (bO _)) (aA (aU gA)) bU)
   (aA (dG (Ds (K:=K) rfl (pv 1) (a9 (pC dU (a9 (pv 2) ag)) ag))))))
   (aA (aU (fP nu (bp (cQ (K:=K) rfl) (by rfl) T.z_len cB (a9 (pC dU (a9 (pv 1) ag)) ag)) (bp (cQ (K:=K) rfl) (by rfl) T.z_len cB (a9 (pv 1) ag)) (bO _)))))),?_⟩
  walk_at "r"
  refine⟨b_ _,fun e he=>?_⟩
  have s1:=au (o:=.lst []) he
  have he1:ab H e (.lst []) e=some (.lst ([]:List V)):=aq
  generalize ab H e (.lst [])=H1 at s1 he1⊢
  walk_at "r"
  refine⟨c,rfl,⟨_,ai.of (s1 _ _ hc)⟩,?_⟩
  refine h_ (fun i σ' H'=>(∃x,σ'=[some (.ref c),some (.ref e),x])/\aw H H'/\((fl.take i).all fun ns=>!decide (ns=[]))=true/\∃ks:List Int,H' e=some (.lst (ks.map V.int))/\ks.length=((fl.take i).map bK).sum/\∀x,x∈ks↔x∈(fl.take i).flatten) fl.length
   ⟨⟨none,rfl⟩,s1,rfl,[],he1,rfl,fun x=>by simp⟩ ?_ ?_
  ·rintro σ' H2 ⟨⟨x,rfl⟩,s2,hall,ks,he2,lk,mk⟩
   refine⟨⟨_,ai.of (s2 _ _ hc),by rw[ar];omega⟩,?_⟩
   rw[gn (aG _)]at hall lk mk
   have lks:ks.length<64:=by have:=EV fl;omega
   walk_at "r"
   refine⟨e,ks,rfl,.inl (ai.of he2),lks,fun l H3 rs s3 _ hl3 ris=>?_⟩
   have he3:=s3 _ _ he2
   have er:rs.length=bK fl.flatten:=by rw[jS ris.nodup ris.2,wA mk]
   walk_at "r"
   rw[ar,ar,er,lk]
   rw[hall,iA]at k
   have ed:decide (V.int ((bK fl.flatten:Nat):Int)=V.int (((fl.map bK).sum:Nat):Int))=decide (bK fl.flatten=(fl.map bK).sum):=by
    apply decide_eq_decide.mpr
    constructor
    ·intro h
     injection h with h
     omega
    ·intro h;rw[h]
   rw[ed]
   exact k _ (s2.trans s3)
  ·rintro i σ' H2 hi ⟨⟨x,rfl⟩,s2,hall,ks,he2,lk,mk⟩
   obtain⟨t,e1⟩:=jn lt hi
   obtain⟨ns,e2⟩:=jn (xs:=fl) rfl hi
   have ht:=s2 _ _ (hrow i t ns e1 e2)
   refine⟨⟨_,.ref t,ai.of (s2 _ _ hc),by rw[aI,e1];rfl⟩,?_⟩
   rintro x' G ⟨rfl,hy⟩
   have ex:=hy _ (ai.of (s2 _ _ hc))
   rw[aI,e1]at ex
   cases ex
   have et:fl.take (i+1)=fl.take i++[ns]:=by rw[gu,e2];rfl
   have lns:=xU (dE e2)
   walk_at "r"
   rw[ar]
   have e0:decide (V.int (ns.length:Int)=V.int 0)=decide (ns=[]):=by
    apply decide_eq_decide.mpr
    constructor
    ·intro h
     injection h with h
     exact Qt.mp (by omega)
    ·rintro rfl;rfl
   rw[e0]
   cases h0:decide (ns=[])with
   |true=>
    refine ba ?_
    walk_at "r"
    have hf:(fl.all fun ns=>!decide (ns=[]))=false:=by
     rw[Qe]
     intro z
     have:=zI.mp z ns (dE e2)
     rw[h0]at this
     cases this
    rw[hf,jz]at k
    exact k _ s2
   |false=>
    refine bj ?_
    walk_at "r"
    refine⟨.inl ⟨rfl,_,ai.of he2⟩,?_⟩
    walk_at "r"
    refine⟨t,ns,rfl,.inl (ai.of ht),by omega,fun l H3 rs s3 _ hl3 ris=>?_⟩
    walk_at "r"
    have er:rs.length=bK ns:=jS ris.nodup ris.2
    have hk:ks.length<=64:=by
     have:=EV (fl.take i)
     have:=N2 fl i
     omega
    have hr:=wz ns
    refine Du (s3 _ _ he2) hl3 (mH (by rw[ar,ar];omega)) ?_
    walk_at "r"
    refine⟨⟨_,rfl⟩,fun b o q=>by rw[az (bh q he)];exact s3 _ _ (s2 _ _ q),?_,ks++rs,by rw[aq,cF],?_,fun z=>?_⟩
    ·rw[et,List.all_append,hall]
     show(true && ((!decide (ns=[])) && true))=true
     rw[h0]
     rfl
    ·rw[et,bF,lk,er,cF,List.sum_append]
     simp
    ·rw[et,mW,iu,iu,mk z,ris.2 z]
     simp
noncomputable def lD(a b:List (List Int))(i j:Nat):List (Nat×Nat):=((List.range j).filter fun k=>eT (a.getD i []) (b.getD k [])).map fun k=>(i,k)
noncomputable def mN(a b:List (List Int))(i:Nat):List (Nat×Nat):=(List.range i).flatMap fun r=>lD a b r b.length
noncomputable def jo(a b:List (List Int)):List (Nat×Nat):=mN a b a.length
theorem EW(a b:List (List Int))(i j:Nat):lD a b i (j+1)=lD a b i j++(if eT (a.getD i []) (b.getD j [])=true then[(i,j)]else[]):=by
 unfold lD
 rw[ko,gS,cF]
 congr 1
 rw[gr]
 split<;>rfl
theorem N4(a b:List (List Int))(i:Nat):mN a b (i+1)=mN a b i++lD a b i b.length:=by
 unfold mN
 rw[ko,Gi]
 simp
noncomputable def j_(H:Hp)(ts:List Addr)(ps:List (Nat×Nat)):Prop:=ts.length=ps.length/\∀(i:Nat) t p,ts[i]?=some t->ps[i]?=some p->H t=some (.tup [.int p.1,.int p.2])
theorem j_.same{H H':Hp}{ts:List Addr}{ps:List (Nat×Nat)}(s:aw H H')(h:j_ H ts ps):j_ H' ts ps:=⟨h.1,fun i t p e1 e2=>s _ _ (h.2 i t p e1 e2)⟩
theorem j_.snoc{H:Hp}{ts:List Addr}{ps:List (Nat×Nat)}{t:Addr}{p:Nat×Nat}(h:j_ H ts ps)(ht:H t=some (.tup [.int p.1,.int p.2])):j_ H (ts++[t]) (ps++[p]):=by
 refine⟨by simp[h.1],fun i t' p' e1 e2=>?_⟩
 rcases dh i ts.length with q|q
 ·rw[eZ q]at e1
  rw[eZ (by rw[<-h.1];exact q)]at e2
  exact h.2 i t' p' e1 e2
 ·rw[dY q]at e1
  rw[dY (by rw[<-h.1];exact q),<-h.1]at e2
  cases hi:i - ts.length with
  |zero=>
   rw[hi]at e1 e2
   cases e1;cases e2
   exact ht
  |succ j=>
   rw[hi]at e1
   simp at e1
noncomputable def xY:Sp:=fun vs H Q _=>∃(c e:Addr) (a b:List (List Int)),vs=[.ref c,.ref e]/\lC H c a/\lC H e b/\(a.map List.length).sum<64/\(b.map List.length).sum<64/\a.length<=60/\b.length<=60/\
 il a=true/\il b=true/\∀l H' (ts:List Addr),aw H H'->H l=none->H' l=some (.lst (ts.map V.ref))->j_ H' ts (jo a b)->Q (.ref l) H'
abbrev tO:Stmt:=bf 42
theorem N5:a_ ["ahead","behind"] ["ahead","behind"] (aC tO):=bc
theorem tP:(["at","one","to","other","behind"]:List Str).Nodup:=by decide+kernel
theorem N6:bE ["ahead","behind"] (aC tO) (cS [("at",kL),("one",kL),("to",kL),("other",kL),("enumerate",kG),("same",kG),("behind",kF)]) ["at","one","to","other"] [(1,"behind")]:=cg
theorem N7{f:Addr}{fd:FuncData}(F:aX K "paired" "paired" tO f fd)(T:bG mg)(uT:aY P w K mg base "is_fleet" 2 ["boats"] xV)(oN:aY P w K mg base "same" 2 ["one","other"] (tN K)):aK P w K mg base aV 3 f fd ["ahead","behind"] xY:=by
 refine F.ok N5 (fun vs H Q E h=>?_) (fun aM A outer s H vs Q E hr h=>?_)
 ·obtain⟨c,e,a,b,rfl,_⟩:=h
  rfl
 ·obtain⟨c,e,a,b,rfl,fa,fb,sa,sb,la,lb,ga,gb,k⟩:=h
  refine⟨_,(aF (bQ ((gZ (eJ (dX (pC uT (a9 (pv 0) ag)))) (iT (eJ (dX (pC uT (a9 (pv 1) ag))))))).pt (aA je) bU)
   (aA (aU (pQ rfl N6 (sL (K:=K) rfl (by rfl) T.z_enumerate (a9 (pv 0) ag)) (by intro _ _ _ _ _;exact(fV (K:=K) (n:=2) rfl rfl (bW (aR (i:=0) tP rfl (Or.inl rfl)) (bW (aR (i:=1) tP rfl (Or.inl rfl)) fw)))) (by intro _ _ _ _ _;exact cH) (by intro _ _ _ _ _;exact(e_ (a9 (pv 0) (a9 (pv 2) ag)))) (by intro _ _ _ _ _;exact(sL (K:=K) rfl (by rfl) T.z_enumerate (a9 (pv 4) ag))) (by intro _ _ _ _ _;exact(fV (K:=K) (n:=2) rfl rfl (bW (aR (i:=2) tP rfl (Or.inl rfl)) (bW (aR (i:=3) tP rfl (Or.inl rfl)) fw)))) (by intro _ _ _ _ _;exact(iH (dX (pC oN (a9 (pv 1) (a9 (pv 3) ag)))))))))),?_⟩
  walk_at "r"
  refine⟨c,a,rfl,fa,sa,fun H1 s1=>?_⟩
  rw[ga]
  walk_at "r"
  refine bj ?_
  walk_at "r"
  refine⟨e,b,rfl,fb.same s1,sb,fun H2 s2'=>?_⟩
  rw[gb]
  walk_at "r"
  refine bj ?_
  have s2:=s1.trans s2'
  obtain⟨ta,hc,lta,ra⟩:=fa.same s2
  obtain⟨tb,he,ltb,rb⟩:=fb.same s2
  walk_at "r"
  refine⟨c,rfl,⟨_,ai.of hc⟩,?_⟩
  refine vK (fun i ys σ' H'=>(∃x y z u,σ'=[x,y,z,u,some (.ref e)])/\aw H2 H'/\∃ts:List Addr,ys=ts.map V.ref/\j_ H' ts (mN a b i)/\ts.length<=i*b.length) a.length ⟨⟨none,none,none,none,rfl⟩,aw.refl _,[],rfl,⟨rfl,fun i t p h=>by simp at h⟩,b_ _⟩ ?_ ?_
  ·rintro ys σ' H3 ⟨_,s3,ts,rfl,pr,_⟩
   refine⟨⟨_,ai.of (s3 _ _ hc),by rw[ar];omega⟩,fun l hl=>?_⟩
   have s4:=au (o:=.lst (ts.map V.ref)) hl
   exact k l _ ts (s2.trans (s3.trans s4)) ((s2.trans s3).free hl) aq (pr.same s4)
  ·rintro i ys σ' H3 hi ⟨⟨x,y,z,u,rfl⟩,s3,ts,rfl,pr,lts⟩
   obtain⟨t,e1⟩:=jn lta hi
   obtain⟨ns,e2⟩:=jn (xs:=a) rfl hi
   have hns:=xU (dE e2)
   refine⟨⟨_,.ref t,ai.of (s3 _ _ hc),by rw[aI,e1];rfl⟩,?_⟩
   rintro x' H4 ⟨T',u',rfl,hn,rfl,q⟩
   have eu:=q _ (ai.of (s3 _ _ hc))
   rw[aI,e1]at eu
   cases eu
   have s4:=s3.trans (au (o:=.tup [.int i,.ref t]) hn)
   have pr4:=pr.same (au (o:=.tup [.int i,.ref t]) hn)
   have hT:ab H3 T' (.tup [.int i,.ref t]) T'=some (.tup [.int i,.ref t]):=aq
   generalize ab H3 T' (.tup [.int i,.ref t])=H4 at s4 hT pr4⊢
   refine ig (ax.of hT) rfl ?_
   walk_at "r"
   refine ba ?_
   walk_at "r"
   refine⟨e,rfl,⟨_,ai.of (s4 _ _ he)⟩,?_⟩
   have hib:i*b.length<=60*60:=Nat.mul_le_mul (by omega) lb
   refine vJ (fun j ys σ' H'=>(∃z u,σ'=[some (.int i),some (.ref t),z,u,some (.ref e)])/\aw H2 H'/\∃ts:List Addr,ys=ts.map V.ref/\j_ H' ts (mN a b i++lD a b i j)/\ts.length<=i*b.length+j) b.length ⟨⟨_,_,rfl⟩,s4,ts,rfl,by simpa[lD]using pr4,by omega⟩ ?_ ?_
   ·rintro ys σ' H5 ⟨⟨z,u,rfl⟩,s5,ts,rfl,pr5,lts5⟩
    refine⟨⟨_,ai.of (s5 _ _ he),by rw[ar];omega⟩,?_⟩
    refine cY hi ⟨⟨_,_,_,_,rfl⟩,s5,ts,rfl,by rw[N4];exact pr5,by rw[Nat.succ_mul];exact lts5⟩
   ·rintro j ys σ' H5 hj ⟨⟨z,u,rfl⟩,s5,ts,rfl,pr5,lts5⟩
    obtain⟨t2,f1⟩:=jn ltb hj
    obtain⟨ms,f2⟩:=jn (xs:=b) rfl hj
    have hms:=xU (dE f2)
    refine⟨⟨_,.ref t2,ai.of (s5 _ _ he),by rw[aI,f1];rfl⟩,cL (show _<10000 by rw[ar];omega) (by decide),?_⟩
    rintro x' H6 ⟨T2,u',rfl,hn2,rfl,q2⟩
    have eu:=q2 _ (ai.of (s5 _ _ he))
    rw[aI,f1]at eu
    cases eu
    have sn:=au (o:=.tup [.int j,.ref t2]) hn2
    have hT2:ab H5 T2 (.tup [.int j,.ref t2]) T2=some (.tup [.int j,.ref t2]):=aq
    generalize ab H5 T2 (.tup [.int j,.ref t2])=H6 at sn hT2⊢
    have s6:=s5.trans sn
    have pr6:=pr5.same sn
    refine ig (ax.of hT2) rfl ?_
    walk_at "r"
    have ga':a.getD i []=ns:=by rw[kg,e2];rfl
    have gb':b.getD j []=ms:=by rw[kg,f2];rfl
    refine⟨t,t2,ns,ms,rfl,.inl (ai.of (s6 _ _ (ra i t ns e1 e2))),.inl (ai.of (s6 _ _ (rb j t2 ms f1 f2))),by omega,by omega,fun H7 s7=>?_⟩
    walk_at "r"
    cases hlk:eT ns ms with
    |false=>
     refine bj ?_
     refine cY hj ⟨⟨_,_,rfl⟩,s6.trans s7,ts,rfl,?_,by omega⟩
     rw[EW,ga',gb',hlk,av cq,gW]
     exact pr6.same s7
    |true=>
     refine ba ?_
     walk_at "r"
     refine⟨by show 2<=sizeLine;decide,fun T3 hT3=>?_⟩
     have s8:=au (o:=.tup [.int i,.int j]) hT3
     refine cY hj ⟨⟨_,_,rfl⟩,(s6.trans s7).trans s8,ts++[T3],by rw[cF];rfl,?_,by rw[bF,oz];omega⟩
     rw[EW,ga',gb',hlk,aH rfl,<-km]
     exact((pr6.same s7).same s8).snoc (p:=(i,j)) aq
noncomputable def xZ(a b:Nat):Nat×Nat:=(a / Nat.gcd a b,b / Nat.gcd a b)
theorem N8(m n:Nat):Nat.gcd n (m % n)=Nat.gcd m n:=by
 rw[Nat.gcd_comm m n,Nat.gcd_rec n m,Nat.gcd_comm]
theorem N9(t:Nat):(if(t:Int)<0 then -(t:Int)else(t:Int))=(t:Int):=by split<;>omega
noncomputable def x_:Sp:=fun vs H Q _=>∃(a b:Nat),vs=[.int a,.int b]/\Q (.int (Nat.gcd a b:Nat)) H
abbrev y3:Stmt:=bf 48
theorem EX:a_ ["one","other"] ["one","other"] (aC y3):=bc
theorem Na{f:Addr}{fd:FuncData}(F:aX K "divisor" "divisor" y3 f fd):aK P w K mg base aV 1 f fd ["one","other"] x_:=by
 refine F.ok EX (fun vs H Q E h=>?_) (fun aM A outer s H vs Q E hr h=>?_)
 ·obtain⟨a,b,rfl,_⟩:=h
  rfl
 ·obtain⟨a,b,rfl,k⟩:=h
  refine⟨_,(aF (Bf gU (c7 ia (pv 1) ay (bO _)) (aA (GN (i:=0) (j:=1) rfl EX.nd rfl rfl (by decide) rfl rfl (a9 (pv 1) (a9 (bu nk (pv 0) (pv 1)) ag)) (by rfl))))
   (aA (aU (pv 0)))),?_⟩
  refine GU (fun σ H'=>∃m n:Nat,σ=[some (.int m),some (.int n)]/\H'=H/\Nat.gcd m n=Nat.gcd a b)
   (fun σ _=>match σ with|[_,some (.int y)]=>y.toNat|_=>0) ⟨a,b,rfl,rfl,rfl⟩ ?_ ?_
  ·rintro σ H' ⟨m,n,rfl,rfl,e⟩
   refine⟨_,rfl,_,_,rfl,rfl,_,rfl,?_⟩
   refine kP (fun h=>?_) (fun h=>?_)
   ·have hn:0<n:=by
     have:=fN h
     omega
    refine⟨_,rfl,_,rfl,_,rfl,_,_,rfl,rfl,(by show(0:Int)<n;omega),_,_,rfl,⟨n,m % n,rfl,rfl,by rw[N8];exact e⟩,?_⟩
    show((m:Int) % (n:Int)).toNat<(n:Int).toNat
    have h1:(m:Int) % (n:Int)<n:=zU _ (by omega)
    omega
   ·have hn:n=0:=by
     have:¬((0:Int)<n):=fun z=>h (bZ z)
     omega
    subst hn
    refine⟨_,rfl,?_⟩
    rw[Nat.gcd_zero_right]at e
    rw[e]
    exact k
  ·rintro σ H' Q1 Q2 hq ⟨v,e,i,j,e1,e2,c,e3,q⟩
   exact⟨v,e,i,j,e1,e2,c,e3,hq _ _ q⟩
theorem EY{i:Int}{n:Nat}(h:0<n)(h2:n<2 ^ 8000):vw i (n:Int):=⟨by omega,oJ (C2 (k:=8000) h2 (by decide)) (by decide)⟩
noncomputable def RX(H:Hp)(Q:VK)(v:Nat×Nat):Prop:=∀p H',aw H H'->H' p=some (.tup [.int v.1,.int v.2])->Q (.ref p) H'
noncomputable def y4:Sp:=fun vs H Q _=>∃(t b:Nat),vs=[.int t,.int b]/\0<b/\b<2 ^ 8000/\RX H Q (xZ t b)
abbrev y6:Stmt:=bf 49
theorem EZ:a_ ["top","bottom","shared"] ["top","bottom"] (aC y6):=bc
theorem Nb{f:Addr}{fd:FuncData}(F:aX K "lowest" "lowest" y6 f fd)(T:bG mg)(Al:aY P w K mg base "divisor" 1 ["one","other"] x_):aK P w K mg base aV 2 f fd ["top","bottom"] y4:=by
 refine F.ok EZ (fun vs H Q E h=>?_) (fun aM A outer s H vs Q E hr h=>?_)
 ·obtain⟨a,b,rfl,_⟩:=h
  rfl
 ·obtain⟨t,b,rfl,hb,hb2,k⟩:=h
  refine⟨_,(aF (bR (i:=2) EZ.nd rfl (Or.inl rfl) (pC Al (a9 (bp vS (by rfl) T.z_abs vP (a9 (pv 0) ag)) (a9 (pv 1) ag))))
   (aA (aU (e_ (a9 (bu vy (pv 0) (pv 2)) (a9 (bu vy (pv 1) (pv 2)) ag)))))),?_⟩
  have g1:0<Nat.gcd t b:=Nat.gcd_pos_of_pos_right _ hb
  have g2:Nat.gcd t b<=b:=Nat.gcd_le_right _ hb
  walk_at "r"
  refine⟨t,b,(by rw[N9];rfl),?_⟩
  walk_at "r"
  refine rY (EY g1 (eN g2 hb2)) ?_
  walk_at "r"
  refine rY (EY g1 (eN g2 hb2)) ?_
  walk_at "r"
  refine⟨by show 2<=sizeLine;decide,fun p hp=>k p _ (au hp) aq⟩
abbrev ya:Stmt:=bf 20
theorem Nc:a_ ["number"] ["number"] (aC ya):=bc
theorem Nd{f:Addr}{fd:FuncData}(F:aX K "is_day" "is_day" ya f fd)(T:bG mg){tk:Tok}(hLD:mg "LAST_DAY"=some (.int 400 tk)):aK P w K mg base aV 1 f fd ["number"] (gJ 1 400):=by
 refine F.ok Nc (fun vs H Q E h=>?_) (fun aM A outer s H vs Q E hr h=>?_)
 ·obtain⟨x,rfl,_⟩:=h
  rfl
 ·obtain⟨x,rfl,k⟩:=h
  refine⟨_,(aA (aU (m7 eR eR ay (pv 0) (fG (v:=.int 400) (by rfl) hLD ⟨_,rfl⟩)))),?_⟩
  refine jf ?_
  exact nZ (fun _ q=>gE q) (fun _ q=>du rfl q) (fun _ q=>gE q) k
abbrev yb:Stmt:=bf 21
theorem Nf:a_ ["number"] ["number"] (aC yb):=bc
theorem Ng{f:Addr}{fd:FuncData}(F:aX K "is_timber" "is_timber" yb f fd)(T:bG mg){tk:Tok}(hMT:mg "MOST_TIMBERS"=some (.int 60 tk)):aK P w K mg base aV 1 f fd ["number"] (gJ 1 60):=by
 refine F.ok Nf (fun vs H Q E h=>?_) (fun aM A outer s H vs Q E hr h=>?_)
 ·obtain⟨x,rfl,_⟩:=h
  rfl
 ·obtain⟨x,rfl,k⟩:=h
  refine⟨_,(aA (aU (m7 eR eR ay (pv 0) (fG (v:=.int 60) (by rfl) hMT ⟨_,rfl⟩)))),?_⟩
  refine jf ?_
  exact nZ (fun _ q=>gE q) (fun _ q=>du rfl q) (fun _ q=>gE q) k
theorem E_{n:Nat}(h:1<=n):HT.sIx n 0 (some (1:Int))=1:=by
 have z:HT.sIx n 0 (some ((1:Nat):Int))=min 1 n:=HT.sIx_nat n 0 1
 have e:HT.sIx n 0 (some (1:Int))=min 1 n:=z
 omega
theorem Nh{n:Nat}:HT.sIx n n none=n:=rfl
theorem F0{xs:List V}(h:1<=xs.length):fh xs (some 1) none=xs.drop 1:=by
 unfold fh
 rw[E_ h,Nh]
 exact gn (by rw[lU];exact aG _)
noncomputable def mO(ns:List Int):List V:=(ns.zip (ns.drop 1)).map fun p=>V.bl (decide (p.1<p.2))
theorem F3{S1 S2:Hp->List V->Prop}{ns:List Int}{H1:Hp}{Fin:List V->Hp->Prop}(hl:ns.length<=1000)(hS1:∀H',aw H1 H'->S1 H' (ns.map V.int))(hS2:∀H',aw H1 H'->S2 H' ((ns.drop 1).map V.int))
  (fin:∀H',aw H1 H'->Fin (mO ns) H'):
  ic (kQ S1 S2) (pj K 2 (ng (dH 0) (ng (dH 1) rB))) hV (kJ (iD fun i j=>.bl (decide (i<j))) (dq 0) (dq 1)) Fin [none,none] H1:=by
 have lz:(mO ns).length=ns.length - 1:=by unfold mO;rw[ar,List.length_zip,lU];omega
 refine iM (fun σ=>∃a b,σ=[a,b]) ⟨none,none,rfl⟩ (by omega) (fun H' s'=>⟨_,_,hS1 H' s',hS2 H' s',.inr (by rw[ar,lU];omega)⟩) (fun i H' hi s'=>?_) ?_ fin
 ·rw[lz]at hi
  exact⟨_,_,.int (ns[i]'(by omega)),.int (ns[i+1]'(by omega)),hS1 H' s',hS2 H' s',by rw[aI,aN (by omega)];rfl,by rw[aI,uF,q_ 1 i,aN (by omega)];rfl⟩
 ·rintro i w x σ' H' H2 R R0 hw ⟨a0,b0,rfl⟩ s' ⟨T,u,v,rfl,hn,rfl,q⟩ hR
  obtain⟨q1,q2⟩:=q _ _ (hS1 H' s') (hS2 H' s')
  have hi:i<ns.length - 1:=by
   rcases dh i (ns.length - 1)with h|h
   ·exact h
   ·rw[iQ (by rw[lz];exact h)]at hw;cases hw
  rw[aI,aN (by omega)]at q1
  rw[aI,uF,q_ 1 i,aN (by omega)]at q2
  cases q1
  cases q2
  refine ig (ax.of aq) rfl ?_
  walk_at "r"
  refine ba ?_
  walk_at "r"
  have ew:w=.bl (decide (ns[i]'(by omega)<ns[i+1]'(by omega))):=by
   unfold mO at hw
   rw[aI,aN (by rw[List.length_zip,lU];omega)]at hw
   have e:=cm hw
   rw[List.getElem_zip,List.getElem_drop]at e
   rw[<-e]
   simp only[q_ 1 i]
  rw[<-ew]
  exact hR _ _ ⟨_,_,rfl⟩ (s'.trans (au hn))
theorem Ni(ns:List Int):∃bs:List Bool,mO ns=bs.map V.bl/\bs.all id=i6 ns:=by
 refine⟨(ns.zip (ns.drop 1)).map fun p=>decide (p.1<p.2),by unfold mO;rw[gX];rfl,?_⟩
 unfold i6
 rw[r8]
 rfl
noncomputable def tQ(K:W.Frag):Sp:=fun vs H Q _=>∃(p:Addr) (ns:List Int),vs=[.ref p]/\cZ K H p (ns.map V.int)/\1<=ns.length/\ns.length<=1000/\∀H',aw H H'->Q (.bl (i6 ns)) H'
abbrev tR:Stmt:=bf 44
theorem Nj:a_ ["numbers"] ["numbers"] (aC tR):=bc
theorem F4:(["ahead","behind"]:List Str).Nodup:=by decide+kernel
theorem Nk:bE ["numbers"] (aC tR) (cS [("ahead",kL),("behind",kL)]) ["ahead","behind"] []:=cg
theorem Nl{f:Addr}{fd:FuncData}(F:aX K "rises" "rises" tR f fd)(T:bG mg):aK P w K mg base aV 1 f fd ["numbers"] (tQ K):=by
 refine F.ok Nj (fun vs H Q E h=>?_) (fun aM A outer s H vs Q E hr h=>?_)
 ·obtain⟨p,ns,rfl,_⟩:=h
  rfl
 ·obtain⟨p,ns,rfl,hS,h1,hl,k⟩:=h
  have ec:fh (ns.map V.int) (some 1) none=(ns.drop 1).map V.int:=by rw[F0 (by rw[ar];exact h1),List.map_drop]
  obtain⟨bs,eb,ea⟩:=Ni ns
  refine⟨_,(aA (aU (bp (iX (K:=K) rfl rfl) (by rfl) T.z_all iW (a9 (eL rfl Nk (vT (K:=K) rfl (by rfl) T.z_zip (a9 (pv 0) (a9 (nE ((pW (K:=K) rfl).or (DD (K:=K) rfl)) (pv 0) (nB ay) nA) ag))) (by intro _ _ _ _ _;exact(fV (K:=K) (n:=2) rfl rfl (bW (aR (i:=0) F4 rfl (Or.inl rfl)) (bW (aR (i:=1) F4 rfl (Or.inl rfl)) fw)))) (by intro _ _ _ _ _;exact cH) (by intro _ _ _ _ _;exact(fP v9 (pv 0) (pv 1) (bO _)))) ag)))),?_⟩
  walk_at "r"
  have fin:∀{H1:Hp},aw H H1->∀H',aw H1 H'->∀D,H' D=none->vO K [.ref D] (ab H' D (.lst (mO ns))) Q:=fun s1 H' s' D hD=>by
   refine⟨D,bs,rfl,ai.of (by rw[aq,eb]),?_⟩
   rw[ea]
   exact k _ ((s1.trans s').trans (au hD))
  rcases hS with hS|hS
  ·refine .inl ⟨p,_,rfl,hS,fun c hc=>?_⟩
   rw[ec]
   have s1:=au (o:=.lst ((ns.drop 1).map V.int)) hc
   have hc1:ab H c (.lst ((ns.drop 1).map V.int)) c=some (.lst ((ns.drop 1).map V.int)):=aq
   refine⟨p,c,rfl,.inl ⟨_,_,s1.seq hS,ai.of hc1,?_⟩⟩
   refine F3 (by omega) (fun H' s'=>s'.seq (s1.seq hS)) (fun H' s'=>ai.of (s' _ _ hc1)) ?_
   intro H' s' D hD
   walk_at "r"
   exact fin s1 H' s' D hD
  ·refine .inr ⟨p,_,rfl,hS,?_,fun c hc=>?_⟩
   ·rw[ar,E_ h1]
    rintro⟨z,_⟩
    cases z
   rw[ec]
   have s1:=au (o:=.tup ((ns.drop 1).map V.int)) hc
   have hc1:ab H c (.tup ((ns.drop 1).map V.int)) c=some (.tup ((ns.drop 1).map V.int)):=aq
   refine⟨p,c,rfl,.inr ⟨_,_,fY s1 hS,ax.of hc1,?_⟩⟩
   refine F3 (by omega) (fun H' s'=>fY s' (fY s1 hS)) (fun H' s'=>ax.of (s' _ _ hc1)) ?_
   intro H' s' D hD
   walk_at "r"
   exact fin s1 H' s' D hD
noncomputable def g8(af:Int)(ns:List Int):Bool:=cR 1 af ns.length && (ns.all (cR 1 60) && i6 ns)
noncomputable def yc(K:W.Frag):Sp:=fun vs H Q _=>∃(af:Int) (p:Addr) (ns:List Int),vs=[.int af,.ref p]/\ax K H p (ns.map V.int)/\ns.length<64/\∀H',aw H H'->Q (.bl (g8 af ns)) H'
abbrev tT:Stmt:=bf 45
theorem Nm:a_ ["slip","timbers"] ["slip","timbers"] (aC tT):=bc
theorem Nn:(["timber"]:List Str).Nodup:=by decide+kernel
theorem Np:bE ["slip","timbers"] (aC tT) (cS [("timber",kL),("is_timber",kG)]) ["timber"] []:=cg
theorem Nq{f:Addr}{fd:FuncData}(F:aX K "is_boat" "is_boat" tT f fd)(T:bG mg)(oO:aY P w K mg base "is_timber" 1 ["number"] (gJ 1 60))(oP:aY P w K mg base "rises" 1 ["numbers"] (tQ K)):aK P w K mg base aV 2 f fd ["slip","timbers"] (yc K):=by
 refine F.ok Nm (fun vs H Q E h=>?_) (fun aM A outer s H vs Q E hr h=>?_)
 ·obtain⟨af,p,ns,rfl,_⟩:=h
  rfl
 ·obtain⟨af,p,ns,rfl,hS,hl,k⟩:=h
  unfold g8 at k
  refine⟨_,(aA (aU (g_ (m7 eR eR ay (bp (cQ (K:=K) rfl) (by rfl) T.z_len cB (a9 (pv 1) ag)) (pv 0)) (g_ (bp (iX (K:=K) rfl rfl) (by rfl) T.z_all iW (a9 (eL rfl Np (fo (K:=K) rfl (pv 1)) (by intro _ _ _ _ _;exact(aR (i:=0) Nn rfl (Or.inl rfl))) (by intro _ _ _ _ _;exact cH) (by intro _ _ _ _ _;exact(pC oO (a9 (pv 0) ag)))) ag)) (iB (pC oP (a9 (pv 1) ag))))))),?_⟩
  refine jf (Cj ?_)
  refine nZ (x:=ns.length) (fun _ q=>gE q) (fun _ q=>?_) (fun _ q=>du rfl q) ?_
  ·walk_at "r"
   rw[ar]
   exact q
  refine pU ?_
  cases h1:cR 1 af ns.length with
  |false=>
   rw[h1,jz]at k
   exact bj (k _ (aw.refl _))
  |true=>
   rw[h1,iA]at k
   refine ba ?_
   have hl1:1<=ns.length:=by
    unfold cR at h1
    have:=fN (Bool.and_eq_true_iff.mp h1).1
    omega
   walk_at "r"
   refine⟨p,rfl,⟨_,hS⟩,?_⟩
   refine iM (ws:=ns.map fun x=>V.bl (cR 1 60 x)) (fun σ=>∃a,σ=[a]) ⟨none,rfl⟩ (by rw[ar];omega) (fun H' s'=>⟨_,fY s' hS,by rw[ar,ar];exact aG _⟩) (fun i H' hi s'=>?_) ?_ ?_
   ·rw[ar]at hi
    exact⟨_,.int ns[i],fY s' hS,by rw[aI,aN hi];rfl⟩
   ·rintro i w' x σ' H' H2 R R0 hw ⟨a,rfl⟩ s' ⟨rfl,hy⟩ hR
    have e:=hy _ (fY s' hS)
    rw[aI]at e hw
    cases hi:ns[i]? with
    |none=>rw[hi]at e;cases e
    |some n=>
     rw[hi]at e hw
     cases e
     cases hw
     walk_at "r"
     refine ba ?_
     walk_at "r"
     exact⟨n,rfl,hR _ _ ⟨_,rfl⟩ s'⟩
   intro H' s' D hD
   walk_at "r"
   refine⟨D,ns.map (cR 1 60),rfl,ai.of (by rw[aq,gX];rfl),?_⟩
   have e:(ns.map (cR 1 60)).all id=ns.all (cR 1 60):=by rw[r8];rfl
   rw[e]
   have s2:=s'.trans (au (o:=.lst (ns.map fun x=>V.bl (cR 1 60 x))) hD)
   refine pU ?_
   cases h2:ns.all (cR 1 60)with
   |false=>
    rw[h2,jz]at k
    exact bj (k _ s2)
   |true=>
    rw[h2,iA]at k
    refine ba ?_
    walk_at "r"
    exact⟨p,ns,rfl,.inr (fY s2 hS),hl1,by omega,fun H3 s3=>k _ (s2.trans s3)⟩
noncomputable def gN(H:Hp)(c:Addr)(ch:List (Int×List Int)):Prop:=∃ts Bs:List Addr,H c=some (.lst (ts.map V.ref))/\ts.length=ch.length/\Bs.length=ch.length/\
 ∀(i:Nat) t B r,ts[i]?=some t->Bs[i]?=some B->ch[i]?=some r->H t=some (.tup [.int r.1,.ref B])/\H B=some (.tup (r.2.map V.int))
noncomputable def tU(ch:List (Int×List Int)):Bool:=(ch.zip (ch.drop 1)).all fun p=>eT p.1.2 p.2.2
noncomputable def j2(af:Int)(ch:List (Int×List Int)):Bool:=!(decide (ch=[])) && ((ch.all fun r=>cR 1 400 r.1) && (i6 (ch.map (·.1)) && ((ch.all fun r=>g8 af r.2) && tU ch)))
noncomputable def yd(K:W.Frag):Sp:=fun vs H Q _=>∃(af:Int) (c:Addr) (ch:List (Int×List Int)),vs=[.int af,.ref c]/\gN H c ch/\ch.length<=400/\(∀r∈ch,r.2.length<64)/\∀H',aw H H'->Q (.bl (j2 af ch)) H'
abbrev lE:Stmt:=bf 46
abbrev o9:List Str:=["slip","chain","days","boats"]
theorem ye:a_ o9 ["slip","chain"] (aC lE):=bc
theorem F5:(["day","timbers"]:List Str).Nodup:=by decide+kernel
theorem Nr:bE o9 (aC lE) (cS [("day",kL),("timbers",kL)]) ["day","timbers"] []:=cg
theorem F6:(["day","timbers"]:List Str).Nodup:=by decide+kernel
theorem Nt:bE o9 (aC lE) (cS [("day",kL),("timbers",kL)]) ["day","timbers"] []:=cg
theorem Nu:(["day"]:List Str).Nodup:=by decide+kernel
theorem Nv:bE o9 (aC lE) (cS [("day",kL),("is_day",kG)]) ["day"] []:=cg
theorem Nw:(["boat","slip"]:List Str).Nodup:=by decide+kernel
theorem Nx:bE o9 (aC lE) (cS [("boat",kL),("is_boat",kG),("slip",kF)]) ["boat"] [(0,"slip")]:=cg
theorem F7:(["ahead","behind"]:List Str).Nodup:=by decide+kernel
theorem Ny:bE o9 (aC lE) (cS [("ahead",kL),("behind",kL),("same",kG)]) ["ahead","behind"] []:=cg
theorem Nz{f:Addr}{fd:FuncData}(F:aX K "judged" "judged" lE f fd)(T:bG mg)(oQ:aY P w K mg base "is_day" 1 ["number"] (gJ 1 400))(oP:aY P w K mg base "rises" 1 ["numbers"] (tQ K))(Am:aY P w K mg base "is_boat" 2 ["slip","timbers"] (yc K))(oN:aY P w K mg base "same" 2 ["one","other"] (tN K)):aK P w K mg base aV 3 f fd ["slip","chain"] (yd K):=by
 refine F.ok ye (fun vs H Q E h=>?_) (fun aM A outer s H vs Q E hr h=>?_)
 ·obtain⟨af,c,ch,rfl,_⟩:=h
  rfl
 ·obtain⟨af,c,ch,rfl,⟨ts,Bs,hc,lt,lB,hrow⟩,lc,hsz,k⟩:=h
  unfold j2 at k
  have row:∀i,i<ch.length->∃t B r,ts[i]?=some t/\Bs[i]?=some B/\ch[i]?=some r/\H t=some (.tup [.int r.1,.ref B])/\H B=some (.tup (r.2.map V.int)):=fun i hi=>by
   obtain⟨t,e1⟩:=jn lt hi
   obtain⟨B,e2⟩:=jn lB hi
   obtain⟨r,e3⟩:=jn (xs:=ch) rfl hi
   exact⟨t,B,r,e1,e2,e3,hrow i t B r e1 e2 e3⟩
  refine⟨_,(aF (kR (iy:=2) rfl ye.nd rfl rfl Nr (fm (K:=K) rfl (pv 1)) (by intro _ _ _ _ _;exact(fV (K:=K) (n:=2) rfl rfl (bW (aR (i:=0) F5 rfl (Or.inl rfl)) (bW (aR (i:=1) F5 rfl (Or.inl rfl)) fw)))) (by intro _ _ _ _ _;exact cH) (by intro _ _ _ _ _;exact(pv 0)) (by rfl))
   (aF (kR (iy:=3) rfl ye.nd rfl rfl Nt (fm (K:=K) rfl (pv 1)) (by intro _ _ _ _ _;exact(fV (K:=K) (n:=2) rfl rfl (bW (aR (i:=0) F6 rfl (Or.inl rfl)) (bW (aR (i:=1) F6 rfl (Or.inl rfl)) fw)))) (by intro _ _ _ _ _;exact cH) (by intro _ _ _ _ _;exact(pv 1)) (by rfl))
   (aF (bQ ((gZ (c7 nu (bp (cQ (K:=K) rfl) (by rfl) T.z_len cB (a9 (pv 1) ag)) ay (bO _)) (gZ (eJ (dX (bp (iX (K:=K) rfl rfl) (by rfl) T.z_all iW (a9 (eL rfl Nv (fm (K:=K) rfl (pv 2)) (by intro _ _ _ _ _;exact(aR (i:=0) Nu rfl (Or.inl rfl))) (by intro _ _ _ _ _;exact cH) (by intro _ _ _ _ _;exact(pC oQ (a9 (pv 0) ag)))) ag)))) (iT (eJ (dX (pC oP (a9 (pv 2) ag)))))))).pt (aA (aU gA)) bU)
   (aF (bQ (eJ (dX (bp (iX (K:=K) rfl rfl) (by rfl) T.z_all iW (a9 (eL rfl Nx (fm (K:=K) rfl (pv 3)) (by intro _ _ _ _ _;exact(aR (i:=0) Nw rfl (Or.inl rfl))) (by intro _ _ _ _ _;exact cH) (by intro _ _ _ _ _;exact(pC Am (a9 (pv 1) (a9 (pv 0) ag))))) ag)))) (aA (aU gA)) bU)
   (aA (aU (bp (iX (K:=K) rfl rfl) (by rfl) T.z_all iW (a9 (eL rfl Ny (vT (K:=K) rfl (by rfl) T.z_zip (a9 (pv 3) (a9 (nE (pW (K:=K) rfl) (pv 3) (nB ay) nA) ag))) (by intro _ _ _ _ _;exact(fV (K:=K) (n:=2) rfl rfl (bW (aR (i:=0) F7 rfl (Or.inl rfl)) (bW (aR (i:=1) F7 rfl (Or.inl rfl)) fw)))) (by intro _ _ _ _ _;exact cH) (by intro _ _ _ _ _;exact(pC oN (a9 (pv 0) (a9 (pv 1) ag))))) ag)))))))),?_⟩
  walk_at "r"
  refine⟨c,rfl,⟨_,ai.of hc⟩,?_⟩
  refine iM (ws:=ch.map fun r=>V.int r.1) (fun σ=>∃a b,σ=[a,b]) ⟨none,none,rfl⟩ (by rw[ar];omega) (fun H' s'=>⟨_,ai.of (s' _ _ hc),by rw[ar,ar];omega⟩) (fun i H' hi s'=>?_) ?_ ?_
  ·rw[ar]at hi
   obtain⟨t,B,r,e1,_⟩:=row i hi
   exact⟨_,.ref t,ai.of (s' _ _ hc),by rw[aI,e1];rfl⟩
  ·rintro i w' x σ' H' H2 R R0 hw ⟨a,b,rfl⟩ s' ⟨rfl,hy⟩ hR
   have hi:i<ch.length:=by
    rcases dh i ch.length with h|h
    ·exact h
    ·rw[iQ (by rw[ar];exact h)]at hw;cases hw
   obtain⟨t,B,r,e1,e2,e3,g1,g2⟩:=row i hi
   have e:=hy _ (ai.of (s' _ _ hc))
   rw[aI,e1]at e
   cases e
   rw[aI,e3]at hw
   cases hw
   refine ig (ax.of (s' _ _ g1)) rfl ?_
   walk_at "r"
   refine ba ?_
   walk_at "r"
   exact hR _ _ ⟨_,_,rfl⟩ s'
  intro H1 s1 D hD
  have s2:=s1.trans (au (o:=.lst (ch.map fun r=>V.int r.1)) hD)
  have hD2:ab H1 D (.lst (ch.map fun r=>V.int r.1)) D=some (.lst ((ch.map (·.1)).map V.int)):=by rw[aq,gX];rfl
  generalize ab H1 D (.lst (ch.map fun r=>V.int r.1))=H2 at s2 hD2⊢
  clear s1 hD
  walk_at "r"
  refine⟨c,rfl,⟨_,ai.of (s2 _ _ hc)⟩,?_⟩
  refine iM (ws:=Bs.map V.ref) (fun σ=>∃a b,σ=[a,b]) ⟨none,none,rfl⟩ (by rw[ar];omega) (fun H' s'=>⟨_,ai.of (s' _ _ (s2 _ _ hc)),by rw[ar,ar];omega⟩) (fun i H' hi s'=>?_) ?_ ?_
  ·rw[ar,lB]at hi
   obtain⟨t,B,r,e1,_⟩:=row i hi
   exact⟨_,.ref t,ai.of (s' _ _ (s2 _ _ hc)),by rw[aI,e1];rfl⟩
  ·rintro i w' x σ' H' H3 R R0 hw ⟨a,b,rfl⟩ s' ⟨rfl,hy⟩ hR
   have hi:i<ch.length:=by
    rcases dh i ch.length with h|h
    ·exact h
    ·rw[iQ (by rw[ar];omega)]at hw;cases hw
   obtain⟨t,B,r,e1,e2,e3,g1,g2⟩:=row i hi
   have e:=hy _ (ai.of (s' _ _ (s2 _ _ hc)))
   rw[aI,e1]at e
   cases e
   rw[aI,e2]at hw
   cases hw
   refine ig (ax.of (s' _ _ (s2 _ _ g1))) rfl ?_
   walk_at "r"
   refine ba ?_
   walk_at "r"
   exact hR _ _ ⟨_,_,rfl⟩ s'
  intro H1 s1 G hG
  have s3:=s2.trans (s1.trans (au (o:=.lst (Bs.map V.ref)) hG))
  have hD3:=(s1.trans (au (o:=.lst (Bs.map V.ref)) hG)) _ _ hD2
  have hG3:ab H1 G (.lst (Bs.map V.ref)) G=some (.lst (Bs.map V.ref)):=aq
  generalize ab H1 G (.lst (Bs.map V.ref))=H3 at s3 hG3 hD3⊢
  clear s1 hG s2 hD2
  have hc3:=s3 _ _ hc
  walk_at "r"
  rw[ar,lt]
  have e0:decide (V.int (ch.length:Int)=V.int 0)=decide (ch=[]):=by
   apply decide_eq_decide.mpr
   constructor
   ·intro h
    injection h with h
    exact Qt.mp (by omega)
   ·rintro rfl;rfl
  rw[e0]
  cases h0:decide (ch=[])with
  |true=>
   rw[h0]at k
   exact ba (ba (jf (gE (k _ s3))))
  |false=>
   rw[h0,Bool.not_false,iA]at k
   have hne:ch≠[]:=of_decide_eq_false h0
   have hl1:1<=ch.length:=Qy.mpr hne
   refine bj ?_
   walk_at "r"
   refine⟨D,rfl,⟨_,ai.of hD3⟩,?_⟩
   refine iM (ws:=ch.map fun r=>V.bl (cR 1 400 r.1)) (fun σ=>∃a,σ=[a]) ⟨none,rfl⟩ (by rw[ar];omega) (fun H' s'=>⟨_,ai.of (s' _ _ hD3),by rw[ar,ar,ar];exact aG _⟩) (fun i H' hi s'=>?_) ?_ ?_
   ·rw[ar]at hi
    obtain⟨r,e3⟩:=jn (xs:=ch) rfl hi
    exact⟨_,.int r.1,ai.of (s' _ _ hD3),by rw[aI,aI,e3];rfl⟩
   ·rintro i w' x σ' H' H4 R R0 hw ⟨a,rfl⟩ s' ⟨rfl,hy⟩ hR
    have e:=hy _ (ai.of (s' _ _ hD3))
    rw[aI]at hw
    rw[aI,aI]at e
    cases hi:ch[i]? with
    |none=>rw[hi]at e;cases e
    |some r=>
     rw[hi]at e hw
     cases e
     cases hw
     walk_at "r"
     refine ba ?_
     walk_at "r"
     exact⟨r.1,rfl,hR _ _ ⟨_,rfl⟩ s'⟩
   intro H1 s1 E hE
   walk_at "r"
   refine⟨E,ch.map fun r=>cR 1 400 r.1,rfl,ai.of (by rw[aq,gX];rfl),?_⟩
   have ea:(ch.map fun r=>cR 1 400 r.1).all id=ch.all fun r=>cR 1 400 r.1:=by rw[r8];rfl
   rw[ea]
   have s4:=s1.trans (au (o:=.lst (ch.map fun r=>V.bl (cR 1 400 r.1))) hE)
   generalize ab H1 E (.lst (ch.map fun r=>V.bl (cR 1 400 r.1)))=H4 at s4⊢
   clear s1 hE
   have s04:=s3.trans s4
   walk_at "r"
   cases hd:ch.all fun r=>cR 1 400 r.1 with
   |false=>
    rw[hd,jz]at k
    exact ba (ba (jf (gE (k _ s04))))
   |true=>
    rw[hd,iA]at k
    refine bj ?_
    walk_at "r"
    refine⟨D,ch.map (·.1),rfl,.inl (ai.of (s4 _ _ hD3)),by rw[ar];exact hl1,by rw[ar];omega,fun H5 s5=>?_⟩
    have s05:=s04.trans s5
    walk_at "r"
    cases hri:i6 (ch.map (·.1))with
    |false=>
     rw[hri,jz]at k
     exact ba (jf (gE (k _ s05)))
    |true=>
     rw[hri,iA]at k
     refine bj ?_
     have hG5:=(s4.trans s5) _ _ hG3
     walk_at "r"
     refine⟨G,rfl,⟨_,ai.of hG5⟩,?_⟩
     refine iM (ws:=ch.map fun r=>V.bl (g8 af r.2)) (fun σ=>∃a,σ=[a,some (.int af)]) ⟨none,rfl⟩ (by rw[ar];omega) (fun H' s'=>⟨_,ai.of (s' _ _ hG5),by rw[ar,ar];omega⟩) (fun i H' hi s'=>?_) ?_ ?_
     ·rw[ar]at hi
      obtain⟨t,B,r,e1,e2,_⟩:=row i hi
      exact⟨_,.ref B,ai.of (s' _ _ hG5),by rw[aI,e2];rfl⟩
     ·rintro i w' x σ' H' H6 R R0 hw ⟨a,rfl⟩ s' ⟨rfl,hy⟩ hR
      have hi:i<ch.length:=by
       rcases dh i ch.length with h|h
       ·exact h
       ·rw[iQ (by rw[ar];omega)]at hw;cases hw
      obtain⟨t,B,r,e1,e2,e3,g1,g2⟩:=row i hi
      have e:=hy _ (ai.of (s' _ _ hG5))
      rw[aI,e2]at e
      cases e
      rw[aI,e3]at hw
      cases hw
      walk_at "r"
      refine ba ?_
      walk_at "r"
      exact⟨af,B,r.2,rfl,ax.of (s' _ _ (s05 _ _ g2)),hsz r (dE e3),fun H7 s7=>hR _ _ ⟨_,rfl⟩ (s'.trans s7)⟩
     intro H1 s1 E2 hE2
     walk_at "r"
     refine⟨E2,ch.map fun r=>g8 af r.2,rfl,ai.of (by rw[aq,gX];rfl),?_⟩
     have eb:(ch.map fun r=>g8 af r.2).all id=ch.all fun r=>g8 af r.2:=by rw[r8];rfl
     rw[eb]
     have s6:=s1.trans (au (o:=.lst (ch.map fun r=>V.bl (g8 af r.2))) hE2)
     generalize ab H1 E2 (.lst (ch.map fun r=>V.bl (g8 af r.2)))=H6 at s6⊢
     have s06:=s05.trans s6
     have hG6:=s6 _ _ hG5
     clear s1 hE2
     walk_at "r"
     cases hbo:ch.all fun r=>g8 af r.2 with
     |false=>
      rw[hbo,jz]at k
      exact ba (jf (gE (k _ s06)))
     |true=>
      rw[hbo,iA]at k
      refine bj ?_
      walk_at "r"
      intro G2 hG2
      rw[F0 (by rw[ar];omega)]
      have s7:=au (o:=.lst ((Bs.map V.ref).drop 1)) hG2
      have hG27:ab H6 G2 (.lst ((Bs.map V.ref).drop 1)) G2=some (.lst ((Bs.map V.ref).drop 1)):=aq
      generalize ab H6 G2 (.lst ((Bs.map V.ref).drop 1))=H7 at s7 hG27⊢
      have hG7:=s7 _ _ hG6
      have s07:=s06.trans s7
      walk_at "r"
      refine⟨G,G2,rfl,.inl ⟨_,_,ai.of hG7,ai.of hG27,?_⟩⟩
      have lz:((ch.zip (ch.drop 1)).map fun p=>V.bl (eT p.1.2 p.2.2)).length=ch.length - 1:=by rw[ar,List.length_zip,lU];omega
      refine iM (ws:=(ch.zip (ch.drop 1)).map fun p=>V.bl (eT p.1.2 p.2.2)) (fun σ=>∃a b,σ=[a,b]) ⟨none,none,rfl⟩ (by omega) (fun H' s'=>⟨_,_,ai.of (s' _ _ hG7),ai.of (s' _ _ hG27),.inr (by rw[lU,ar];omega)⟩) (fun i H' hi s'=>?_) ?_ ?_
      ·rw[lz]at hi
       obtain⟨t,B,r,_,e2,_⟩:=row i (by omega)
       obtain⟨t',B',r',_,e2',_⟩:=row (i+1) (by omega)
       exact⟨_,_,.ref B,.ref B',ai.of (s' _ _ hG7),ai.of (s' _ _ hG27),by rw[aI,e2];rfl,by rw[uF,q_ 1 i,aI,e2'];rfl⟩
      ·rintro i w' x σ' H' H8 R R0 hw ⟨a,b,rfl⟩ s' ⟨T',u,v,rfl,hn,rfl,q⟩ hR
       have hi:i<ch.length - 1:=by
        rcases dh i (ch.length - 1)with h|h
        ·exact h
        ·rw[iQ (by rw[lz];exact h)]at hw;cases hw
       obtain⟨t,B,r,_,e2,e3,_,g2⟩:=row i (by omega)
       obtain⟨t',B',r',_,e2',e3',_,g2'⟩:=row (i+1) (by omega)
       obtain⟨q1,q2⟩:=q _ _ (ai.of (s' _ _ hG7)) (ai.of (s' _ _ hG27))
       rw[aI,e2]at q1
       rw[uF,q_ 1 i,aI,e2']at q2
       cases q1
       cases q2
       have ez:(ch.zip (ch.drop 1))[i]?=some (r,r'):=by
        rw[List.getElem?_zip_eq_some]
        exact⟨e3,by rw[uF,q_ 1 i];exact e3'⟩
       rw[aI,ez]at hw
       cases hw
       have sn:=au (o:=.tup [.ref B,.ref B']) hn
       refine ig (ax.of aq) rfl ?_
       walk_at "r"
       refine ba ?_
       walk_at "r"
       exact⟨B,B',r.2,r'.2,rfl,.inr (ax.of (sn _ _ (s' _ _ (s07 _ _ g2)))),.inr (ax.of (sn _ _ (s' _ _ (s07 _ _ g2')))),hsz r (dE e3),hsz r' (dE e3'),fun H9 s9=>hR _ _ ⟨_,_,rfl⟩ ((s'.trans sn).trans s9)⟩
      intro H1 s1 E3 hE3
      walk_at "r"
      refine⟨E3,(ch.zip (ch.drop 1)).map fun p=>eT p.1.2 p.2.2,rfl,ai.of (by rw[aq,gX];rfl),?_⟩
      have ep:((ch.zip (ch.drop 1)).map fun p=>eT p.1.2 p.2.2).all id=tU ch:=by rw[r8];rfl
      rw[ep]
      exact k _ (s07.trans (s1.trans (au hE3)))
theorem oa(n:Nat):(List.replicate n true).all id=true:=by
 induction n with
 |zero=>rfl
 |succ n ih=>rw[List.replicate_succ,qY,ih];rfl
theorem qB{p:Addr}{xs:List V}{te:TE}{fr:St}{H1:Hp}{Fin:List V->Hp->Prop}(hp:H1 p=some (.tup xs))(hl:xs.length<=100)
  (step:∀x H' (R:VK),x∈xs->aw H1 H'->(∀H3,aw H1 H3->R (.bl true) H3)->te (some x::fr) H' R) (fin:∀H',aw H1 H'->Fin ((List.replicate xs.length true).map V.bl) H'):ic (kH K p) (dH 0) hV te Fin (none::fr) H1:=by
 have lw:((List.replicate xs.length true).map V.bl).length=xs.length:=by simp
 refine iM (ws:=(List.replicate xs.length true).map V.bl) (fun σ=>∃x,σ=x::fr) ⟨none,rfl⟩ (by omega) (fun H' s'=>⟨_,ax.of (s' _ _ hp),by omega⟩) (fun i H' hi s'=>⟨_,_,ax.of (s' _ _ hp),aN (by omega)⟩) ?_ fin
 rintro i wv x σ' H' H2 R R0 hw ⟨x0,rfl⟩ s' ⟨rfl,hy⟩ hR
 have ex:=hy _ (ax.of (s' _ _ hp))
 have ew:wv=.bl true:=by
  rw[aI,zL]at hw
  split at hw
  ·cases hw;rfl
  ·cases hw
 subst ew
 refine fU ?_
 refine mm ?_
 refine ba ?_
 exact step x _ _ (dE ex) s' fun H3 s3=>hR _ _ ⟨_,rfl⟩ s3
noncomputable def qC:Sp:=fun vs H Q _=>∃x:Int,vs=[.int x]/\Q (.bl true) H
abbrev yf:Stmt:=bf 54
theorem NA:a_ ["thing"] ["thing"] (aC yf):=bc
theorem NB{f:Addr}{fd:FuncData}(F:aX K "is_number" "is_number" yf f fd)(T:bG mg):aK P w K mg base aV 1 f fd ["thing"] qC:=by
 refine F.ok NA (fun vs H Q E h=>?_) (fun aM A outer s H vs Q E hr h=>?_)
 ·obtain⟨x,rfl,_⟩:=h
  rfl
 ·obtain⟨x,rfl,k⟩:=h
  refine⟨_,(aA (aU (g_ (bp (sh (K:=K) rfl) (by rfl) T.z_isinstance rX (a9 (pv 0) (a9 (rn (v:=.ty "int") (by rfl) T.z_int Cf rfl) ag))) (iB (GJ (bp (sh (K:=K) rfl) (by rfl) T.z_isinstance rX (a9 (pv 0) (a9 (rn (v:=.ty "bool") (by rfl) T.z_bool IC rfl) ag)))))))),?_⟩
  have kn:pR K H (.int x) "int":=⟨.int x,by decide⟩
  walk_at "r"
  refine ba ?_
  walk_at "r"
  exact k
noncomputable def tV:Sp:=fun vs H Q _=>∃(p:Addr) (ns:List Int),vs=[.ref p]/\H p=some (.tup (ns.map V.int))/\ns.length<=100/\∀H',aw H H'->Q (.bl true) H'
abbrev tW:Stmt:=bf 55
theorem NC:a_ ["thing"] ["thing"] (aC tW):=bc
theorem ND:(["one"]:List Str).Nodup:=by decide+kernel
theorem NF:bE ["thing"] (aC tW) (cS [("one",kL),("is_number",kG)]) ["one"] []:=cg
theorem NG{f:Addr}{fd:FuncData}(F:aX K "are_numbers" "are_numbers" tW f fd)(T:bG mg)(jF:aY P w K mg base "is_number" 1 ["thing"] qC):aK P w K mg base aV 2 f fd ["thing"] tV:=by
 refine F.ok NC (fun vs H Q E h=>?_) (fun aM A outer s H vs Q E hr h=>?_)
 ·obtain⟨p,ns,rfl,_⟩:=h
  rfl
 ·obtain⟨p,ns,rfl,hp,hl,k⟩:=h
  refine⟨_,(aA (aU (g_ (bp (sh (K:=K) rfl) (by rfl) T.z_isinstance rX (a9 (pv 0) (a9 (rn (v:=.ty "tuple") (by rfl) T.z_tuple mi rfl) ag))) (iB (bp (iX (K:=K) rfl rfl) (by rfl) T.z_all iW (a9 (eL rfl NF (fo (K:=K) rfl (pv 0)) (by intro _ _ _ _ _;exact(aR (i:=0) ND rfl (Or.inl rfl))) (by intro _ _ _ _ _;exact cH) (by intro _ _ _ _ _;exact(pC jF (a9 (pv 0) ag)))) ag)))))),?_⟩
  have kn:pR K H (.ref p) "tuple":=⟨.tup hp,by decide⟩
  walk_at "r"
  refine ba ?_
  walk_at "r"
  refine⟨p,rfl,⟨_,ax.of hp⟩,?_⟩
  refine qB hp (by rw[ar];exact hl) (fun x H' R hx s' q=>?_) fun H1 s1 D hD=>?_
  ·obtain⟨y,_,rfl⟩:=Qd.mp hx
   walk_at "r"
   exact⟨y,rfl,q _ s'⟩
  ·walk_at "r"
   refine⟨D,_,rfl,ai.of aq,?_⟩
   rw[oa]
   exact k _ (s1.trans (au hD))
noncomputable def tX(K:W.Frag):Sp:=fun vs H Q _=>∃(p:Addr) (ns:List Int),vs=[.ref p]/\cZ K H p (ns.map V.int)/\ns.length<64/\ns.Nodup/\∀H',aw H H'->Q (.bl true) H'
abbrev yg:Stmt:=bf 56
theorem NH:a_ ["numbers"] ["numbers"] (aC yg):=bc
theorem NI{f:Addr}{fd:FuncData}(F:aX K "are_unlike" "are_unlike" yg f fd)(T:bG mg):aK P w K mg base aV 1 f fd ["numbers"] (tX K):=by
 refine F.ok NH (fun vs H Q E h=>?_) (fun aM A outer s H vs Q E hr h=>?_)
 ·obtain⟨p,ns,rfl,_⟩:=h
  rfl
 ·obtain⟨p,ns,rfl,hp,hl,nd,k⟩:=h
  refine⟨_,(aA (aU (fP nu (bp (Dc (w:=w) rfl) (by rfl) T.z_len cB (a9 (dJ (jT (K:=K) (w:=w) rfl rfl rfl) (by rfl) T.z_set jQ (a9 (pv 0) ag)) ag)) (bp (cQ (K:=K) rfl) (by rfl) T.z_len cB (a9 (pv 0) ag)) (bO _)))),?_⟩
  walk_at "r"
  refine jU hp (by omega) fun a ks ha nd2 mem=>?_
  have s1:=au (o:=cc w a ks) ha
  walk_at "r"
  refine De aq ?_
  rw[jS nd2 mem]
  walk_at "r"
  refine Km (hp.same s1) ?_
  walk_at "r"
  rw[ar,<-jS nd fun _=>eG,bZ rfl]
  exact k _ s1
noncomputable def yh:Sp:=fun vs H Q _=>∃(p:Addr) (ns:List Int),vs=[.ref p]/\H p=some (.tup (ns.map V.int))/\1<=ns.length/\ns.length<=100/\(∀x∈ns,1<=x/\x<=60)/\∀H',aw H H'->Q (.bl true) H'
abbrev tY:Stmt:=bf 57
theorem NJ:a_ ["thing"] ["thing"] (aC tY):=bc
theorem NK:(["one"]:List Str).Nodup:=by decide+kernel
theorem NL:bE ["thing"] (aC tY) (cS [("one",kL),("is_timber",kG)]) ["one"] []:=cg
theorem NM{f:Addr}{fd:FuncData}(F:aX K "are_timbers" "are_timbers" tY f fd)(T:bG mg)(oS:aY P w K mg base "are_numbers" 2 ["thing"] tV)(oO:aY P w K mg base "is_timber" 1 ["number"] (gJ 1 60)):aK P w K mg base aV 3 f fd ["thing"] yh:=by
 refine F.ok NJ (fun vs H Q E h=>?_) (fun aM A outer s H vs Q E hr h=>?_)
 ·obtain⟨p,ns,rfl,_⟩:=h
  rfl
 ·obtain⟨p,ns,rfl,hp,l1,hl,hm,k⟩:=h
  refine⟨_,(aA (aU (g_ (pC oS (a9 (pv 0) ag)) (g_ (fP ia (bp (cQ (K:=K) rfl) (by rfl) T.z_len cB (a9 (pv 0) ag)) ay (bO _)) (iB (bp (iX (K:=K) rfl rfl) (by rfl) T.z_all iW (a9 (eL rfl NL (fo (K:=K) rfl (pv 0)) (by intro _ _ _ _ _;exact(aR (i:=0) NK rfl (Or.inl rfl))) (by intro _ _ _ _ _;exact cH) (by intro _ _ _ _ _;exact(pC oO (a9 (pv 0) ag)))) ag))))))),?_⟩
  walk_at "r"
  refine⟨p,ns,rfl,hp,hl,fun H1 s1=>?_⟩
  have hp1:=s1 _ _ hp
  walk_at "r"
  refine ba ?_
  walk_at "r"
  rw[ar,bZ (show(0:Int)<(ns.length:Int) by omega)]
  refine ba ?_
  walk_at "r"
  refine⟨p,rfl,⟨_,ax.of hp1⟩,?_⟩
  refine qB hp1 (by rw[ar];exact hl) (fun x H' R hx s' q=>?_) fun H2 s2 D hD=>?_
  ·obtain⟨y,hy,rfl⟩:=Qd.mp hx
   walk_at "r"
   refine⟨y,rfl,?_⟩
   rw[jj (hm y hy).1 (hm y hy).2]
   exact q _ s'
  ·walk_at "r"
   refine⟨D,_,rfl,ai.of aq,?_⟩
   rw[oa]
   exact k _ (s1.trans (s2.trans (au hD)))
noncomputable def tZ:Sp:=fun vs H Q _=>∃d p:Int,vs=[.int d,.int p]/\Q (.int (10*d+p)) H
abbrev yi:Stmt:=bf 23
theorem NN:a_ ["day","place"] ["day","place"] (aC yi):=bc
theorem NO{f:Addr}{fd:FuncData}(F:aX K "name_of" "name_of" yi f fd):aK P w K mg base aV 1 f fd ["day","place"] tZ:=by
 refine F.ok NN (fun vs H Q E h=>?_) (fun aM A outer s H vs Q E hr h=>?_)
 ·obtain⟨d,p,rfl,_⟩:=h
  rfl
 ·obtain⟨d,p,rfl,k⟩:=h
  refine⟨_,(aA (aU (bu dI (bu ja ay (pv 0)) (pv 1)))),?_⟩
  walk_at "r"
  exact k
abbrev yj:Stmt:=bf 24
theorem NP:a_ ["number"] ["number"] (aC yj):=bc
theorem NQ{f:Addr}{fd:FuncData}(F:aX K "is_name" "is_name" yj f fd){t1 t2:Tok}(hLD:mg "LAST_DAY"=some (.int 400 t1))(hMB:mg "MOST_BOATS"=some (.int 8 t2))(n9:aY P w K mg base "name_of" 1 ["day","place"] tZ):aK P w K mg base aV 2 f fd ["number"] (gJ 10 4007):=by
 refine F.ok NP (fun vs H Q E h=>?_) (fun aM A outer s H vs Q E hr h=>?_)
 ·obtain⟨x,rfl,_⟩:=h
  rfl
 ·obtain⟨x,rfl,k⟩:=h
  refine⟨_,(aA (aU (m7 eR eR (pC n9 (a9 ay (a9 ay ag))) (pv 0) (pC n9 (a9 (fG (v:=.int 400) (by rfl) hLD ⟨_,rfl⟩) (a9 (bu v5 (fG (v:=.int 8) (by rfl) hMB ⟨_,rfl⟩) ay) ag)))))),?_⟩
  refine jf ?_
  refine nZ (lo:=10) (x:=x) (hi:=4007) (fun _ q=>?_) (fun _ q=>du rfl q) (fun _ q=>?_) k
  ·walk_at "r"
   exact⟨1,0,rfl,q⟩
  ·walk_at "r"
   exact⟨400,7,rfl,q⟩
noncomputable def yk:Sp:=fun vs H Q _=>∃(p:Addr) (ns:List Int),vs=[.ref p]/\H p=some (.tup (ns.map V.int))/\ns.length<=8/\(∀x∈ns,10<=x/\x<=4007)/\ns.Nodup/\∀H',aw H H'->Q (.bl true) H'
abbrev t_:Stmt:=bf 58
theorem NR:a_ ["thing"] ["thing"] (aC t_):=bc
theorem NS:(["one"]:List Str).Nodup:=by decide+kernel
theorem NT:bE ["thing"] (aC t_) (cS [("one",kL),("is_name",kG)]) ["one"] []:=cg
theorem NU{f:Addr}{fd:FuncData}(F:aX K "are_names" "are_names" t_ f fd)(T:bG mg){t2:Tok}(hMB:mg "MOST_BOATS"=some (.int 8 t2))(oS:aY P w K mg base "are_numbers" 2 ["thing"] tV)(oT:aY P w K mg base "is_name" 2 ["number"] (gJ 10 4007))(oU:aY P w K mg base "are_unlike" 1 ["numbers"] (tX K)):aK P w K mg base aV 3 f fd ["thing"] yk:=by
 refine F.ok NR (fun vs H Q E h=>?_) (fun aM A outer s H vs Q E hr h=>?_)
 ·obtain⟨p,ns,rfl,_⟩:=h
  rfl
 ·obtain⟨p,ns,rfl,hp,hl,hm,nd,k⟩:=h
  refine⟨_,(aF (bQ ((gZ (eJ (dX (pC oS (a9 (pv 0) ag)))) (iT (c7 ia (bp (cQ (K:=K) rfl) (by rfl) T.z_len cB (a9 (pv 0) ag)) (fG (v:=.int 8) (by rfl) hMB ⟨_,rfl⟩) (bO _))))).pt (aA (aU gA)) bU)
   (aA (aU (g_ (bp (iX (K:=K) rfl rfl) (by rfl) T.z_all iW (a9 (eL rfl NT (fo (K:=K) rfl (pv 0)) (by intro _ _ _ _ _;exact(aR (i:=0) NS rfl (Or.inl rfl))) (by intro _ _ _ _ _;exact cH) (by intro _ _ _ _ _;exact(pC oT (a9 (pv 0) ag)))) ag)) (iB (pC oU (a9 (pv 0) ag))))))),?_⟩
  walk_at "r"
  refine⟨p,ns,rfl,hp,by omega,fun H1 s1=>?_⟩
  have hp1:=s1 _ _ hp
  walk_at "r"
  refine bj ?_
  walk_at "r"
  rw[ar,cz (show ¬(ns.length:Int) >8 by omega)]
  refine bj ?_
  walk_at "r"
  refine⟨p,rfl,⟨_,ax.of hp1⟩,?_⟩
  refine qB hp1 (by rw[ar];omega) (fun x H' R hx s' q=>?_) fun H2 s2 D hD=>?_
  ·obtain⟨y,hy,rfl⟩:=Qd.mp hx
   walk_at "r"
   refine⟨y,rfl,?_⟩
   rw[jj (hm y hy).1 (hm y hy).2]
   exact q _ s'
  ·have s3:=s2.trans (au (o:=.lst ((List.replicate (ns.map V.int).length true).map V.bl)) hD)
   walk_at "r"
   refine⟨D,_,rfl,ai.of aq,?_⟩
   rw[oa]
   walk_at "r"
   refine ba ?_
   walk_at "r"
   exact⟨p,ns,rfl,.inr (ax.of (s3 _ _ hp1)),by omega,nd,fun H4 s4=>k _ (s1.trans (s3.trans s4))⟩
noncomputable def k7(H:Hp)(p:Addr)(aj:List (List Int)):Prop:=∃ts:List Addr,H p=some (.tup (ts.map V.ref))/\eU H ts aj
theorem k7.same{H H':Hp}{p:Addr}{aj:List (List Int)}(s:aw H H')(h:k7 H p aj):k7 H' p aj:=by
 obtain⟨ts,h1,h2⟩:=h
 exact⟨ts,s _ _ h1,h2.same s⟩
theorem F8{te:TE}{φ:Int->V}{p:Addr}{ts:List Addr}{aj:List (List Int)}{H1:Hp}{fr:St}{Fin:List V->Hp->Prop}(hp:H1 p=some (.tup (ts.map V.ref)))(hts:eU H1 ts aj)(hl:aj.flatten.length<1000)(he:∀z∈aj.flatten,∀x (R:VK),R (φ z) H1->te (x::some (.int z)::fr) H1 R)(fin:Fin (aj.flatten.map φ) H1):
  nJ (kH K p) (dH 0) hV (pz K (dq 0)) (dH 1) hV te Fin (none::none::fr) H1:=by
 have lt:ts.length=aj.length:=hts.1
 refine vK (fun i ys σ' H'=>(∃x y,σ'=x::y::fr)/\H'=H1/\ys=((aj.take i).flatten).map φ) aj.length ⟨⟨none,none,rfl⟩,rfl,rfl⟩ ?_ ?_
 ·rintro ys σ' H' ⟨_,rfl,rfl⟩
  rw[gn (aG _)]
  exact⟨⟨_,ax.of hp,by rw[ar];omega⟩,fin⟩
 ·rintro i ys σ' H' hi ⟨⟨x,y,rfl⟩,rfl,rfl⟩
  have hi2:i<ts.length:=by omega
  have e1:ts[i]?=some ts[i]:=aN hi2
  have e2:aj[i]?=some aj[i]:=aN hi
  have ht:=hts.2 i _ _ e1 e2
  refine⟨⟨_,.ref ts[i],ax.of hp,by rw[aI,e1];rfl⟩,?_⟩
  rintro x' G ⟨rfl,hy⟩
  have ex:=hy _ (ax.of hp)
  rw[aI,e1]at ex
  cases ex
  have et:aj.take (i+1)=aj.take i++[aj[i]]:=by rw[gu,e2];rfl
  have lf:((aj.take i).flatten).length+aj[i].length<=aj.flatten.length:=by
   have:aj.flatten=(aj.take (i+1)).flatten++(aj.drop (i+1)).flatten:=by rw[<-mW,Gc]
   rw[this,et,mW,bF,bF]
   simp only[zV,z_,gW]
   omega
  refine fU ?_
  refine mm ?_
  refine ba ?_
  walk_at "r"
  refine⟨ts[i],rfl,⟨_,ax.of ht⟩,?_⟩
  refine vJ (fun j ys σ' H'=>(∃y,σ'=some (.ref ts[i])::y::fr)/\H'=G/\ys=((aj.take i).flatten++aj[i].take j).map φ) aj[i].length ⟨⟨_,rfl⟩,rfl,by rw[uL,gW]⟩ ?_ ?_
  ·rintro ys σ' H' ⟨⟨y,rfl⟩,rfl,rfl⟩
   refine⟨⟨_,ax.of ht,by rw[ar];exact aG _⟩,?_⟩
   refine cY hi ⟨⟨_,_,rfl⟩,rfl,?_⟩
   rw[jy,et,mW]
   simp only[zV,z_,gW]
  ·rintro j ys σ' H' hj ⟨⟨y,rfl⟩,rfl,rfl⟩
   have f1:aj[i][j]?=some aj[i][j]:=aN hj
   refine⟨⟨_,.int aj[i][j],ax.of ht,by rw[aI,f1];rfl⟩,cL (show _<1000 by rw[ar,bF,e9];omega) (by decide),?_⟩
   rintro x' G' ⟨rfl,hy⟩
   have ex:=hy _ (ax.of ht)
   rw[aI,f1]at ex
   cases ex
   refine fU ?_
   refine mm ?_
   refine ba ?_
   refine he _ (Qu.mpr ⟨_,gT hi,gT hj⟩) _ _ ?_
   refine cY hj ⟨⟨_,rfl⟩,rfl,?_⟩
   rw[gu,f1]
   simp only[cF,oB,cG,List.map_nil,km]
theorem F9{p:Addr}{ts:List Addr}{aj:List (List Int)}{H1:Hp}{fr:St}{Fin:List V->Hp->Prop}(hp:H1 p=some (.tup (ts.map V.ref)))(hts:eU H1 ts aj)(hl:aj.flatten.length<1000)(fin:Fin (aj.flatten.map V.int) H1):
  nJ (kH K p) (dH 0) hV (pz K (dq 0)) (dH 1) hV (dq 1) Fin (none::none::fr) H1:=F8 hp hts hl (fun _ _ _ _ q=>du rfl q) fin
structure k8(af:Int)(aj:List (List Int)):Prop where
 l:aj.length<=8
 e:∀s∈aj,1<=s.length/\(s.length:Int)<=af/\∀x∈s,1<=x/\x<=60
 nd:aj.flatten.Nodup
 fl:aj.flatten.length<64
noncomputable def yl:Sp:=fun vs H Q _=>∃(af:Int) (p:Addr) (aj:List (List Int)),vs=[.int af,.ref p]/\k7 H p aj/\af<=12/\k8 af aj/\∀H',aw H H'->Q (.bl true) H'
abbrev qD:Stmt:=bf 59
theorem NV:a_ ["slip","thing"] ["slip","thing"] (aC qD):=bc
theorem NW:(["timbers","slip"]:List Str).Nodup:=by decide+kernel
theorem NX:bE ["slip","thing"] (aC qD) (cS [("timbers",kL),("are_timbers",kG),("len",kG),("slip",kF)]) ["timbers"] [(0,"slip")]:=cg
theorem Fb:(["timbers","timber"]:List Str).Nodup:=by decide+kernel
theorem NY:bE ["slip","thing"] (aC qD) (cS [("timbers",kL),("timber",kL)]) ["timbers","timber"] []:=cg
theorem NZ{f:Addr}{fd:FuncData}(F:aX K "are_sets" "are_sets" qD f fd)(T:bG mg){t2:Tok}(hMB:mg "MOST_BOATS"=some (.int 8 t2))(An:aY P w K mg base "are_timbers" 3 ["thing"] yh)(oU:aY P w K mg base "are_unlike" 1 ["numbers"] (tX K)):aK P w K mg base aV 4 f fd ["slip","thing"] yl:=by
 refine F.ok NV (fun vs H Q E h=>?_) (fun aM A outer s H vs Q E hr h=>?_)
 ·obtain⟨af,p,aj,rfl,_⟩:=h
  rfl
 ·obtain⟨af,p,aj,rfl,⟨ts,hp,hts⟩,z,ok,k⟩:=h
  refine⟨_,(aF (bQ ((gZ (eJ (dX (bp (sh (K:=K) rfl) (by rfl) T.z_isinstance rX (a9 (pv 1) (a9 (rn (v:=.ty "tuple") (by rfl) T.z_tuple mi rfl) ag))))) (iT (c7 ia (bp (cQ (K:=K) rfl) (by rfl) T.z_len cB (a9 (pv 1) ag)) (fG (v:=.int 8) (by rfl) hMB ⟨_,rfl⟩) (bO _))))).pt (aA (aU gA)) bU)
   (aF (bQ (eJ (dX (bp (iX (K:=K) rfl rfl) (by rfl) T.z_all iW (a9 (eL rfl NX (fo (K:=K) rfl (pv 1)) (by intro _ _ _ _ _;exact(aR (i:=0) NW rfl (Or.inl rfl))) (by intro _ _ _ _ _;exact cH) (by intro _ _ _ _ _;exact(g_ (pC An (a9 (pv 0) ag)) (iB (fP eR (bp (cQ (K:=K) rfl) (by rfl) T.z_len cB (a9 (pv 0) ag)) (pv 1) (bO _)))))) ag)))) (aA (aU gA)) bU)
   (aA (aU (pC oU (a9 (pQ rfl NY (fo (K:=K) rfl (pv 1)) (by intro _ _ _ _ _;exact(aR (i:=0) Fb rfl (Or.inl rfl))) (by intro _ _ _ _ _;exact cH) (by intro _ _ _ _ _;exact(pv 1)) (by intro _ _ _ _ _;exact(fo (K:=K) rfl (pv 0))) (by intro _ _ _ _ _;exact(aR (i:=1) Fb rfl (Or.inl rfl))) (by intro _ _ _ _ _;exact cH)) ag)))))),?_⟩
  have kn:pR K H (.ref p) "tuple":=⟨.tup hp,by decide⟩
  have lt:ts.length=aj.length:=hts.1
  have l8:=ok.l
  walk_at "r"
  refine bj ?_
  walk_at "r"
  rw[ar,cz (show ¬(ts.length:Int) >8 by omega)]
  refine bj ?_
  walk_at "r"
  refine⟨p,rfl,⟨_,ax.of hp⟩,?_⟩
  refine qB hp (by rw[ar];omega) (fun x H' R hx s' q=>?_) fun H2 s2 D hD=>?_
  ·obtain⟨t,ht,rfl⟩:=Qd.mp hx
   obtain⟨i,hi,rfl⟩:=Qs.mp ht
   have e2:aj[i]?=some (aj[i]'(by omega)):=aN (by omega)
   have htp:=s' _ _ (hts.2 i _ _ (aN hi) e2)
   obtain⟨o1,o2,o3⟩:=ok.e _ (dE e2)
   walk_at "r"
   refine⟨_,_,rfl,htp,o1,by omega,o3,fun H3 s3=>?_⟩
   have htp3:=s3 _ _ htp
   walk_at "r"
   refine ba ?_
   walk_at "r"
   rw[ar,bZ o2]
   exact q _ (s'.trans s3)
  ·have s3:=s2.trans (au (o:=.lst ((List.replicate (ts.map V.ref).length true).map V.bl)) hD)
   have hp3:=s3 _ _ hp
   walk_at "r"
   refine⟨D,_,rfl,ai.of aq,?_⟩
   rw[oa]
   generalize ab H2 D (.lst ((List.replicate (ts.map V.ref).length true).map V.bl))=H3 at s3 hp3⊢
   walk_at "r"
   refine bj ?_
   walk_at "r"
   refine⟨p,rfl,⟨_,ax.of hp3⟩,?_⟩
   refine F9 hp3 (hts.same s3) (by have:=ok.fl;omega) fun D2 hD2=>?_
   have s4:=au (o:=.lst (aj.flatten.map V.int)) hD2
   walk_at "r"
   exact⟨D2,_,rfl,.inl (ai.of aq),ok.fl,ok.nd,fun H5 s5=>k _ (s3.trans (s4.trans s5))⟩
noncomputable def ym:Sp:=fun vs H Q _=>∃(s x:Int) (p:Addr),vs=[.int s,.ref p]/\H p=some (.tup [.int x])/\1<=x/\x<=60/\Q (.bl true) H
abbrev yn:Stmt:=bf 60
theorem N_:a_ ["slip","asked"] ["slip","asked"] (aC yn):=bc
theorem O0{f:Addr}{fd:FuncData}(F:aX K "fell_is_sound" "fell_is_sound" yn f fd)(T:bG mg){tk:Tok}(hMT:mg "MOST_TIMBERS"=some (.int 60 tk))(jF:aY P w K mg base "is_number" 1 ["thing"] qC):aK P w K mg base aV 2 f fd ["slip","asked"] ym:=by
 refine F.ok N_ (fun vs H Q E h=>?_) (fun aM A outer s H vs Q E hr h=>?_)
 ·obtain⟨_,_,_,rfl,_⟩:=h
  rfl
 ·obtain⟨sl,x,p,rfl,hp,h1,h2,k⟩:=h
  refine⟨_,(aA (aU (g_ (fP nu (bp (cQ (K:=K) rfl) (by rfl) T.z_len cB (a9 (pv 1) ag)) ay (bO _)) (g_ (pC jF (a9 (cp (fk (K:=K) rfl) (pv 1) ay (fun _ _=>rfl)) ag)) (iB (m7 eR eR ay (cp (fk (K:=K) rfl) (pv 1) ay (fun _ _=>rfl)) (fG (v:=.int 60) (by rfl) hMT ⟨_,rfl⟩))))))),?_⟩
  walk_at "r"
  refine ba ?_
  walk_at "r"
  refine⟨x,rfl,?_⟩
  walk_at "r"
  refine ba ?_
  walk_at "r"
  rw[bZ h1]
  refine ba ?_
  walk_at "r"
  rw[bZ h2]
  exact k
noncomputable def yo:Sp:=fun vs H Q _=>∃(s x y:Int) (p:Addr),vs=[.int s,.ref p]/\H p=some (.tup [.int x,.int y])/\10<=x/\x<=4007/\1<=y/\y<=1000000/\Q (.bl true) H
abbrev yp:Stmt:=bf 63
theorem O1:a_ ["slip","asked"] ["slip","asked"] (aC yp):=bc
theorem O2{f:Addr}{fd:FuncData}(F:aX K "money_is_sound" "money_is_sound" yp f fd)(T:bG mg){tk:Tok}(hMC:mg "MOST_COINS"=some (.int 1000000 tk))(jF:aY P w K mg base "is_number" 1 ["thing"] qC)(oT:aY P w K mg base "is_name" 2 ["number"] (gJ 10 4007)):aK P w K mg base aV 3 f fd ["slip","asked"] yo:=by
 refine F.ok O1 (fun vs H Q E h=>?_) (fun aM A outer s H vs Q E hr h=>?_)
 ·obtain⟨_,_,_,_,rfl,_⟩:=h
  rfl
 ·obtain⟨sl,x,y,p,rfl,hp,h1,h2,h3,h4,k⟩:=h
  refine⟨_,(aF (bQ ((gZ (c7 ny (bp (cQ (K:=K) rfl) (by rfl) T.z_len cB (a9 (pv 1) ag)) ay (bO _)) (gZ (eJ (dX (pC jF (a9 (cp (fk (K:=K) rfl) (pv 1) ay (fun _ _=>rfl)) ag)))) (iT (eJ (dX (pC jF (a9 (cp (fk (K:=K) rfl) (pv 1) ay (fun _ _=>rfl)) ag)))))))).pt (aA (aU gA)) bU)
   (aA (aU (g_ (pC oT (a9 (cp (fk (K:=K) rfl) (pv 1) ay (fun _ _=>rfl)) ag)) (iB (m7 eR eR ay (cp (fk (K:=K) rfl) (pv 1) ay (fun _ _=>rfl)) (fG (v:=.int 1000000) (by rfl) hMC ⟨_,rfl⟩))))))),?_⟩
  walk_at "r"
  refine bj ?_
  walk_at "r"
  refine⟨x,rfl,?_⟩
  walk_at "r"
  refine bj ?_
  walk_at "r"
  refine⟨y,rfl,?_⟩
  walk_at "r"
  refine bj ?_
  walk_at "r"
  refine⟨x,rfl,?_⟩
  rw[jj h1 h2]
  walk_at "r"
  refine ba ?_
  walk_at "r"
  rw[bZ h3]
  refine ba ?_
  walk_at "r"
  rw[bZ h4]
  exact k
noncomputable def yq:Sp:=fun vs H Q _=>∃(s:Int) (p a b:Addr) (ns:List Int) (aj:List (List Int)),vs=[.int s,.ref p]/\H p=some (.tup [.ref a,.ref b])/\H a=some (.tup (ns.map V.int))/\k7 H b aj/\s<=12/\ns.length<=8/\(∀x∈ns,10<=x/\x<=4007)/\ns.Nodup/\k8 s aj/\1<=aj.length/\∀H',aw H H'->Q (.bl true) H'
abbrev yr:Stmt:=bf 61
theorem O3:a_ ["slip","asked"] ["slip","asked"] (aC yr):=bc
theorem O4{f:Addr}{fd:FuncData}(F:aX K "refit_is_sound" "refit_is_sound" yr f fd)(T:bG mg)(Ao:aY P w K mg base "are_names" 3 ["thing"] yk)(Ap:aY P w K mg base "are_sets" 4 ["slip","thing"] yl):aK P w K mg base aV 5 f fd ["slip","asked"] yq:=by
 refine F.ok O3 (fun vs H Q E h=>?_) (fun aM A outer s H vs Q E hr h=>?_)
 ·obtain⟨_,_,_,_,_,_,rfl,_⟩:=h
  rfl
 ·obtain⟨sl,p,a,b,ns,aj,rfl,hp,ha,hb,z,l8,hm,nd,ok,l1,k⟩:=h
  refine⟨_,(aF (bQ ((gZ (c7 ny (bp (cQ (K:=K) rfl) (by rfl) T.z_len cB (a9 (pv 1) ag)) ay (bO _)) (gZ (eJ (dX (pC Ao (a9 (cp (fk (K:=K) rfl) (pv 1) ay (fun _ _=>rfl)) ag)))) (iT (eJ (dX (pC Ap (a9 (pv 0) (a9 (cp (fk (K:=K) rfl) (pv 1) ay (fun _ _=>rfl)) ag))))))))).pt (aA (aU gA)) bU)
   (aA (aU (GI (fP ia (bp (cQ (K:=K) rfl) (by rfl) T.z_len cB (a9 (cp (fk (K:=K) rfl) (pv 1) ay (fun _ _=>rfl)) ag)) ay (bO _)) (iB (fP ia (bp (cQ (K:=K) rfl) (by rfl) T.z_len cB (a9 (cp (fk (K:=K) rfl) (pv 1) ay (fun _ _=>rfl)) ag)) ay (bO _))))))),?_⟩
  walk_at "r"
  refine bj ?_
  walk_at "r"
  refine⟨a,ns,rfl,ha,l8,hm,nd,fun H1 s1=>?_⟩
  have hp1:=s1 _ _ hp
  walk_at "r"
  refine bj ?_
  walk_at "r"
  refine⟨sl,b,aj,rfl,hb.same s1,z,ok,fun H2 s2=>?_⟩
  have s12:=s1.trans s2
  have hp2:=s12 _ _ hp
  have ha2:=s12 _ _ ha
  obtain⟨ts,hb2,hts⟩:=hb.same s12
  walk_at "r"
  refine bj ?_
  walk_at "r"
  refine kP (fun _=>k _ s12) (fun _=>?_)
  walk_at "r"
  rw[ar,hts.1,bZ (show(0:Int)<(aj.length:Int) by omega)]
  exact k _ s12
inductive og where
 |fell (n:Int)
 |refit (ns:List Int) (aj:List (List Int))
 |lend (nm c:Int)
noncomputable def Fc(H:Hp)(p:Addr):og->Prop
 |.fell n=>H p=some (.tup [.str "fell",.int n])
 |.refit ns aj=>∃a b,H p=some (.tup [.str "refit",.ref a,.ref b])/\H a=some (.tup (ns.map V.int))/\k7 H b aj
 |.lend nm c=>H p=some (.tup [.str "lend",.int nm,.int c])
noncomputable def og.ok(af:Int):og->Prop
 |.fell n=>1<=n/\n<=60
 |.refit ns aj=>af<=12/\ns.length<=8/\(∀x∈ns,10<=x/\x<=4007)/\ns.Nodup/\k8 af aj/\1<=aj.length
 |.lend nm c=>10<=nm/\nm<=4007/\1<=c/\c<=1000000
noncomputable def qE(f1 f2 f3 f4 f5:Addr):List (Str×Addr):=[("fell",f1),("refit",f2),("storm",f3),("find",f3),("lend",f4),("pay",f4),("clear",f5)]
section
variable{f1 f2 f3 f4 f5:Addr}
theorem Fd:PyProof.Rows.KTD.datumAt ("fell":Str) (qE f1 f2 f3 f4 f5)=some f1:=by kernel_rfl
theorem Fe:PyProof.Rows.KTD.datumAt ("refit":Str) (qE f1 f2 f3 f4 f5)=some f2:=by kernel_rfl
theorem Ff:PyProof.Rows.KTD.datumAt ("lend":Str) (qE f1 f2 f3 f4 f5)=some f4:=by kernel_rfl
end
theorem yt(v:V)(us:List V):fh (v::us) (some 1) none=us:=by
 have e1:HT.sIx (v::us).length 0 (some (1:Int))=1:=(HT.sIx_nat (v::us).length 0 1).trans (qW (by rw[cM];omega))
 have e2:HT.sIx (v::us).length (v::us).length none=(v::us).length:=HT.sIx_none _ _
 unfold fh
 rw[e1,e2]
 show List.take _ us=us
 exact gn (by rw[cM];omega)
theorem yu(v:V)(us:List V){hi:Option Int}:¬(HT.sIx (v::us).length 0 (some (1:Int))=0/\HT.sIx (v::us).length (v::us).length hi=(v::us).length):=by
 have e1:HT.sIx (v::us).length 0 (some (1:Int))=1:=(HT.sIx_nat (v::us).length 0 1).trans (qW (by rw[cM];omega))
 rw[e1]
 exact fun z=>by cases z.1
theorem qF{b:Bool}{A B:Prop}(h:b=false)(q:B):if b=true then A else B:=by rw[av (by rw[h];decide)];exact q
noncomputable def yw:Sp:=fun vs H Q _=>∃(s:Int) (p:Addr) (x:og),vs=[.int s,.ref p]/\Fc H p x/\x.ok s/\∀H',aw H H'->Q (.bl true) H'
abbrev yx:Stmt:=bf 66
theorem Fg:a_ ["slip","fact","is_sound"] ["slip","fact"] (aC yx):=bc
theorem O5{f:Addr}{fd:FuncData}(F:aX K "sound" "sound" yx f fd)(T:bG mg){aS f1 f2 f3 f4 f5:Addr}(hS:mg "SOUND"=some (.ref aS))(tS:jV K aS (qE f1 f2 f3 f4 f5))(c1:jW P w K mg base f1 5 ["slip","asked"] ym)(c2:jW P w K mg base f2 5 ["slip","asked"] yq)(c4:jW P w K mg base f4 5 ["slip","asked"] yo):aK P w K mg base aV 6 f fd ["slip","fact"] yw:=by
 refine F.ok Fg (fun vs H Q E h=>?_) (fun aM A outer s H vs Q E hr h=>?_)
 ·obtain⟨_,p,_,rfl,_⟩:=h
  rfl
 ·obtain⟨sl,p,x,rfl,hx,ok,k⟩:=h
  refine⟨_,(aF (bQ ((gZ (c7 nu (bp (cQ (K:=K) rfl) (by rfl) T.z_len cB (a9 (pv 1) ag)) ay (bO _)) (iT (jK (L4 (K:=K) rfl (cp (fk (K:=K) rfl) (pv 1) ay (fun _ _=>rfl)) (fG (v:=.ref aS) (by rfl) hS rfl)))))).pt (aA (aU gA)) bU)
   (aF (bR (i:=2) Fg.nd rfl (Or.inl rfl) (E7 (K:=K) rfl (fG (v:=.ref aS) (by rfl) hS rfl) (cp (fk (K:=K) rfl) (pv 1) ay (fun _ _=>rfl)) (fun _ _=>rfl)))
   (aA (aU (E8 (k:=5) ⟨rfl,rfl,rfl,rfl,rfl⟩ (hr.mono (by omega)) (pv 2) (a9 (pv 0) (a9 (nE (DD (K:=K) rfl) (pv 1) (nB ay) nA) ag))))))),?_⟩
  cases x with
  |fell n=>
   have hp:H p=some (.tup [.str "fell",.int n]):=hx
   walk_at "r"
   refine qF (cz fun z=>absurd (V.int.inj z) (by show((2:Nat):Int)≠0;decide)) ?_
   walk_at "r"
   refine⟨aS,_,_,rfl,tS,rfl,?_⟩
   walk_at "r"
   rw[Fd]
   refine bj ?_
   walk_at "r"
   refine⟨aS,_,_,_,rfl,tS,rfl,Fd,?_⟩
   walk_at "r"
   refine⟨f1,_,_,rfl,c1,?_⟩
   walk_at "r"
   refine wR (ax.of hp) (yu _ _) fun q hq=>?_
   rw[yt]
   have s1:=au (o:=.tup [.int n]) hq
   walk_at "r"
   exact⟨sl,n,q,rfl,aq,ok.1,ok.2,k _ s1⟩
  |lend nm c=>
   have hp:H p=some (.tup [.str "lend",.int nm,.int c]):=hx
   walk_at "r"
   refine qF (cz fun z=>absurd (V.int.inj z) (by show((3:Nat):Int)≠0;decide)) ?_
   walk_at "r"
   refine⟨aS,_,_,rfl,tS,rfl,?_⟩
   walk_at "r"
   rw[Ff]
   refine bj ?_
   walk_at "r"
   refine⟨aS,_,_,_,rfl,tS,rfl,Ff,?_⟩
   walk_at "r"
   refine⟨f4,_,_,rfl,c4,?_⟩
   walk_at "r"
   refine wR (ax.of hp) (yu _ _) fun q hq=>?_
   rw[yt]
   have s1:=au (o:=.tup [.int nm,.int c]) hq
   walk_at "r"
   obtain⟨o1,o2,o3,o4⟩:=ok
   exact⟨sl,nm,c,q,rfl,aq,o1,o2,o3,o4,k _ s1⟩
  |refit ns aj=>
   obtain⟨a,b,hp,ha,hb⟩:=hx
   obtain⟨o1,o2,o3,o4,o5,o6⟩:=ok
   walk_at "r"
   refine qF (cz fun z=>absurd (V.int.inj z) (by show((3:Nat):Int)≠0;decide)) ?_
   walk_at "r"
   refine⟨aS,_,_,rfl,tS,rfl,?_⟩
   walk_at "r"
   rw[Fe]
   refine bj ?_
   walk_at "r"
   refine⟨aS,_,_,_,rfl,tS,rfl,Fe,?_⟩
   walk_at "r"
   refine⟨f2,_,_,rfl,c2,?_⟩
   walk_at "r"
   refine wR (ax.of hp) (yu _ _) fun q hq=>?_
   rw[yt]
   have s1:=au (o:=.tup [.ref a,.ref b]) hq
   walk_at "r"
   exact⟨sl,q,a,b,ns,aj,rfl,aq,s1 _ _ ha,hb.same s1,o1,o2,o3,o4,o5,o6,fun H' s'=>k _ (s1.trans s')⟩
structure gO(K:W.Frag)(C:Addr):Prop where
 c:dA K C
 n1:di K C "most"
 n2:di K C "day"
 n3:di K C "lines"
 n4:di K C "chains"
 n5:di K C "ends"
 n6:di K C "debts"
structure qG(K:W.Frag)(C:Addr):Prop where
 c:dA K C
 n1:di K C "shares"
 n2:di K C "by_name"
 n3:di K C "by_timber"
 n4:di K C "coins"
 n5:di K C "settled"
structure Bt where
 nm:Int
 ch:List (Int×List Int)
noncomputable def Bt.now(b:Bt):List Int:=(b.ch.getLast?.map (·.2)).getD []
structure YA where
 (y dx dl dc de db ddx dn dt:Addr)
noncomputable def k9:List Bt->Int->Option Int
 |[],_=>none
 |b::r,t=>if t∈b.now then some b.nm else k9 r t
noncomputable def jq(aL:Addr)(H:Hp)(pp:Addr):Option Int->Prop
 |none=>pp=aL
 |some nm=>H pp=some (.tup [.str "boat",.int nm])
noncomputable def bX(f:Nat->Addr)(n:Nat):List (aT×V):=(List.range n).map fun i:Nat=>(.inl ((i:Int)+1),.ref (f i))
noncomputable def jr(aL:Addr)(H:Hp)(l:Addr)(o:Option Int)(k:Nat):Prop:=∃ws tp d pp,H l=some (.lst (ws++[.ref tp]))/\ws.length<=k/\H tp=some (.tup [.int d,.ref pp])/\jq aL H pp o
noncomputable def dy(g:Int->Addr)(bs:List Bt):List (aT×V):=bs.map fun b=>(.inl b.nm,.ref (g b.nm))
noncomputable def cT(bs:List Bt):List (aT×V):=bs.map fun b=>(.inl b.nm,.non)
theorem gf{H:Hp}{d:Addr}{ae:List (aT×V)}{k:aT}(r:Rd H d (.dK ae)):gH H d (kV k) (b7 ae k):=.inl ⟨ae,k,r,rfl,rfl⟩
noncomputable def Fh(d r:Addr)(H H':Hp):Prop:=∀b u,b≠d->b≠r->H b=some u->H' b=some u
noncomputable def yy(CD:Addr):Sp:=fun vs H Q _=>∃(x dx:Addr),vs=[.ref x]/\H x=some (.ins CD dx [])/\∀dn dt H',H' x=some (.ins CD dx (dF dn dt 0))->H dn=none->H dt=none->H' dn=some (.dK [])->H' dt=some (.dK [])->dn≠dt->cI x H H'->Q .non H'
abbrev yz:Stmt:=fH (bf 51) 0
theorem O6:a_ ["self"] ["self"] (aC yz):=bc
theorem O7{f:Addr}{fd:FuncData}(F:aX K "__init__" "Debts.__init__" yz f fd)(D:qG K CD):aK P w K mg base aV 1 f fd ["self"] (yy CD):=by
 obtain⟨hc,n1,n2,n3,n4,n5⟩:=D
 refine F.ok O6 (fun vs H Q E h=>?_) (fun aM A outer s H vs Q E hr h=>?_)
 ·obtain⟨_,_,rfl,_⟩:=h
  rfl
 ·obtain⟨x,dx,rfl,e0,k⟩:=h
  refine⟨_,(aF (iK (K:=K) rfl (pv 0) ay rfl)
   (aF (iK (K:=K) rfl (pv 0) qj rfl)
   (aF (iK (K:=K) rfl (pv 0) qj rfl)
   (aF (iK (K:=K) rfl (pv 0) ay rfl)
   (aA (iK (K:=K) rfl (pv 0) ay rfl)))))),?_⟩
  walk_at "r"
  intro dn hn
  have b1:cI x H (ab H x (.ins CD dx (bw "shares" (.int 1) []))):=hW
  have e1:=au (o:=.dK []) hn _ _ (aq (H:=H) (a:=x) (o:=.ins CD dx (bw "shares" (.int 1) [])))
  have b2:=b1.trans (au (o:=.dK []) hn).but
  have d2:ab (ab H x (.ins CD dx (bw "shares" (.int 1) []))) dn (.dK []) dn=some (.dK []):=aq
  have nx:dn≠x:=fun z=>by rw[z,aq]at hn;cases hn
  have hn0:H dn=none:=by rw[az nx]at hn;exact hn
  generalize ab (ab H x (.ins CD dx (bw "shares" (.int 1) []))) dn (.dK [])=H2 at e1 b2 d2⊢
  walk_at "r"
  intro dt ht
  have b3:=b2.trans (hW (o:=.ins CD dx (bw "by_name" (.ref dn) (bw "shares" (.int 1) []))))
  have d3:ab H2 x (.ins CD dx (bw "by_name" (.ref dn) (bw "shares" (.int 1) []))) dn=some (.dK []):=by rw[az nx];exact d2
  have e3:ab H2 x (.ins CD dx (bw "by_name" (.ref dn) (bw "shares" (.int 1) []))) x=some (.ins CD dx (bw "by_name" (.ref dn) (bw "shares" (.int 1) []))):=aq
  generalize ab H2 x (.ins CD dx (bw "by_name" (.ref dn) (bw "shares" (.int 1) [])))=H3 at b3 d3 e3 ht⊢
  have e4:=au (o:=.dK []) ht _ _ e3
  have d4:=au (o:=.dK []) ht _ _ d3
  have b4:=b3.trans (au (o:=.dK []) ht).but
  have t4:ab H3 dt (.dK []) dt=some (.dK []):=aq
  have nt:dt≠x:=fun z=>by rw[z,e3]at ht;cases ht
  have ht0:H dt=none:=by
   cases z:H dt with
   |none=>rfl
   |some o=>rw[b3 dt o nt z]at ht;cases ht
  generalize ab H3 dt (.dK [])=H4 at e4 d4 b4 t4⊢
  walk_at "r"
  rw[uW,uW,LN]
  exact k dn dt _ aq hn0 ht0 (by rw[az nx];exact d4) (by rw[az nt];exact t4) (bh d3 ht) (b4.trans hW)
theorem O8(x:Nat):xZ x 1=(x,1):=by unfold xZ;rw[Nat.gcd_one_right,Nat.div_one,Nat.div_one]
noncomputable def yA(CD:Addr):Sp:=fun vs H Q _=>∃(db ddx dn dt:Addr) (c:Int) (ae:List (aT×V)) (nm:Int) (x:Nat),vs=[.ref db,.int nm]/\H db=some (.ins CD ddx (dF dn dt c))/\H dn=some (.dK ae)/\b7 ae (.inl nm)=some (.int x)/\∀p H',aw H H'->H' p=some (.tup [.int x,.int 1])->Q (.ref p) H'
abbrev yB:Stmt:=fH (bf 51) 1
theorem O9:a_ ["self","name"] ["self","name"] (aC yB):=bc
theorem Oa{f:Addr}{fd:FuncData}(F:aX K "owed" "Debts.owed" yB f fd)(D:qG K CD)(Aq:aY P w K mg base "lowest" 2 ["top","bottom"] y4):aK P w K mg base aV 3 f fd ["self","name"] (yA CD):=by
 obtain⟨hc,n1,n2,n3,n4,n5⟩:=D
 refine F.ok O9 (fun vs H Q E h=>?_) (fun aM A outer s H vs Q E hr h=>?_)
 ·obtain⟨_,_,_,_,_,_,_,_,rfl,_⟩:=h
  rfl
 ·obtain⟨db,ddx,dn,dt,c,ae,nm,x,rfl,e,en,hv,k⟩:=h
  refine⟨_,(aA (aU (pC Aq (a9 (sW (fq hr.units) (cC (K:=K) rfl (pv 0)) (pv 1) ay ⟨rfl,rfl,rfl,rfl⟩) (a9 (cC (K:=K) rfl (pv 0)) ag))))),?_⟩
  walk_at "r"
  refine⟨dn,rfl,mE (.of en),?_⟩
  walk_at "r"
  refine⟨_,gf (k:=.inl nm) (.of en),?_⟩
  rw[hv]
  walk_at "r"
  refine⟨x,1,rfl,by decide,cL (show 1<2 ^ 1 by decide) (Nat.pow_le_pow_right (by decide) (by decide)),fun p H' s' hp=>k p H' s' ?_⟩
  rw[O8]at hp
  exact hp
noncomputable def yC(CD:Addr):Sp:=fun vs H Q _=>∃(db ddx dn dt:Addr) (c0:Int) (ae:List (aT×V)) (nm c x:Int),vs=[.ref db,.int nm,.int c]/\H db=some (.ins CD ddx (dF dn dt c0))/\H dn=some (.dK ae)/\ae.length<100/\b7 ae (.inl nm)=some (.int x)/\
 ∀H',H' db=some (.ins CD ddx (dF dn dt (c0+c)))->H' dn=some (.dK (br ae (.inl nm) (.int (x+c))))->Fh db dn H H'->Q .non H'
abbrev yD:Stmt:=fH (bf 51) 6
theorem Ob:a_ ["self","name","coins"] ["self","name","coins"] (aC yD):=bc
theorem Oc{f:Addr}{fd:FuncData}(F:aX K "lend" "Debts.lend" yD f fd)(D:qG K CD):aK P w K mg base aV 1 f fd ["self","name","coins"] (yC CD):=by
 obtain⟨hc,n1,n2,n3,n4,n5⟩:=D
 refine F.ok Ob (fun vs H Q E h=>?_) (fun aM A outer s H vs Q E hr h=>?_)
 ·obtain⟨_,_,_,_,_,_,_,_,_,rfl,_⟩:=h
  rfl
 ·obtain⟨db,ddx,dn,dt,c0,ae,nm,c,x,rfl,e,en,hl,hv,k⟩:=h
  refine⟨_,(aF (sV (fq hr.units) (cC (K:=K) rfl (pv 0)) (pv 1) (bu dI (sW (fq hr.units) (cC (K:=K) rfl (pv 0)) (pv 1) ay ⟨rfl,rfl,rfl,rfl⟩) (bu ja (pv 2) (cC (K:=K) rfl (pv 0)))) rfl)
   (aA (Lu (K:=K) rfl (pv 0) (pv 2) Bc))),?_⟩
  walk_at "r"
  refine⟨dn,rfl,mE (.of en),?_⟩
  walk_at "r"
  refine⟨_,gf (k:=.inl nm) (.of en),?_⟩
  rw[hv]
  walk_at "r"
  refine nK ?_
  rw[Int.mul_one]
  walk_at "r"
  refine⟨dn,_,rfl,.inl ⟨ae,.inl nm,en,rfl,gI (by omega),rfl⟩,?_⟩
  have ndb:db≠dn:=bB e en nofun
  have e1:ab H dn (.dK (br ae (.inl nm) (.int (x+c)))) db=some (.ins CD ddx (dF dn dt c0)):=by rw[az ndb];exact e
  refine(Lv ?_:rM K (dq 0) (dq 2) (Bb fun i j=>i+j) "coins" _ _ _)
  refine du rfl ?_
  refine⟨db,CD,ddx,_,.int c0,rfl,e1,hc,n4,Es,?_⟩
  refine du rfl ?_
  refine⟨c0,c,rfl,rfl,ddx,_,e1,(by show 5<1000;decide),?_⟩
  rw[LL]
  refine k _ aq (by rw[az (Ne.symm ndb)];exact aq) fun b u n1 n2 z=>by rw[az n1,az n2];exact z
noncomputable def yE(CD:Addr):Sp:=fun vs H Q _=>∃(db ddx dn dt t:Addr) (c0:Int) (ae:List (aT×V)) (nm x:Int) (ns:List Int),vs=[.ref db,.int nm,.ref t]/\H db=some (.ins CD ddx (dF dn dt c0))/\H dn=some (.dK ae)/\H dt=some (.dK [])/\H t=some (.tup (ns.map V.int))/\dn≠dt/\ae.length<100/\(b7 ae (.inl nm)).getD (.int 0)=.int x/\
 ∀H',H' dn=some (.dK (br ae (.inl nm) (.int x)))->cI dn H H'->Q .non H'
abbrev yG:Stmt:=fH (bf 51) 12
theorem u7:a_ ["self","name","timbers","owed","timber"] ["self","name","timbers"] (aC yG):=bc
theorem Od{f:Addr}{fd:FuncData}(F:aX K "take_over" "Debts.take_over" yG f fd)(D:qG K CD):aK P w K mg base aV 1 f fd ["self","name","timbers"] (yE CD):=by
 obtain⟨hc,n1,n2,n3,n4,n5⟩:=D
 refine F.ok u7 (fun vs H Q E h=>?_) (fun aM A outer s H vs Q E hr h=>?_)
 ·obtain⟨_,_,_,_,_,_,_,_,_,_,rfl,_⟩:=h
  rfl
 ·obtain⟨db,ddx,dn,dt,t,c0,ae,nm,x,ns,rfl,e,en,et,ht,nd,hl,hv,k⟩:=h
  refine⟨_,(aF (bR (i:=3) u7.nd rfl (Or.inl rfl) (sW (fq hr.units) (cC (K:=K) rfl (pv 0)) (pv 1) ay ⟨rfl,rfl,rfl,rfl⟩))
   (aF (hU gU rfl (fo (K:=K) rfl (pv 2)) (aR (i:=4) u7.nd rfl (Or.inl rfl)) (aA (GO (i:=3) u7.nd rfl (Or.inl rfl) (KY (cC (K:=K) rfl (pv 0)) (pv 4) ay ⟨rfl,rfl,rfl,rfl⟩) Bc)))
   (aA (sV (fq hr.units) (cC (K:=K) rfl (pv 0)) (pv 1) (pv 3) rfl)))),?_⟩
  walk_at "r"
  refine⟨dn,rfl,mE (.of en),?_⟩
  walk_at "r"
  refine⟨_,gf (k:=.inl nm) (.of en),?_⟩
  rw[hv]
  walk_at "r"
  refine⟨t,rfl,⟨_,ax.of ht⟩,?_⟩
  refine h_ (fun i σ' H'=>(∃y,σ'=[some (.ref db),some (.int nm),some (.ref t),some (.int x),y])/\H'=H) ns.length ⟨⟨none,rfl⟩,rfl⟩ ?_ ?_
  ·rintro σ' H' ⟨⟨y,rfl⟩,rfl⟩
   refine⟨⟨_,ax.of ht,by rw[ar];exact aG _⟩,?_⟩
   walk_at "r"
   exact⟨dn,_,rfl,.inl ⟨ae,.inl nm,en,rfl,gI (by omega),rfl⟩,k _ aq hW⟩
  ·rintro i σ' H' hi ⟨⟨y,rfl⟩,rfl⟩
   have e1:ns[i]?=some ns[i]:=aN hi
   refine⟨⟨_,.int ns[i],ax.of ht,by rw[aI,e1];rfl⟩,?_⟩
   rintro x' G ⟨rfl,hy⟩
   have ex:=hy _ (ax.of ht)
   rw[aI,e1]at ex
   cases ex
   walk_at "r"
   refine E9 ?_
   refine du rfl ?_
   refine Ea e Er hc n3 ?_
   refine⟨dt,rfl,mE (.of et),?_⟩
   refine du rfl ?_
   refine gE ?_
   refine⟨[],.inl ns[i],et,rfl,fun v hv=>(by cases hv),fun _=>?_⟩
   refine⟨x,0,rfl,rfl,⟨some (.int ns[i]),?_⟩,rfl⟩
   show[some (V.ref db),some (V.int nm),some (V.ref t),some (V.int (x+0)),some (V.int ns[i])]=_
   rw[Int.add_zero]
section
structure YardR(CY CD aL:Addr)(H:Hp)(a:YA)(f:Nat->Addr)(g:Int->Addr)(most day:Int)(n:Nat)(pl:Nat->Option Int)(bs:List Bt)(cn:Int)(ob:List (aT×V))(k:Nat):Prop where
 y:H a.y=some (.ins CY a.dx (yF most day a.dl a.dc a.de a.db))
 l:Rd H a.dl (.dK (bX f n))
 c:H a.dc=some (.dK (dy g bs))
 e:Rd H a.de (.dK (cT bs))
 b:H a.db=some (.ins CD a.ddx (dF a.dn a.dt cn))
 nm:H a.dn=some (.dK ob)
 tm:H a.dt=some (.dK [])
 ln:∀i,i<n->jr aL H (f i) (pl i) k
 ch:∀b∈bs,gN H (g b.nm) b.ch/\b.ch≠[]/\b.ch.length<=400
 n60:n<=60
 b8:bs.length<=8
 nd:(bs.map (·.nm)).Nodup
structure jt(CY CD aL:Addr)(H:Hp)(a:YA)(f:Nat->Addr)(g:Int->Addr)(most day:Int)(n:Nat)(pl:Nat->Option Int)(bs:List Bt)(cn:Int)(ob:List (aT×V))(k:Nat):Prop extends YardR CY CD aL H a f g most day n pl bs cn ob k where
 w:H a.dl=some (.dK (bX f n))
 we:H a.de=some (.dK (cT bs))
 dd:[a.dl,a.dc,a.de,a.dn,a.dt].Nodup
 fi:∀i j,i<n->j<n->f i=f j->i=j
 gi:∀b∈bs,∀b'∈bs,g b.nm=g b'.nm->b.nm=b'.nm
 fg:∀i,i<n->∀b∈bs,f i≠g b.nm
noncomputable def yH(a:YA)(f:Nat->Addr)(g:Int->Addr)(n:Nat)(bs:List Bt)(b:Addr):Prop:=
 b=a.y\/b=a.dl\/b=a.dc\/b=a.de\/b=a.db\/b=a.dn\/(∃i,i<n/\b=f i)\/∃x∈bs,b=g x.nm
noncomputable def c8(F F':Addr->Prop)(H H':Hp):Prop:=(∀b u,¬F b->H b=some u->H' b=some u)/\∀b,F' b->F b\/H b=none
theorem c8.refl{F:Addr->Prop}{H:Hp}:c8 F F H H:=⟨fun _ _ _ z=>z,fun _ z=>.inl z⟩
theorem c8.same{F:Addr->Prop}{H H':Hp}(s:aw H H'):c8 F F H H':=⟨fun _ _ _ z=>s _ _ z,fun _ z=>.inl z⟩
theorem c8.trans{F F1 F2:Addr->Prop}{H H1 H2:Hp}(p:c8 F F1 H H1)(q:c8 F1 F2 H1 H2):c8 F F2 H H2:=by
 refine⟨fun b u n z=>?_,fun b z=>?_⟩
 ·have h1:=p.1 b u n z
  refine q.1 b u (fun y=>?_) h1
  rcases p.2 b y with w|w
  ·exact n w
  ·rw[w]at z;cases z
 ·rcases q.2 b z with w|w
  ·exact p.2 b w
  ·by_cases n:F b
   ·exact .inl n
   ·right
    cases h:H b with
    |none=>rfl
    |some u=>rw[p.1 b u n h]at w;cases w
theorem c8.not{F F':Addr->Prop}{H H':Hp}(p:c8 F F' H H'){b:Addr}{u:HO}(n:¬F b)(e:H b=some u):¬F' b:=fun z=>by
 rcases p.2 b z with w|w
 ·exact n w
 ·rw[w]at e;cases e
variable{CY CD aL:Addr}{H H':Hp}{a:YA}{f f':Nat->Addr}{g:Int->Addr}{most day d2:Int}{n:Nat}{pl:Nat->Option Int}{bs:List Bt}{cn:Int}{ob:List (aT×V)}{k:Nat}
theorem u9:(bX f n).length=n:=by unfold bX;rw[ar,iR]
theorem Fi:bX f (n+1)=bX f n++[(.inl ((n:Int)+1),.ref (f n))]:=by unfold bX;rw[ko,cF];rfl
theorem Oe{i:Nat}(h:i<n):(bX f n)[i]?=some (.inl ((i:Int)+1),.ref (f i)):=by unfold bX;rw[aI,uC h];rfl
theorem ua{t:Int}(h:t<1\/(n:Int)<t):b7 (bX f n) (.inl t)=none:=by
 unfold b7 bX
 rw[G7,FX]
 intro x hx
 obtain⟨i,hi,rfl⟩:=Qd.mp hx
 have:=FW.mp hi
 rw[dQ]
 intro z
 injection z with z
 omega
theorem yI{i:Nat}(h:i<n):b7 (bX f n) (.inl ((i:Int)+1))=some (.ref (f i)):=by
 induction n with
 |zero=>omega
 |succ n ih=>
  rw[Fi,sR _ _ _ _ (ua (.inr (by omega)))]
  by_cases e:i=n
  ·subst e;rw[aH rfl]
  ·rw[av (fun z=>by injection z with z;omega)];exact ih (by omega)
theorem Of(h:∀i,i<n->f i=f' i):bX f n=bX f' n:=by
 unfold bX
 refine kj fun i hi=>?_
 rw[h i (FW.mp hi)]
theorem Og(l:Addr):br (bX f n) (.inl ((n:Int)+1)) (.ref l)=bX (fun i=>if i=n then l else f i) (n+1):=by
 rw[qg _ (ua (.inr (by omega))),Fi,Of (f:=fun i=>if i=n then l else f i) (f':=f) (fun i hi=>av (by omega)),aH rfl]
theorem Rd.same{u:HO}{b:Addr}(s:aw H H')(r:Rd H b u):Rd H' b u:=by
 rcases r with r|⟨o,r⟩
 ·exact .inl (s _ _ r)
 ·exact .inr ⟨o,s _ _ r⟩
theorem gN.keep{c:Addr}{ch:List (Int×List Int)}(h:gN H c ch)(l:∀xs,H c=some (.lst xs)->H' c=some (.lst xs))(t:∀b xs,H b=some (.tup xs)->H' b=some (.tup xs)):gN H' c ch:=by
 obtain⟨ts,Bs,h1,h2,h3,h4⟩:=h
 exact⟨ts,Bs,l _ h1,h2,h3,fun i x B r e1 e2 e3=>⟨t _ _ (h4 i x B r e1 e2 e3).1,t _ _ (h4 i x B r e1 e2 e3).2⟩⟩
theorem jq.keep{pp:Addr}{o:Option Int}(h:jq aL H pp o)(t:∀b xs,H b=some (.tup xs)->H' b=some (.tup xs)):jq aL H' pp o:=by
 cases o with
 |none=>exact h
 |some nm=>exact t _ _ h
theorem jr.keep{l:Addr}{o:Option Int}{m:Nat}(h:jr aL H l o m)(k:∀xs,H l=some (.lst xs)->H' l=some (.lst xs))(t:∀b xs,H b=some (.tup xs)->H' b=some (.tup xs)):jr aL H' l o m:=by
 obtain⟨ws,tp,d,pp,h1,h2,h3,h4⟩:=h
 exact⟨ws,tp,d,pp,k _ h1,h2,t _ _ h3,h4.keep t⟩
theorem YardR.same(s:aw H H')(h:YardR CY CD aL H a f g most day n pl bs cn ob k):YardR CY CD aL H' a f g most day n pl bs cn ob k:=
 ⟨s _ _ h.y,Rd.same s h.l,s _ _ h.c,Rd.same s h.e,s _ _ h.b,s _ _ h.nm,s _ _ h.tm,fun i hi=>(h.ln i hi).keep (fun _ z=>s _ _ z) fun _ _ z=>s _ _ z,fun b hb=>⟨(h.ch b hb).1.keep (fun _ z=>s _ _ z) fun _ _ z=>s _ _ z,(h.ch b hb).2⟩,h.n60,h.b8,h.nd⟩
theorem jt.same(s:aw H H')(h:jt CY CD aL H a f g most day n pl bs cn ob k):jt CY CD aL H' a f g most day n pl bs cn ob k:=⟨h.toYardR.same s,s _ _ h.w,s _ _ h.we,h.dd,h.fi,h.gi,h.fg⟩
theorem mP{α:Bt->V}{bs:List Bt}{b:Bt}(nd:(bs.map (·.nm)).Nodup)(hb:b∈bs):b7 (bs.map fun b=>((.inl b.nm:aT),α b)) (.inl b.nm)=some (α b):=by
 induction bs with
 |nil=>cases hb
 |cons x r ih=>
  rw[cG,lO]at nd
  unfold b7
  rw[cG,oH]
  by_cases e:x.nm=b.nm
  ·have ex:x=b:=by
    rcases cE.mp hb with z|z
    ·exact z.symm
    ·exact absurd (e▸Qd.mpr ⟨b,z,rfl⟩) nd.1
   subst ex
   simp
  ·have hb':b∈r:=by
    rcases cE.mp hb with z|z
    ·exact absurd (by rw[z]) e
    ·exact z
   have:=ih nd.2 hb'
   unfold b7 at this
   simp only[mX]at this⊢
   rw[show(decide ((Sum.inl x.nm:aT)=Sum.inl b.nm))=false from cz fun z=>e (by injection z)]
   exact this
theorem yJ{α:Bt->V}{bs:List Bt}{nm:Int}(h:nm∉bs.map (·.nm)):b7 (bs.map fun b=>((.inl b.nm:aT),α b)) (.inl nm)=none:=by
 unfold b7
 rw[G7,FX]
 intro x hx
 obtain⟨b,hb,rfl⟩:=Qd.mp hx
 rw[dQ]
 intro z
 injection z with z
 exact h (Qd.mpr ⟨b,hb,z⟩)
end
structure YP where
 (a:YA) (f:Nat->Addr) (g:Int->Addr) (most day:Int) (n:Nat) (pl:Nat->Option Int) (bs:List Bt) (cn:Int) (ob:List (aT×V)) (k:Nat)
abbrev YR(CY CD aL:Addr)(H:Hp)(S:YP):Prop:=YardR CY CD aL H S.a S.f S.g S.most S.day S.n S.pl S.bs S.cn S.ob S.k
abbrev YT(CY CD aL:Addr)(H:Hp)(S:YP):Prop:=jt CY CD aL H S.a S.f S.g S.most S.day S.n S.pl S.bs S.cn S.ob S.k
abbrev Ft(S:YP):Addr->Prop:=yH S.a S.f S.g S.n S.bs
abbrev YP.nms(S:YP):List Int:=S.bs.map (·.nm)
theorem Oh(t:Int)(n:Nat):(∃i:Nat,i<n/\t=(i:Int)+1)\/(t<1\/(n:Int)<t):=by
 by_cases h:t<1\/(n:Int)<t
 ·exact .inr h
 ·exact .inl ⟨(t - 1).toNat,by omega,by omega⟩
theorem yK{xs:List V}{v:V}(h:xs.getLast?=some v):iF xs (-1)=some v:=by
 have hl:xs≠[]:=fun z=>by rw[z]at h;cases h
 have h1:0<xs.length:=Qy.mpr hl
 unfold iF jN
 rw[av (by decide),aH (by omega)]
 show xs[(-1+(xs.length:Int)).toNat]?=some v
 rw[show(-1+(xs.length:Int)).toNat=xs.length - 1 by omega,<-F_]
 exact h
theorem gN.last{H:Hp}{c:Addr}{ch:List (Int×List Int)}(h:gN H c ch)(ne:ch≠[]):∃(ts:List Addr) (t B:Addr) (r:Int×List Int),H c=some (.lst (ts.map V.ref))/\(ts.map V.ref).getLast?=some (.ref t)/\ch.getLast?=some r/\H t=some (.tup [.int r.1,.ref B])/\H B=some (.tup (r.2.map V.int)):=by
 obtain⟨ts,Bs,h1,h2,h3,h4⟩:=h
 have hl:0<ch.length:=Qy.mpr ne
 have e1:ts[ts.length - 1]?=some (ts[ts.length - 1]'(by omega)):=aN (by omega)
 have e2:Bs[ts.length - 1]?=some (Bs[ts.length - 1]'(by omega)):=aN (by omega)
 have e3:ch[ts.length - 1]?=some (ch[ts.length - 1]'(by omega)):=aN (by omega)
 obtain⟨q1,q2⟩:=h4 _ _ _ _ e1 e2 e3
 refine⟨ts,_,_,_,h1,?_,?_,q1,q2⟩
 ·rw[List.getLast?_map,F_,e1];rfl
 ·rw[F_,show ch.length - 1=ts.length - 1 by omega];exact e3
theorem Fj{b:Bt}{r:Int×List Int}(h:b.ch.getLast?=some r):b.now=r.2:=by unfold Bt.now;rw[h];rfl
theorem jt.frzE{H:Hp}{S:YP}{o:Obj}(h:YT CY CD aL H S):YR CY CD aL (ab H S.a.de (.frz o (.dK (cT S.bs)))) S:=by
 have u:∀b v,b≠S.a.de->H b=some v->ab H S.a.de (.frz o (.dK (cT S.bs))) b=some v:=fun b v n z=>by rw[az n];exact z
 have dd:=h.dd
 simp only[lO,cE,jD,dk,uH]at dd
 obtain⟨⟨_,d1,_⟩,⟨d2,_⟩,⟨d3,d4,_⟩,_⟩:=dd
 have tk:∀b xs,H b=some (.tup xs)->ab H S.a.de (.frz o (.dK (cT S.bs))) b=some (.tup xs):=fun b xs z=>u _ _ (bB z h.we nofun) z
 exact⟨u _ _ (bB h.y h.we nofun) h.y,.inl (u _ _ d1 h.w),u _ _ d2 h.c,.inr ⟨o,aq⟩,u _ _ (bB h.b h.we nofun) h.b,u _ _ (Ne.symm d3) h.nm,u _ _ (Ne.symm d4) h.tm,fun i hi=>(h.ln i hi).keep (fun xs z=>u _ _ (bB z h.we nofun) z) tk,fun b hb=>⟨(h.ch b hb).1.keep (fun xs z=>u _ _ (bB z h.we nofun) z) tk,(h.ch b hb).2⟩,h.n60,h.b8,h.nd⟩
theorem jt.frzL{H:Hp}{S:YP}{o:Obj}(h:YT CY CD aL H S):YR CY CD aL (ab H S.a.dl (.frz o (.dK (bX S.f S.n)))) S:=by
 have u:∀b v,b≠S.a.dl->H b=some v->ab H S.a.dl (.frz o (.dK (bX S.f S.n))) b=some v:=fun b v n z=>by rw[az n];exact z
 have dd:=h.dd
 simp only[lO,cE,jD,dk,uH]at dd
 obtain⟨⟨d0,d1,d2,d3,_⟩,_⟩:=dd
 have tk:∀b xs,H b=some (.tup xs)->ab H S.a.dl (.frz o (.dK (bX S.f S.n))) b=some (.tup xs):=fun b xs z=>u _ _ (bB z h.w nofun) z
 exact⟨u _ _ (bB h.y h.w nofun) h.y,.inr ⟨o,aq⟩,u _ _ (Ne.symm d0) h.c,.inl (u _ _ (Ne.symm d1) h.we),u _ _ (bB h.b h.w nofun) h.b,u _ _ (Ne.symm d2) h.nm,u _ _ (Ne.symm d3) h.tm,fun i hi=>(h.ln i hi).keep (fun xs z=>u _ _ (bB z h.w nofun) z) tk,fun b hb=>⟨(h.ch b hb).1.keep (fun xs z=>u _ _ (bB z h.w nofun) z) tk,(h.ch b hb).2⟩,h.n60,h.b8,h.nd⟩
theorem Fk{H H2:Hp}{d:Addr}{ae:List (aT×V)}{o:Obj}(e:H d=some (.dK ae))(s:aw (ab H d (.frz o (.dK ae))) H2):aw H (ab H2 d (.dK ae)):=fun b u z=>by
 by_cases hb:b=d
 ·subst hb;rw[e]at z;rw[aq];exact z
 ·rw[az hb];exact s _ _ (by rw[az hb];exact z)
noncomputable def yL(CY CD aL:Addr):Sp:=fun vs H Q _=>∃S,vs=[.ref S.a.y]/\YR CY CD aL H S/\Q (.int S.n) H
abbrev yM:Stmt:=fH (bf 81) 10
theorem Oi:a_ ["self"] ["self"] (aC yM):=bc
theorem Oj{f:Addr}{fd:FuncData}(F:aX K "felled" "Yard.felled" yM f fd)(Y:gO K CY)(T:bG mg):aK P w K mg base aV 1 f fd ["self"] (yL CY CD aL):=by
 obtain⟨hc,n1,n2,n3,n4,n5,n6⟩:=Y
 refine F.ok Oi (fun vs H Q E h=>?_) (fun aM A outer s H vs Q E hr h=>?_)
 ·obtain⟨_,rfl,_⟩:=h
  rfl
 ·obtain⟨S,rfl,h,k⟩:=h
  refine⟨_,(aA (aU (bp Lk (by rfl) T.z_len cB (a9 (cC (K:=K) rfl (pv 0)) ag)))),?_⟩
  have hy:=h.y
  have hl:=h.l
  walk_at "r"
  rw[u9]
  exact k
noncomputable def ub(CY CD aL:Addr):Sp:=fun vs H Q _=>∃S t,vs=[.ref S.a.y,.int t]/\YR CY CD aL H S/\(∀i:Nat,i<S.n->t=(i:Int)+1->∀pp,jq aL H pp (S.pl i)->Q (.ref pp) H)/\((t<1\/(S.n:Int)<t)->Q .non H)
abbrev yN:Stmt:=fH (bf 81) 3
theorem Ol:a_ ["self","timber"] ["self","timber"] (aC yN):=bc
theorem Om{f:Addr}{fd:FuncData}(F:aX K "lies" "Yard.lies" yN f fd)(Y:gO K CY):aK P w K mg base aV 1 f fd ["self","timber"] (ub CY CD aL):=by
 obtain⟨hc,n1,n2,n3,n4,n5,n6⟩:=Y
 refine F.ok Ol (fun vs H Q E h=>?_) (fun aM A outer s H vs Q E hr h=>?_)
 ·obtain⟨_,_,rfl,_⟩:=h
  rfl
 ·obtain⟨S,t,rfl,h,k1,k2⟩:=h
  refine⟨_,(aF (bQ (jK (sU (fq hr.units) (pv 1) (cC (K:=K) rfl (pv 0)))) (aA (aU pf)) bU)
   (aA (aU (cp (fk (K:=K) rfl) (cp (fI (K:=K) rfl) (nW (fq hr.units) (cC (K:=K) rfl (pv 0)) (pv 1) (fun _ _=>rfl)) (u_ v7 ay) (fun _ _=>rfl)) ay (fun _ _=>rfl))))),?_⟩
  have hy:=h.y
  walk_at "r"
  refine⟨S.a.dl,_,rfl,gf (k:=.inl t) h.l,?_⟩
  walk_at "r"
  rcases Oh t S.n with⟨i,hi,rfl⟩|ho
  ·rw[yI hi]
   refine bj ?_
   walk_at "r"
   obtain⟨ws,tp,d,pp,h1,h2,h3,h4⟩:=h.ln i hi
   refine⟨S.a.dl,.ref (S.f i),rfl,by rw[<-yI hi];exact gf (k:=.inl ((i:Int)+1)) h.l,?_⟩
   walk_at "r"
   refine nL (ai.of h1) (yK (v:=.ref tp) (by simp)) ?_
   walk_at "r"
   exact k1 i hi rfl pp h4
  ·rw[ua ho]
   refine ba ?_
   walk_at "r"
   exact k2 ho
noncomputable def uc(CY CD aL:Addr):Sp:=fun vs H Q _=>∃S nm,vs=[.ref S.a.y,.int nm]/\YR CY CD aL H S/\nm∈S.nms/\Q (.bl true) H
abbrev yO:Stmt:=fH (bf 81) 5
theorem On:a_ ["self","name"] ["self","name"] (aC yO):=bc
theorem Oo{f:Addr}{fd:FuncData}(F:aX K "is_afloat" "Yard.is_afloat" yO f fd)(Y:gO K CY):aK P w K mg base aV 1 f fd ["self","name"] (uc CY CD aL):=by
 obtain⟨hc,n1,n2,n3,n4,n5,n6⟩:=Y
 refine F.ok On (fun vs H Q E h=>?_) (fun aM A outer s H vs Q E hr h=>?_)
 ·obtain⟨_,_,rfl,_⟩:=h
  rfl
 ·obtain⟨S,nm,rfl,h,hn,k⟩:=h
  refine⟨_,(aA (aU (g_ (AU (KS (fq hr.units) (pv 1) (cC (K:=K) rfl (pv 0)))) (iB (AU (rq (nW (fq hr.units) (cC (K:=K) rfl (pv 0)) (pv 1) (fun _ _=>rfl)))))))),?_⟩
  have hy:=h.y
  obtain⟨b,hb,rfl⟩:=Qd.mp hn
  have hv:b7 (cT S.bs) (.inl b.nm)=some .non:=mP (α:=fun _=>.non) h.nd hb
  walk_at "r"
  refine⟨S.a.de,_,rfl,gf (k:=.inl b.nm) h.e,?_⟩
  rw[hv]
  walk_at "r"
  refine ba ?_
  walk_at "r"
  refine⟨S.a.de,.non,rfl,by rw[<-hv];exact gf (k:=.inl b.nm) h.e,?_⟩
  walk_at "r"
  exact k
noncomputable def kc(CY CD aL:Addr):Sp:=fun vs H Q _=>∃S b,vs=[.ref S.a.y,.int b.nm]/\YR CY CD aL H S/\b∈S.bs/\∀l H',aw H H'->H l=none->H' l=some (.lst (b.now.map V.int))->Q (.ref l) H'
abbrev yP:Stmt:=fH (bf 81) 15
theorem Oq:a_ ["self","name"] ["self","name"] (aC yP):=bc
theorem Os{f:Addr}{fd:FuncData}(F:aX K "boat" "Yard.boat" yP f fd)(Y:gO K CY)(T:bG mg)(oV:cW P w K mg base CY "is_afloat" 1 ["self","name"] (uc CY CD aL)):aK P w K mg base aV 2 f fd ["self","name"] (kc CY CD aL):=by
 obtain⟨hc,n1,n2,n3,n4,n5,n6⟩:=Y
 refine F.ok Oq (fun vs H Q E h=>?_) (fun aM A outer s H vs Q E hr h=>?_)
 ·obtain⟨_,_,rfl,_⟩:=h
  rfl
 ·obtain⟨S,b,rfl,h,hb,k⟩:=h
  refine⟨_,(aF (bQ (eJ (dX (pM oV (pv 0) (a9 (pv 1) ag)))) (aA je) bU)
   (aA (aU (dJ (nM (K:=K) rfl) (by rfl) T.z_list mh (a9 (cp (fk (K:=K) rfl) (cp (fI (K:=K) rfl) (nW (fq hr.units) (cC (K:=K) rfl (pv 0)) (pv 1) (fun _ _=>rfl)) (u_ v7 ay) (fun _ _=>rfl)) ay (fun _ _=>rfl)) ag))))),?_⟩
  have hy:=h.y
  have hv:b7 (dy S.g S.bs) (.inl b.nm)=some (.ref (S.g b.nm)):=mP (α:=fun b=>.ref (S.g b.nm)) h.nd hb
  obtain⟨hch,hne,_⟩:=h.ch b hb
  obtain⟨ts,t,B,r,e1,e2,e3,e4,e5⟩:=hch.last hne
  walk_at "r"
  refine⟨S,b.nm,rfl,h,Qd.mpr ⟨b,hb,rfl⟩,?_⟩
  walk_at "r"
  refine bj ?_
  walk_at "r"
  refine⟨S.a.dc,.ref (S.g b.nm),rfl,by rw[<-hv];exact gf (k:=.inl b.nm) (.of h.c),?_⟩
  walk_at "r"
  refine nL (ai.of e1) (yK e2) ?_
  walk_at "r"
  refine DA (.inr (ax.of e5)) fun l hl=>?_
  refine k l _ (au hl) hl ?_
  rw[aq,Fj e3]
noncomputable def yQ(CY CD aL:Addr):Sp:=fun vs H Q _=>∃S b,vs=[.ref S.a.y,.int b.nm]/\YR CY CD aL H S/\b∈S.bs/\∀l H',aw H H'->H l=none->gN H' l b.ch->Q (.ref l) H'
abbrev yR:Stmt:=fH (bf 81) 20
theorem Ot:a_ ["self","name"] ["self","name"] (aC yR):=bc
theorem Ou{f:Addr}{fd:FuncData}(F:aX K "chain" "Yard.chain" yR f fd)(Y:gO K CY)(T:bG mg):aK P w K mg base aV 1 f fd ["self","name"] (yQ CY CD aL):=by
 obtain⟨hc,n1,n2,n3,n4,n5,n6⟩:=Y
 refine F.ok Ot (fun vs H Q E h=>?_) (fun aM A outer s H vs Q E hr h=>?_)
 ·obtain⟨_,_,rfl,_⟩:=h
  rfl
 ·obtain⟨S,b,rfl,h,hb,k⟩:=h
  refine⟨_,(aF (bQ (jK (sU (fq hr.units) (pv 1) (cC (K:=K) rfl (pv 0)))) (aA je) bU)
   (aA (aU (dJ (nM (K:=K) rfl) (by rfl) T.z_list mh (a9 (nW (fq hr.units) (cC (K:=K) rfl (pv 0)) (pv 1) (fun _ _=>rfl)) ag))))),?_⟩
  have hy:=h.y
  have hv:b7 (dy S.g S.bs) (.inl b.nm)=some (.ref (S.g b.nm)):=mP (α:=fun b=>.ref (S.g b.nm)) h.nd hb
  obtain⟨⟨ts,Bs,e1,e2,e3,e4⟩,hne,_⟩:=h.ch b hb
  walk_at "r"
  refine⟨S.a.dc,_,rfl,gf (k:=.inl b.nm) (.of h.c),?_⟩
  rw[hv]
  walk_at "r"
  refine bj ?_
  walk_at "r"
  refine⟨S.a.dc,.ref (S.g b.nm),rfl,by rw[<-hv];exact gf (k:=.inl b.nm) (.of h.c),?_⟩
  walk_at "r"
  intro l hl
  have s1:=au (o:=.lst (ts.map V.ref)) hl
  exact k l _ s1 hl ⟨ts,Bs,aq,e2,e3,fun i t B r q1 q2 q3=>⟨s1 _ _ (e4 i t B r q1 q2 q3).1,s1 _ _ (e4 i t B r q1 q2 q3).2⟩⟩
noncomputable def yS(CY CD aL:Addr):Sp:=fun vs H Q _=>∃(S:YP) (b:Bt) (x:Nat),vs=[.ref S.a.y,.int b.nm]/\YR CY CD aL H S/\b∈S.bs/\b7 S.ob (.inl b.nm)=some (.int x)/\∀p H',aw H H'->H' p=some (.tup [.int x,.int 1])->Q (.ref p) H'
abbrev yT:Stmt:=fH (bf 81) 22
theorem Ov:a_ ["self","name"] ["self","name"] (aC yT):=bc
theorem Ow{f:Addr}{fd:FuncData}(F:aX K "owed" "Yard.owed" yT f fd)(Y:gO K CY)(Ar:cW P w K mg base CD "owed" 3 ["self","name"] (yA CD)):aK P w K mg base aV 4 f fd ["self","name"] (yS CY CD aL):=by
 obtain⟨hc,n1,n2,n3,n4,n5,n6⟩:=Y
 refine F.ok Ov (fun vs H Q E h=>?_) (fun aM A outer s H vs Q E hr h=>?_)
 ·obtain⟨_,_,_,rfl,_⟩:=h
  rfl
 ·obtain⟨S,b,x,rfl,h,hb,hx,k⟩:=h
  refine⟨_,(aF (bQ (jK (sU (fq hr.units) (pv 1) (cC (K:=K) rfl (pv 0)))) (aA je) bU)
   (aA (aU (pM Ar (cC (K:=K) rfl (pv 0)) (a9 (pv 1) ag))))),?_⟩
  have hy:=h.y
  have hdb:=h.b
  have hv:b7 (dy S.g S.bs) (.inl b.nm)=some (.ref (S.g b.nm)):=mP (α:=fun b=>.ref (S.g b.nm)) h.nd hb
  walk_at "r"
  refine⟨S.a.dc,_,rfl,gf (k:=.inl b.nm) (.of h.c),?_⟩
  rw[hv]
  walk_at "r"
  refine bj ?_
  walk_at "r"
  exact⟨S.a.db,_,_,_,_,_,b.nm,x,rfl,hdb,h.nm,hx,k⟩
noncomputable def ud(CY CD aL:Addr):Sp:=fun vs H Q _=>∃S,vs=[.ref S.a.y]/\YT CY CD aL H S/\∀l H' (rs:List Int),aw H H'->H l=none->H' l=some (.lst (rs.map V.int))->rs.Perm S.nms->rs.Pairwise (· <= ·)->Q (.ref l) H'
abbrev ue:Stmt:=fH (bf 81) 14
theorem Ox:a_ ["self"] ["self"] (aC ue):=bc
theorem Oy:(["name","self"]:List Str).Nodup:=by decide+kernel
theorem Oz:bE ["self"] (aC ue) (cS [("name",kL),("self",kF)]) ["name"] [(0,"self")]:=cg
theorem OA{f:Addr}{fd:FuncData}(F:aX K "boats" "Yard.boats" ue f fd)(Y:gO K CY)(T:bG mg):aK P w K mg base aV 1 f fd ["self"] (ud CY CD aL):=by
 obtain⟨hc,n1,n2,n3,n4,n5,n6⟩:=Y
 refine F.ok Ox (fun vs H Q E h=>?_) (fun aM A outer s H vs Q E hr h=>?_)
 ·obtain⟨_,rfl,_⟩:=h
  rfl
 ·obtain⟨S,rfl,h,k⟩:=h
  refine⟨_,(aA (aU (bp (Kp (K:=K) rfl) (by rfl) T.z_sorted pT (a9 (Ec (eL rfl Oz (Ee (K:=K) rfl (cC (K:=K) rfl (pv 0))) (by intro _ _ _ _ _;exact(aR (i:=0) Oy rfl (Or.inl rfl))) (by intro _ _ _ _ _;exact(iH (jK (rq (nW (fq hr.units) (cC (K:=K) rfl (pv 1)) (pv 0) (fun _ _=>rfl)))))) (by intro _ _ _ _ _;exact(pv 0)))) ag)))),?_⟩
  walk_at "r"
  refine Ef h.we fun o=>?_
  have h1:=h.frzE (o:=o)
  have eo:ab H S.a.de (.frz o (.dK (cT S.bs))) S.a.de=some (.frz o (.dK (cT S.bs))):=aq
  have ts:∀H2,aw (ab H S.a.de (.frz o (.dK (cT S.bs)))) H2->aw H (ab H2 S.a.de (.dK (cT S.bs))):=fun H2 s2=>Fk h.we s2
  generalize ab H S.a.de (.frz o (.dK (cT S.bs)))=H1 at h1 eo ts⊢
  have hy:=h1.y
  have b8:=h.b8
  have le:(cT S.bs).length=S.bs.length:=ar _
  walk_at "r"
  refine⟨S.a.de,o,_,rfl,eo,?_⟩
  refine ji (fun i ys σ' H'=>H'=H1/\ys=((S.nms.take i).map V.int)/\∃v,σ'=[v,some (.ref S.a.y)]) S.bs.length ⟨rfl,rfl,⟨_,rfl⟩⟩ ?_ ?_
  ·rintro ys σ' H2 ⟨rfl,rfl,_⟩
   rw[gn (by rw[ar];exact aG _)]
   refine⟨⟨eo,by rw[le];exact aG _⟩,fun D hD=>?_⟩
   have s3:=au (o:=.lst (S.nms.map V.int)) hD
   refine⟨s3 _ _ eo,?_⟩
   walk_at "r"
   have nd:D≠S.a.de:=(bh eo hD).symm
   refine Kq (ns:=S.nms) (ai.of (by rw[az nd];exact aq)) (by rw[ar];omega) fun l rs hl pm so=>?_
   have s4:=ts _ s3
   exact k l _ rs (s4.trans (au hl)) (s4.free hl) aq pm so
  ·rintro i ys σ' H2 hi ⟨rfl,rfl,v,rfl⟩
   refine⟨⟨eo,by rw[le];exact hi⟩,C1 (by rw[ar,e9];omega),?_⟩
   rintro x H3 ⟨rfl,k',v',e',rfl⟩
   have eb:S.bs[i]?=some S.bs[i]:=aN hi
   have e'':(cT S.bs)[i]?=some (.inl S.bs[i].nm,.non):=by unfold cT;rw[aI,eb];rfl
   rw[e'']at e'
   cases e'
   have hv:b7 (cT S.bs) (.inl S.bs[i].nm)=some .non:=mP (α:=fun _=>.non) h.nd (gT hi)
   walk_at "r"
   refine⟨S.a.de,.non,rfl,by rw[<-hv];exact gf (k:=.inl S.bs[i].nm) h1.e,?_⟩
   walk_at "r"
   refine ba ?_
   walk_at "r"
   refine cY hi ⟨rfl,?_,⟨_,rfl⟩⟩
   rw[gu,aI,eb,cF]
   rfl
noncomputable def ju(pl:Nat->Option Int)(n:Nat):List Int:=((List.range n).filter fun i=>decide (pl i=none)).map fun i:Nat=>(i:Int)+1
theorem Fl(pl:Nat->Option Int)(n:Nat):ju pl (n+1)=ju pl n++(if pl n=none then[(n:Int)+1]else[]):=by
 unfold ju
 rw[ko,gS,cF,gr]
 by_cases h:pl n=none
 ·rw[aH (bZ h),aH h];rfl
 ·rw[av (by rw[dQ];exact h),av h];rfl
theorem Fm(pl:Nat->Option Int)(n:Nat):(ju pl n).length<=n:=by
 unfold ju
 rw[ar]
 exact cN (j6 _ _) (by rw[iR];exact aG _)
theorem OB{pl:Nat->Option Int}{n:Nat}{x:Int}:x∈ju pl n↔∃i:Nat,i<n/\x=(i:Int)+1/\pl i=none:=by
 unfold ju
 rw[Qd]
 constructor
 ·rintro⟨i,hi,rfl⟩
  obtain⟨h1,h2⟩:=gk.mp hi
  exact⟨i,FW.mp h1,rfl,fN h2⟩
 ·rintro⟨i,h1,rfl,h2⟩
  exact⟨i,gk.mpr ⟨FW.mpr h1,bZ h2⟩,rfl⟩
noncomputable def yU:Option Int->mF
 |none=>.w true
 |some nm=>.boat nm
theorem jq.at{H:Hp}{pp:Addr}{o:Option Int}(wL:∀H,ax K H aL [.str (kZ true)])(h:jq aL H pp o):mG K H (.ref pp) (yU o):=by
 cases o with
 |none=>cases(show pp=aL from h);exact wL _
 |some nm=>exact ax.of h
noncomputable def j3(S:YP)(x:Int):Prop:=∃i:Nat,i<S.n/\x=(i:Int)+1/\S.pl i=none
noncomputable def yV(CY CD aL:Addr):Sp:=fun vs H Q _=>∃S,vs=[.ref S.a.y,.ref aL]/\YT CY CD aL H S/\∀l H' (rs:List Int),aw H H'->H l=none->H' l=some (.lst (rs.map V.int))->bH rs (j3 S)->Q (.ref l) H'
abbrev uf:Stmt:=fH (bf 81) 11
theorem OC:a_ ["self","place"] ["self","place"] (aC uf):=bc
theorem OD:(["timber","self","place"]:List Str).Nodup:=by decide+kernel
theorem OE:bE ["self","place"] (aC uf) (cS [("timber",kL),("place",kF),("self",kF)]) ["timber"] [(0,"self"),(1,"place")]:=cg
theorem OF{f:Addr}{fd:FuncData}(F:aX K "lying" "Yard.lying" uf f fd)(Y:gO K CY)(wL:∀H,ax K H aL [.str (kZ true)])(dU:aY P w K mg base "rising" 1 ["timbers"] (iL K))(oW:cW P w K mg base CY "lies" 1 ["self","timber"] (ub CY CD aL)):aK P w K mg base aV 2 f fd ["self","place"] (yV CY CD aL):=by
 obtain⟨hc,n1,n2,n3,n4,n5,n6⟩:=Y
 refine F.ok OC (fun vs H Q E h=>?_) (fun aM A outer s H vs Q E hr h=>?_)
 ·obtain⟨_,rfl,_⟩:=h
  rfl
 ·obtain⟨S,rfl,h,k⟩:=h
  refine⟨_,(aA (aU (pC dU (a9 (Ec (eL rfl OE (Ee (K:=K) rfl (cC (K:=K) rfl (pv 0))) (by intro _ _ _ _ _;exact(aR (i:=0) OD rfl (Or.inl rfl))) (by intro _ _ _ _ _;exact(iH (c7 (Lw (K:=K) rfl hr.units) (pM oW (pv 1) (a9 (pv 0) ag)) (pv 2) (bO _)))) (by intro _ _ _ _ _;exact(pv 0)))) ag)))),?_⟩
  walk_at "r"
  refine Ef h.w fun o=>?_
  have h1:=h.frzL (o:=o)
  have eo:ab H S.a.dl (.frz o (.dK (bX S.f S.n))) S.a.dl=some (.frz o (.dK (bX S.f S.n))):=aq
  have ts:∀H2,aw (ab H S.a.dl (.frz o (.dK (bX S.f S.n)))) H2->aw H (ab H2 S.a.dl (.dK (bX S.f S.n))):=fun H2 s2=>Fk h.w s2
  generalize ab H S.a.dl (.frz o (.dK (bX S.f S.n)))=H1 at h1 eo ts⊢
  have hy:=h1.y
  have n60:=h.n60
  walk_at "r"
  refine⟨S.a.dl,o,_,rfl,eo,?_⟩
  refine ji (fun i ys σ' H'=>H'=H1/\ys=((ju S.pl i).map V.int)/\∃v,σ'=[v,some (.ref S.a.y),some (.ref aL)]) S.n ⟨rfl,rfl,⟨_,rfl⟩⟩ ?_ ?_
  ·rintro ys σ' H2 ⟨rfl,rfl,_⟩
   refine⟨⟨eo,by rw[u9];exact aG _⟩,fun D hD=>?_⟩
   have s3:=au (o:=.lst ((ju S.pl S.n).map V.int)) hD
   refine⟨s3 _ _ eo,?_⟩
   walk_at "r"
   have nd:D≠S.a.dl:=(bh eo hD).symm
   have ll:=Fm S.pl S.n
   refine⟨D,ju S.pl S.n,rfl,.inl (ai.of (by rw[az nd];exact aq)),by omega,fun l H4 rs s4 fl e4 r4=>?_⟩
   have s5:=ts _ s3
   exact k l _ rs (s5.trans s4) (s5.free fl) e4 ⟨r4.1,fun x=>(r4.2 x).trans OB⟩
  ·rintro i ys σ' H2 hi ⟨rfl,rfl,v,rfl⟩
   have ll:=Fm S.pl i
   refine⟨⟨eo,by rw[u9];exact hi⟩,C1 (by rw[ar];omega),?_⟩
   rintro x H3 ⟨rfl,k',v',e',rfl⟩
   rw[Oe hi]at e'
   cases e'
   walk_at "r"
   refine⟨S,_,rfl,h1,fun j hj e pp hp=>?_,fun z=>absurd z (by omega)⟩
   obtain rfl:j=i:=by omega
   walk_at "r"
   have z1:=hp.at wL
   have z2:mG K H3 (.ref aL) (.w true):=wL _
   refine wX z1 z2 ?_
   walk_at "r"
   cases hpl:S.pl j with
   |none=>
    refine ba ?_
    walk_at "r"
    refine cY hi ⟨rfl,?_,⟨_,rfl⟩⟩
    rw[Fl,aH hpl,cF]
    rfl
   |some nm=>
    refine bj ?_
    refine cY hi ⟨rfl,?_,⟨_,rfl⟩⟩
    rw[Fl,av (by rw[hpl];exact fun z=>by cases z),gW]
noncomputable def ug(CY CD aL:Addr):Sp:=fun vs H Q _=>∃S,vs=[.ref S.a.y]/\YT CY CD aL H S/\∀l H' (rs:List Int),aw H H'->H l=none->H' l=some (.lst (rs.map V.int))->bH rs (j3 S)->Q (.ref l) H'
abbrev yW:Stmt:=fH (bf 81) 12
theorem OG:a_ ["self"] ["self"] (aC yW):=bc
theorem OH{f:Addr}{fd:FuncData}(F:aX K "loose" "Yard.loose" yW f fd)(hL:mg "LOOSE"=some (.ref aL))(As:cW P w K mg base CY "lying" 2 ["self","place"] (yV CY CD aL)):aK P w K mg base aV 3 f fd ["self"] (ug CY CD aL):=by
 refine F.ok OG (fun vs H Q E h=>?_) (fun aM A outer s H vs Q E hr h=>?_)
 ·obtain⟨_,rfl,_⟩:=h
  rfl
 ·obtain⟨S,rfl,h,k⟩:=h
  refine⟨_,(aA (aU (pM As (pv 0) (a9 (fG (v:=.ref aL) (by rfl) hL rfl) ag)))),?_⟩
  have hy:=h.y
  walk_at "r"
  exact⟨S,rfl,h,k⟩
noncomputable def jw(S:YP)(i:Nat)(o:Option Int)(f':Nat->Addr):YP:={S with f:=f',n:=max S.n (i+1),pl:=fun j=>if j=i then o else S.pl j,k:=S.k+1}
theorem jr.mono{H:Hp}{l:Addr}{o:Option Int}{k m:Nat}(h:jr aL H l o k)(le:k<=m):jr aL H l o m:=by
 obtain⟨ws,tp,d,pp,h1,h2,h3⟩:=h
 exact⟨ws,tp,d,pp,h1,cN h2 le,h3⟩
theorem OI{H:Hp}{S:YP}{i:Nat}{o:Option Int}(h:YT CY CD aL H S)(hi:i<S.n)(e:S.pl i=o):YT CY CD aL H (jw S i o S.f):=by
 have en:max S.n (i+1)=S.n:=by omega
 refine⟨⟨h.y,?_,h.c,h.e,h.b,h.nm,h.tm,fun j hj=>?_,h.ch,?_,h.b8,h.nd⟩,?_,h.we,h.dd,?_,h.gi,?_⟩
 ·show Rd H S.a.dl (.dK (bX S.f (max S.n (i+1))));rw[en];exact h.l
 ·have hj':j<S.n:=by have:j<max S.n (i+1):=hj;omega
  show jr aL H (S.f j) (if j=i then o else S.pl j) (S.k+1)
  split
  ·rename_i z;subst z;rw[<-e];exact(h.ln j hj').mono (by omega)
  ·exact(h.ln j hj').mono (by omega)
 ·show max S.n (i+1)<=60;rw[en];exact h.n60
 ·show H S.a.dl=some (.dK (bX S.f (max S.n (i+1))));rw[en];exact h.w
 ·show ∀a b,a<max S.n (i+1)->b<max S.n (i+1)->_;rw[en];exact h.fi
 ·show ∀a,a<max S.n (i+1)->_;rw[en];exact h.fg
theorem uh{S:YP}{i:Nat}{o:Option Int}(hi:i<S.n):Ft (jw S i o S.f)=Ft S:=by
 have en:max S.n (i+1)=S.n:=by omega
 show yH S.a S.f S.g (max S.n (i+1)) S.bs=_
 rw[en]
theorem OJ{H:Hp}{S:YP}{i:Nat}{o:Option Int}{t pp:Addr}{d:Int}{xs:List V}(h:YT CY CD aL H S)(hi:i<S.n)(hx:H (S.f i)=some (.lst xs))(lx:xs.length<=S.k+1)(ht:H t=some (.tup [.int d,.ref pp]))(hp:jq aL H pp o):YT CY CD aL (ab H (S.f i) (.lst (xs++[.ref t]))) (jw S i o S.f):=by
 have en:max S.n (i+1)=S.n:=by omega
 have u:∀b v,b≠S.f i->H b=some v->ab H (S.f i) (.lst (xs++[.ref t])) b=some v:=fun b v n z=>by rw[az n];exact z
 have tk:∀b ys,H b=some (.tup ys)->ab H (S.f i) (.lst (xs++[.ref t])) b=some (.tup ys):=fun b ys z=>u _ _ (bB z hx nofun) z
 have q:∀{b:Addr} {v:HO},H b=some v->v≠ .lst xs->ab H (S.f i) (.lst (xs++[.ref t])) b=some v:=fun z n=>u _ _ (fun y=>by rw[y,hx]at z;exact n (cm z).symm) z
 have w1:=q h.w nofun
 have w2:=q h.we nofun
 refine⟨⟨q h.y nofun,.inl ?_,q h.c nofun,.inl w2,q h.b nofun,q h.nm nofun,q h.tm nofun,fun j hj=>?_,fun b hb=>⟨(h.ch b hb).1.keep (fun ys z=>u _ _ (Ne.symm (h.fg i hi b hb)) z) tk,(h.ch b hb).2⟩,?_,h.b8,h.nd⟩,?_,w2,h.dd,?_,h.gi,?_⟩
 ·show _=some (HO.dK (bX S.f (max S.n (i+1))));rw[en];exact w1
 ·have hj':j<S.n:=by have:j<max S.n (i+1):=hj;omega
  show jr aL _ (S.f j) (if j=i then o else S.pl j) (S.k+1)
  split
  ·rename_i z;subst z
   exact⟨xs,t,d,pp,aq,lx,tk _ _ ht,hp.keep tk⟩
  ·rename_i z
   exact((h.ln j hj').mono (by omega)).keep (fun ys y=>u _ _ (fun c=>z (h.fi j i hj' hi c)) y) tk
 ·show max S.n (i+1)<=60;rw[en];exact h.n60
 ·show _=some (HO.dK (bX S.f (max S.n (i+1))));rw[en];exact w1
 ·show ∀a b,a<max S.n (i+1)->b<max S.n (i+1)->_;rw[en];exact h.fi
 ·show ∀a,a<max S.n (i+1)->_;rw[en];exact h.fg
theorem OK{H:Hp}{S:YP}{t pp l:Addr}{d:Int}(h:YT CY CD aL H S)(n60:S.n<60)(hl:H l=some (.lst []))(fl:¬Ft S l)(ht:H t=some (.tup [.int d,.ref pp]))(hp:jq aL H pp none):
  YT CY CD aL (ab (ab H S.a.dl (.dK (bX (fun i=>if i=S.n then l else S.f i) (S.n+1)))) l (.lst [.ref t])) (jw S S.n none (fun i=>if i=S.n then l else S.f i)):=by
 have en:max S.n (S.n+1)=S.n+1:=by omega
 have nl:l≠S.a.dl:=bB hl h.w nofun
 have dd:=h.dd
 simp only[lO,cE,jD,dk,uH]at dd
 obtain⟨⟨d0,d1,d2,d3,_⟩,_⟩:=dd
 have u:∀b v,b≠l->b≠S.a.dl->H b=some v->ab (ab H S.a.dl (.dK (bX (fun i=>if i=S.n then l else S.f i) (S.n+1)))) l (.lst [.ref t]) b=some v:=fun b v n1 n2 z=>by rw[az n1,az n2];exact z
 have q:∀{b:Addr} {v:HO},H b=some v->v≠ .lst []->b≠S.a.dl->ab (ab H S.a.dl (.dK (bX (fun i=>if i=S.n then l else S.f i) (S.n+1)))) l (.lst [.ref t]) b=some v:=fun z n n2=>u _ _ (fun y=>by rw[y,hl]at z;exact n (cm z).symm) n2 z
 have tk:∀b ys,H b=some (.tup ys)->ab (ab H S.a.dl (.dK (bX (fun i=>if i=S.n then l else S.f i) (S.n+1)))) l (.lst [.ref t]) b=some (.tup ys):=fun b ys z=>q z nofun (bB z h.w nofun)
 have w1:ab (ab H S.a.dl (.dK (bX (fun i=>if i=S.n then l else S.f i) (S.n+1)))) l (.lst [.ref t]) S.a.dl=some (.dK (bX (fun i=>if i=S.n then l else S.f i) (max S.n (S.n+1)))):=by rw[az (Ne.symm nl),aq,en]
 have w2:=q h.we nofun (Ne.symm d1)
 have fl1:∀i,i<S.n->S.f i≠l:=fun i hi z=>fl (.inr (.inr (.inr (.inr (.inr (.inr (.inl ⟨i,hi,z.symm⟩)))))))
 have fl2:∀b∈S.bs,S.g b.nm≠l:=fun b hb z=>fl (.inr (.inr (.inr (.inr (.inr (.inr (.inr ⟨b,hb,z.symm⟩)))))))
 have lk:∀{b:Addr} {ys:List V},b≠l->H b=some (.lst ys)->ab (ab H S.a.dl (.dK (bX (fun i=>if i=S.n then l else S.f i) (S.n+1)))) l (.lst [.ref t]) b=some (.lst ys):=fun n z=>u _ _ n (bB z h.w nofun) z
 refine⟨⟨q h.y nofun (bB h.y h.w nofun),.inl w1,q h.c nofun (Ne.symm d0),.inl w2,q h.b nofun (bB h.b h.w nofun),q h.nm nofun (Ne.symm d2),q h.tm nofun (Ne.symm d3),fun j hj=>?_,fun b hb=>⟨(h.ch b hb).1.keep (fun ys z=>lk (fl2 b hb) z) tk,(h.ch b hb).2⟩,?_,h.b8,h.nd⟩,w1,w2,h.dd,?_,h.gi,?_⟩
 ·have hj':j<S.n+1:=by have:j<max S.n (S.n+1):=hj;omega
  show jr aL _ (if j=S.n then l else S.f j) (if j=S.n then none else S.pl j) (S.k+1)
  by_cases z:j=S.n
  ·rw[aH z,aH z]
   exact⟨[],t,d,pp,aq,b_ _,tk _ _ ht,hp.keep tk⟩
  ·rw[av z,av z]
   exact((h.ln j (by omega)).mono (by omega)).keep (fun ys y=>lk (fl1 j (by omega)) y) tk
 ·show max S.n (S.n+1)<=60;omega
 ·intro i j hi hj e
  have hi':i<S.n+1:=by have:i<max S.n (S.n+1):=hi;omega
  have hj':j<S.n+1:=by have:j<max S.n (S.n+1):=hj;omega
  have e':(if i=S.n then l else S.f i)=(if j=S.n then l else S.f j):=e
  by_cases zi:i=S.n<;>by_cases zj:j=S.n
  ·omega
  ·rw[aH zi,av zj]at e';exact absurd e'.symm (fl1 j (by omega))
  ·rw[av zi,aH zj]at e';exact absurd e' (fl1 i (by omega))
  ·rw[av zi,av zj]at e';exact h.fi i j (by omega) (by omega) e'
 ·intro i hi b hb
  have hi':i<S.n+1:=by have:i<max S.n (S.n+1):=hi;omega
  show(if i=S.n then l else S.f i)≠S.g b.nm
  by_cases zi:i=S.n
  ·rw[aH zi];exact Ne.symm (fl2 b hb)
  ·rw[av zi];exact h.fg i (by omega) b hb
theorem OL{a b:Option Int}(h:yU a=yU b):a=b:=by
 cases a<;>cases b<;>first|rfl|(cases h;rfl)|cases h
theorem yX{S:YP}{i:Nat}(hi:i<S.n):Ft S (S.f i):=.inr (.inr (.inr (.inr (.inr (.inr (.inl ⟨i,hi,rfl⟩))))))
theorem yY{S:YP}{b:Bt}(hb:b∈S.bs):Ft S (S.g b.nm):=.inr (.inr (.inr (.inr (.inr (.inr (.inr ⟨b,hb,rfl⟩))))))
theorem OM{H:Hp}{a b:Addr}{o u:HO}(n:a≠b):ab (ab H a o) b u=ab (ab H b u) a o:=by
 funext c
 by_cases h1:c=b
 ·subst h1;rw[aq,az (Ne.symm n),aq]
 ·rw[az h1]
  by_cases h2:c=a
  ·subst h2;rw[aq,aq]
  ·rw[az h2,az h2,az h1]
theorem ui{H:Hp}{S:YP}{b:Addr}(h:YT CY CD aL H S)(z:Ft S b):∃o,H b=some o:=by
 rcases z with rfl|rfl|rfl|rfl|rfl|rfl|⟨i,hi,rfl⟩|⟨x,hx,rfl⟩
 ·exact⟨_,h.y⟩
 ·exact⟨_,h.w⟩
 ·exact⟨_,h.c⟩
 ·exact⟨_,h.we⟩
 ·exact⟨_,h.b⟩
 ·exact⟨_,h.nm⟩
 ·obtain⟨_,_,_,_,e,_⟩:=h.ln i hi;exact⟨_,e⟩
 ·obtain⟨_,_,e,_⟩:=(h.ch x hx).1;exact⟨_,e⟩
noncomputable def qH(CY CD aL:Addr):Sp:=fun vs H Q _=>∃(S:YP) (i:Nat) (pp:Addr) (o:Option Int),vs=[.ref S.a.y,.int ((i:Int)+1),.ref pp]/\YT CY CD aL H S/\jq aL H pp o/\(i<S.n\/(i=S.n/\o=none/\S.n<60))/\S.k<9000/\
 ∀f' H',YT CY CD aL H' (jw S i o f')->c8 (Ft S) (Ft (jw S i o f')) H H'->(i<S.n->f'=S.f)->Q .non H'
abbrev yZ:Stmt:=fH (bf 81) 4
theorem ON:a_ ["self","timber","place"] ["self","timber","place"] (aC yZ):=bc
theorem OO{f:Addr}{fd:FuncData}(F:aX K "move" "Yard.move" yZ f fd)(Y:gO K CY)(wL:∀H,ax K H aL [.str (kZ true)])(oW:cW P w K mg base CY "lies" 1 ["self","timber"] (ub CY CD aL)):aK P w K mg base aV 2 f fd ["self","timber","place"] (qH CY CD aL):=by
 obtain⟨hc,n1,n2,n3,n4,n5,n6⟩:=Y
 refine F.ok ON (fun vs H Q E h=>?_) (fun aM A outer s H vs Q E hr h=>?_)
 ·obtain⟨_,_,_,_,rfl,_⟩:=h
  rfl
 ·obtain⟨S,i,pp,o,rfl,h,hp,hi,hk,k⟩:=h
  refine⟨_,(aA (bQ (c7 (Lx (K:=K) rfl hr.units) (pM oW (pv 0) (a9 (pv 1) ag)) (pv 2) (bO _)) (aA (dG (nS (K:=K) rfl (Lz (cC (K:=K) rfl (pv 0)) (pv 1) (fR ag) ⟨rfl,rfl,rfl,rfl⟩) (a9 (e_ (a9 (cC (K:=K) rfl (pv 0)) (a9 (pv 2) ag))) ag)))) bU)),?_⟩
  have hy:=h.y
  have hdl:=h.w
  walk_at "r"
  refine⟨S,_,rfl,h.toYardR,fun j hj e p0 hp0=>?_,fun hout=>?_⟩
  ·obtain rfl:i=j:=by omega
   walk_at "r"
   refine wX (hp0.at wL) (hp.at wL) ?_
   walk_at "r"
   by_cases z:S.pl i=o
   ·rw[z,bZ rfl]
    refine bj ?_
    walk_at "r"
    exact k S.f _ (OI h hj z) (by rw[uh hj];exact c8.refl) fun _=>rfl
   ·rw[cz (fun y=>z (OL y))]
    refine ba ?_
    obtain⟨ws,tp,d,p1,e1,e2,e3,e4⟩:=h.ln i hj
    walk_at "r"
    refine Ek ?_
    walk_at "r"
    refine⟨S.a.dl,rfl,mE (.of hdl),?_⟩
    walk_at "r"
    refine⟨b_ _,fun D hD=>?_⟩
    have s1:=au (o:=.lst []) hD
    have h1:=h.same s1
    have e1':=s1 _ _ e1
    have hp1:=hp.keep fun b xs y=>s1 b _ y
    generalize ab H D (.lst [])=H1 at s1 h1 e1' hp1⊢
    have hy1:=h1.y
    refine⟨_,.inl ((i:Int)+1),h1.w,rfl,.inr ⟨_,yI hj,?_⟩⟩
    refine⟨.inl ⟨rfl,_,ai.of e1'⟩,?_⟩
    walk_at "r"
    refine⟨by show 2<=sizeLine;decide,fun t ht=>?_⟩
    have s2:=au (o:=.tup [.int S.day,.ref pp]) ht
    have h2:=h1.same s2
    walk_at "r"
    refine kW (s2 _ _ e1') (cL (show _<10000 by rw[bF,oz];omega) (by decide)) ?_
    walk_at "r"
    refine k S.f _ (OJ h2 hj (s2 _ _ e1') (by rw[bF,oz];omega) aq (hp1.keep fun b xs y=>s2 b _ y)) ?_ fun _=>rfl
    rw[uh hj]
    exact(c8.same (s1.trans s2)).trans ⟨fun b u n y=>by rw[az (show b≠S.f i from fun c=>n (by rw[c];exact yX hj))];exact y,fun b y=>.inl y⟩
  ·obtain⟨rfl,rfl,n60⟩:i=S.n/\o=none/\S.n<60:=by
    rcases hi with z|z
    ·omega
    ·exact z
   walk_at "r"
   refine wX (a:=.non) trivial (hp.at wL) ?_
   walk_at "r"
   refine ba ?_
   walk_at "r"
   refine Ek ?_
   walk_at "r"
   refine⟨S.a.dl,rfl,mE (.of hdl),?_⟩
   walk_at "r"
   refine⟨b_ _,fun l hl=>?_⟩
   have s1:=au (o:=.lst []) hl
   have h1:=h.same s1
   have el:ab H l (.lst []) l=some (.lst []):=aq
   generalize ab H l (.lst [])=H1 at s1 h1 el⊢
   have fl:¬Ft S l:=fun z=>by
    obtain⟨o',e'⟩:=ui h z
    rw[hl]at e';cases e'
   have nl:l≠S.a.dl:=bB el h1.w nofun
   refine⟨_,.inl ((S.n:Int)+1),h1.w,rfl,.inl ⟨ua (.inr (by omega)),eN (show _<=60 by rw[u9];omega) (by decide),?_⟩⟩
   rw[Og]
   have hy2:ab H1 S.a.dl (.dK (bX (fun i=>if i=S.n then l else S.f i) (S.n+1))) S.a.y=_:=(az (bB h1.y h1.w nofun)).trans h1.y
   have el2:ab H1 S.a.dl (.dK (bX (fun i=>if i=S.n then l else S.f i) (S.n+1))) l=some (.lst []):=by rw[az nl];exact el
   refine⟨.inl ⟨rfl,_,ai.of el2⟩,?_⟩
   walk_at "r"
   refine⟨by show 2<=sizeLine;decide,fun t ht=>?_⟩
   have ntl:t≠l:=(bh el2 ht).symm
   have ntd:t≠S.a.dl:=(bh aq ht).symm
   have ht1:H1 t=none:=by rw[az ntd]at ht;exact ht
   have s2:=au (o:=.tup [.int S.day,.ref pp]) ht1
   walk_at "r"
   refine kW (by rw[az (Ne.symm ntl)];exact el2) (gI (by decide)) ?_
   walk_at "r"
   have e3:ab (ab (ab H1 S.a.dl (.dK (bX (fun i=>if i=S.n then l else S.f i) (S.n+1)))) t (.tup [.int S.day,.ref pp])) l (.lst ([]++[.ref t]))=ab (ab (ab H1 t (.tup [.int S.day,.ref pp])) S.a.dl (.dK (bX (fun i=>if i=S.n then l else S.f i) (S.n+1)))) l (.lst [.ref t]):=by
    rw[OM (Ne.symm ntd)];rfl
   rw[e3]
   refine k _ _ (OK (h1.same s2) n60 (s2 _ _ el) fl aq ((hp.keep fun b xs y=>s1 b _ y).keep fun b xs y=>s2 b _ y)) ?_ fun z=>absurd z (jA _)
   refine⟨fun b u n y=>?_,fun b y=>?_⟩
   ·rw[az (bh y hl),az (fun c=>n (.inr (.inl c)))]
    exact s2 _ _ (s1 _ _ y)
   ·rcases y with y|y|y|y|y|y|⟨i,hi,y⟩|y
    ·exact .inl (.inl y)
    ·exact .inl (.inr (.inl y))
    ·exact .inl (.inr (.inr (.inl y)))
    ·exact .inl (.inr (.inr (.inr (.inl y))))
    ·exact .inl (.inr (.inr (.inr (.inr (.inl y)))))
    ·exact .inl (.inr (.inr (.inr (.inr (.inr (.inl y))))))
    ·have y':b=if i=S.n then l else S.f i:=y
     by_cases z:i=S.n
     ·rw[aH z]at y';right;rw[y'];exact hl
     ·rw[av z]at y'
      have hi':i<max S.n (S.n+1):=hi
      left;rw[y'];exact yX (by omega)
    ·exact .inl (.inr (.inr (.inr (.inr (.inr (.inr (.inr y)))))))
theorem qI{a:YA}(h:[a.dl,a.dc,a.de,a.dn,a.dt].Nodup):a.dl≠a.dc/\a.dl≠a.de/\a.dl≠a.dn/\a.dl≠a.dt/\a.dc≠a.de/\a.dc≠a.dn/\a.dc≠a.dt/\a.de≠a.dn/\a.de≠a.dt/\a.dn≠a.dt:=by
 simp only[lO,cE,jD,dk,uH]at h
 obtain⟨⟨d0,d1,d2,d3,_⟩,⟨e0,e1,e2,_⟩,⟨f0,f1,_⟩,⟨g0,_⟩,_⟩:=h
 exact⟨d0,d1,d2,d3,e0,e1,e2,f0,f1,g0⟩
theorem jt.owe{H H':Hp}{S:YP}{ob:List (aT×V)}(h:YT CY CD aL H S)(e:H' S.a.dn=some (.dK ob))(u:cI S.a.dn H H'):YT CY CD aL H' {S with ob:=ob}:=by
 obtain⟨_,_,d2,_,_,d5,_,d7,_,d9⟩:=qI h.dd
 have tk:∀b ys,H b=some (.tup ys)->H' b=some (.tup ys):=fun b ys z=>u _ _ (bB z h.nm nofun) z
 exact⟨⟨u _ _ (bB h.y h.nm nofun) h.y,.inl (u _ _ d2 h.w),u _ _ d5 h.c,.inl (u _ _ d7 h.we),u _ _ (bB h.b h.nm nofun) h.b,e,u _ _ (Ne.symm d9) h.tm,fun j hj=>(h.ln j hj).keep (fun ys z=>u _ _ (bB z h.nm nofun) z) tk,fun b hb=>⟨(h.ch b hb).1.keep (fun ys z=>u _ _ (bB z h.nm nofun) z) tk,(h.ch b hb).2⟩,h.n60,h.b8,h.nd⟩,u _ _ d2 h.w,u _ _ d7 h.we,h.dd,h.fi,h.gi,h.fg⟩
noncomputable def dD(nm:Int)(e:Int×List Int)(c:Bt):Bt:=if c.nm=nm then⟨c.nm,c.ch++[e]⟩else c
theorem gg(nm:Int)(e:Int×List Int)(c:Bt):(dD nm e c).nm=c.nm:=by unfold dD;split<;>rfl
theorem gN.snoc{H:Hp}{c t B:Addr}{ch:List (Int×List Int)}{d:Int}{rs:List Int}{ts:List Addr}(h:gN H c ch)(e:H c=some (.lst (ts.map V.ref)))(ht:H t=some (.tup [.int d,.ref B]))(hB:H B=some (.tup (rs.map V.int))):gN (ab H c (.lst (ts.map V.ref++[.ref t]))) c (ch++[(d,rs)]):=by
 obtain⟨ts',Bs,h1,h2,h3,h4⟩:=h
 have et:ts'.map V.ref=ts.map V.ref:=by rw[h1]at e;injection cm e
 have tk:∀{b:Addr} {xs:List V},H b=some (.tup xs)->ab H c (.lst (ts.map V.ref++[.ref t])) b=some (.tup xs):=fun z=>by rw[az (bB z e nofun)];exact z
 refine⟨ts'++[t],Bs++[B],by rw[aq,cF,et];rfl,by rw[bF,bF,h2];rfl,by rw[bF,bF,h3];rfl,fun i x y r e1 e2 e3=>?_⟩
 rcases dh i ts'.length with q|q
 ·rw[eZ q]at e1
  rw[eZ (by omega)]at e2
  rw[eZ (by omega)]at e3
  exact⟨tk (h4 i x y r e1 e2 e3).1,tk (h4 i x y r e1 e2 e3).2⟩
 ·rw[dY q]at e1
  rw[dY (by omega),show i - Bs.length=i - ts'.length by omega]at e2
  rw[dY (by omega),show i - ch.length=i - ts'.length by omega]at e3
  cases hi:i - ts'.length with
  |zero=>rw[hi]at e1 e2 e3;cases e1;cases e2;cases e3;exact⟨tk ht,tk hB⟩
  |succ j=>rw[hi]at e1;simp at e1
noncomputable def mQ(S:YP)(nm:Int)(rs:List Int):YP:={S with bs:=S.bs.map (dD nm (S.day,rs))}
theorem oh{bs:List Bt}(nd:(bs.map (·.nm)).Nodup){b c:Bt}(hb:b∈bs)(hc:c∈bs)(e:b.nm=c.nm):b=c:=by
 induction bs with
 |nil=>cases hb
 |cons x r ih=>
  rw[cG,lO]at nd
  rcases cE.mp hb with rfl|h1<;>rcases cE.mp hc with rfl|h2
  ·rfl
  ·exact absurd (e▸Qd.mpr ⟨c,h2,rfl⟩) nd.1
  ·exact absurd (e▸Qd.mpr ⟨b,h1,rfl⟩) nd.1
  ·exact ih nd.2 h1 h2
theorem OP{H:Hp}{S:YP}{b:Bt}{t B:Addr}{rs:List Int}{ts:List Addr}(h:YT CY CD aL H S)(hb:b∈S.bs)(e:H (S.g b.nm)=some (.lst (ts.map V.ref)))(l4:b.ch.length<400)(ht:H t=some (.tup [.int S.day,.ref B]))(hB:H B=some (.tup (rs.map V.int))):
  YT CY CD aL (ab H (S.g b.nm) (.lst (ts.map V.ref++[.ref t]))) (mQ S b.nm rs):=by
 have u:∀x v,x≠S.g b.nm->H x=some v->ab H (S.g b.nm) (.lst (ts.map V.ref++[.ref t])) x=some v:=fun x v n z=>by rw[az n];exact z
 have q:∀{x:Addr} {v:HO},H x=some v->v≠ .lst (ts.map V.ref)->ab H (S.g b.nm) (.lst (ts.map V.ref++[.ref t])) x=some v:=fun z n=>u _ _ (fun y=>by rw[y,e]at z;exact n (cm z).symm) z
 have tk:∀x ys,H x=some (.tup ys)->ab H (S.g b.nm) (.lst (ts.map V.ref++[.ref t])) x=some (.tup ys):=fun x ys z=>q z nofun
 have en:(S.bs.map (dD b.nm (S.day,rs))).map (·.nm)=S.bs.map (·.nm):=by rw[gX];exact kj fun c _=>gg _ _ c
 have ec:dy S.g (S.bs.map (dD b.nm (S.day,rs)))=dy S.g S.bs:=by unfold dy;rw[gX];exact kj fun c _=>by show(_,V.ref (S.g (dD _ _ c).nm))=_;rw[gg]
 have ee:cT (S.bs.map (dD b.nm (S.day,rs)))=cT S.bs:=by unfold cT;rw[gX];exact kj fun c _=>by show((Sum.inl (dD _ _ c).nm:aT),V.non)=_;rw[gg]
 have w2:ab H (S.g b.nm) (.lst (ts.map V.ref++[.ref t])) S.a.de=some (.dK (cT (S.bs.map (dD b.nm (S.day,rs))))):=by rw[ee];exact q h.we nofun
 have mem:∀c'∈S.bs.map (dD b.nm (S.day,rs)),∃c∈S.bs,c'=dD b.nm (S.day,rs) c:=fun c' hc=>by obtain⟨c,h1,h2⟩:=Qd.mp hc;exact⟨c,h1,h2.symm⟩
 refine⟨⟨q h.y nofun,.inl (q h.w nofun),by show _=some (HO.dK (dy S.g (S.bs.map (dD b.nm (S.day,rs)))));rw[ec];exact q h.c nofun,.inl w2,q h.b nofun,q h.nm nofun,q h.tm nofun,fun j hj=>(h.ln j hj).keep (fun ys z=>u _ _ (h.fg j hj b hb) z) tk,fun c' hc'=>?_,h.n60,?_,?_⟩,q h.w nofun,w2,h.dd,h.fi,fun c1 h1 c2 h2 z=>?_,fun i hi c1 h1=>?_⟩
 ·obtain⟨c,hc,rfl⟩:=mem c' hc'
  rw[gg]
  by_cases z:c.nm=b.nm
  ·have hcb:c.ch=b.ch:=by
    have:=oh h.nd hc hb z
    rw[this]
   unfold dD
   rw[aH z]
   refine⟨?_,by simp,by show(c.ch++[_]).length<=400;rw[bF,hcb];simp;omega⟩
   show gN _ (S.g c.nm) (c.ch++[_])
   rw[z,hcb]
   exact((h.ch b hb).1).snoc e ht hB
  ·unfold dD
   rw[av z]
   exact⟨(h.ch c hc).1.keep (fun ys y=>u _ _ (fun c3=>z (h.gi c hc b hb c3)) y) tk,(h.ch c hc).2⟩
 ·show(S.bs.map _).length<=8;rw[ar];exact h.b8
 ·show((S.bs.map _).map _).Nodup;rw[en];exact h.nd
 ·obtain⟨c,hc,rfl⟩:=mem c1 h1
  obtain⟨c',hc',rfl⟩:=mem c2 h2
  rw[gg,gg]at z⊢
  exact h.gi c hc c' hc' z
 ·obtain⟨c,hc,rfl⟩:=mem c1 h1
  rw[gg]
  exact h.fg i hi c hc
theorem y_{H:Hp}{S:YP}{b:Addr}{xs:List V}(h:YT CY CD aL H S)(e:H b=some (.tup xs)):¬Ft S b:=fun z=>by
 rcases z with rfl|rfl|rfl|rfl|rfl|rfl|⟨i,hi,rfl⟩|⟨x,hx,rfl⟩
 ·rw[h.y]at e;cases e
 ·rw[h.w]at e;cases e
 ·rw[h.c]at e;cases e
 ·rw[h.we]at e;cases e
 ·rw[h.b]at e;cases e
 ·rw[h.nm]at e;cases e
 ·obtain⟨_,_,_,_,e',_⟩:=h.ln i hi;rw[e']at e;cases e
 ·obtain⟨_,_,e',_⟩:=(h.ch x hx).1;rw[e']at e;cases e
noncomputable def lF(S:YP)(nm:Int)(l:Addr)(rs:List Int):YP:={S with g:=fun z=>if z=nm then l else S.g z,bs:=S.bs++[⟨nm,[(S.day,rs)]⟩]}
theorem OQ{H Hf:Hp}{S:YP}{nm:Int}{l t B:Addr}{rs:List Int}(h:YT CY CD aL H S)(hn:nm∉S.nms)(h8:S.bs.length<8)(hl:H l=none)(u:∀b v,b≠S.a.dc->b≠S.a.de->H b=some v->Hf b=some v)
  (ec:Hf S.a.dc=some (.dK (br (dy S.g S.bs) (.inl nm) (.ref l)))) (ee:Hf S.a.de=some (.dK (br (cT S.bs) (.inl nm) .non))) (el:Hf l=some (.lst [.ref t])) (ht:Hf t=some (.tup [.int S.day,.ref B])) (hB:Hf B=some (.tup (rs.map V.int))):YT CY CD aL Hf (lF S nm l rs):=by
 obtain⟨d0,d1,_,_,d4,d5,d6,d7,d8,d9⟩:=qI h.dd
 have gm:∀b∈S.bs,(if b.nm=nm then l else S.g b.nm)=S.g b.nm:=fun b hb=>av (show ¬b.nm=nm from fun z=>hn (z▸Qd.mpr ⟨b,hb,rfl⟩))
 have e1:br (dy S.g S.bs) (.inl nm) (.ref l)=dy (fun z=>if z=nm then l else S.g z) (S.bs++[⟨nm,[(S.day,rs)]⟩]):=by
  unfold dy
  rw[qg _ (yJ (α:=fun b=>.ref (S.g b.nm)) hn),cF]
  congr 1
  ·exact kj fun b hb=>by show _=((.inl b.nm:aT),V.ref (if b.nm=nm then l else S.g b.nm));rw[gm b hb]
  ·show _=[((.inl nm:aT),V.ref (if nm=nm then l else _))]
   rw[aH rfl]
 have e2:br (cT S.bs) (.inl nm) .non=cT (S.bs++[⟨nm,[(S.day,rs)]⟩]):=by
  unfold cT
  rw[qg _ (yJ (α:=fun _=>.non) hn),cF]
  rfl
 rw[e1]at ec
 rw[e2]at ee
 have tk:∀b xs,H b=some (.tup xs)->Hf b=some (.tup xs):=fun b xs z=>u _ _ (bB z h.c nofun) (bB z h.we nofun) z
 have lk:∀{b:Addr} {xs:List V},H b=some (.lst xs)->Hf b=some (.lst xs):=fun z=>u _ _ (bB z h.c nofun) (bB z h.we nofun) z
 have no:∀{b:Addr} {o:HO},H b=some o->b≠l:=fun z y=>by rw[y,hl]at z;cases z
 have gl:∀b∈S.bs,S.g b.nm≠l:=fun b hb=>by obtain⟨_,_,e',_⟩:=(h.ch b hb).1;exact no e'
 refine⟨⟨u _ _ (bB h.y h.c nofun) (bB h.y h.we nofun) h.y,.inl (u _ _ d0 d1 h.w),ec,.inl ee,u _ _ (bB h.b h.c nofun) (bB h.b h.we nofun) h.b,u _ _ (Ne.symm d5) (Ne.symm d7) h.nm,u _ _ (Ne.symm d6) (Ne.symm d8) h.tm,fun j hj=>(h.ln j hj).keep (fun ys z=>lk z) tk,fun c hc=>?_,h.n60,?_,?_⟩,u _ _ d0 d1 h.w,ee,h.dd,h.fi,fun c1 h1 c2 h2 z=>?_,fun i hi c1 h1=>?_⟩
 ·rcases iu.mp hc with q|q
  ·show gN Hf (if c.nm=nm then l else S.g c.nm) c.ch/\_
   rw[gm c q]
   exact⟨(h.ch c q).1.keep (fun ys z=>lk z) tk,(h.ch c q).2⟩
  ·cases lN.mp q
   show gN Hf (if nm=nm then l else _) _/\_
   rw[aH rfl]
   refine⟨⟨[t],[B],el,rfl,rfl,fun i x y r e1 e2 e3=>?_⟩,nofun,by show 1<=400;omega⟩
   cases i with
   |zero=>cases e1;cases e2;cases e3;exact⟨ht,hB⟩
   |succ j=>simp at e1
 ·show(S.bs++[_]).length<=8;rw[bF];exact h8
 ·show((S.bs++[_]).map _).Nodup
  rw[cF,qT]
  exact⟨h.nd,by simp,fun x hx y hy z=>hn (by cases lN.mp hy;rw[show x=nm from z]at hx;exact hx)⟩
 ·have z':(if c1.nm=nm then l else S.g c1.nm)=(if c2.nm=nm then l else S.g c2.nm):=z
  rcases iu.mp h1 with q1|q1<;>rcases iu.mp h2 with q2|q2
  ·rw[gm c1 q1,gm c2 q2]at z';exact h.gi c1 q1 c2 q2 z'
  ·cases lN.mp q2
   rw[gm c1 q1,aH rfl]at z';exact absurd z' (gl c1 q1)
  ·cases lN.mp q1
   rw[gm c2 q2,aH rfl]at z';exact absurd z'.symm (gl c2 q2)
  ·cases lN.mp q1;cases lN.mp q2;rfl
 ·show S.f i≠(if c1.nm=nm then l else S.g c1.nm)
  rcases iu.mp h1 with q1|q1
  ·rw[gm c1 q1];exact h.fg i hi c1 q1
  ·cases lN.mp q1
   rw[aH rfl]
   obtain⟨_,_,_,_,e',_⟩:=h.ln i hi
   exact no e'
theorem OR{H Hf:Hp}{S:YP}{nm:Int}{l:Addr}{rs:List Int}(hn:nm∉S.nms)(hl:H l=none)(u:∀b v,b≠S.a.dc->b≠S.a.de->H b=some v->Hf b=some v):c8 (Ft S) (Ft (lF S nm l rs)) H Hf:=by
 refine⟨fun b v n z=>u b v (fun c=>n (.inr (.inr (.inl c)))) (fun c=>n (.inr (.inr (.inr (.inl c))))) z,fun b y=>?_⟩
 rcases y with y|y|y|y|y|y|y|⟨x,hx,y⟩
 ·exact .inl (.inl y)
 ·exact .inl (.inr (.inl y))
 ·exact .inl (.inr (.inr (.inl y)))
 ·exact .inl (.inr (.inr (.inr (.inl y))))
 ·exact .inl (.inr (.inr (.inr (.inr (.inl y)))))
 ·exact .inl (.inr (.inr (.inr (.inr (.inr (.inl y))))))
 ·exact .inl (.inr (.inr (.inr (.inr (.inr (.inr (.inl y)))))))
 ·have y':b=if x.nm=nm then l else S.g x.nm:=y
  by_cases c:x.nm=nm
  ·rw[aH c]at y';right;rw[y'];exact hl
  ·rw[av c]at y'
   left
   rcases iu.mp hx with q|q
   ·rw[y'];exact yY q
   ·cases lN.mp q;exact absurd rfl c
noncomputable def fL(S:YP)(o:Option Int)(l:List Int):YP:={S with pl:=fun i=>if(i:Int)+1∈l then o else S.pl i,k:=S.k+l.length}
theorem za{S:YP}{o:Option Int}:fL S o []=S:=by
 unfold fL;simp
theorem Fn{S:YP}{o:Option Int}{l:List Int}{i:Nat}(hi:i<S.n):jw (fL S o l) i o S.f=fL S o (l++[(i:Int)+1]):=by
 unfold jw fL
 have e1:max S.n (i+1)=S.n:=by omega
 have e2:(fun j=>if j=i then o else if(j:Int)+1∈l then o else S.pl j)=fun j:Nat=>if(j:Int)+1∈l++[(i:Int)+1]then o else S.pl j:=by
  funext j
  by_cases z:j=i
  ·subst z;simp
  ·rw[av z]
   have:(j:Int)+1∈l++[(i:Int)+1]↔(j:Int)+1∈l:=by
    rw[iu,lN];constructor
    ·rintro(q|q)
     ·exact q
     ·omega
    ·exact .inl
   by_cases q:(j:Int)+1∈l
   ·rw[aH q,aH (this.mpr q)]
   ·rw[av q,av (fun c=>q (this.mp c))]
 simp only[e1,e2,bF,oz,Nat.add_assoc]
noncomputable def lG(S:YP)(nm:Int)(rs:List Int)(x:Int):YP:={fL S (some nm) rs with ob:=br S.ob (.inl nm) (.int x)}
noncomputable def zb(K:W.Frag)(CY CD aL:Addr):Sp:=fun vs H Q _=>∃(S:YP) (nm:Int) (t:Addr) (ns:List Int) (x:Int),vs=[.ref S.a.y,.int nm,.ref t]/\YT CY CD aL H S/\cZ K H t (ns.map V.int)/\ns.length<64/\(∀y∈ns,1<=y/\y<=S.n)/\S.k<8900/\S.ob.length<100/\(b7 S.ob (.inl nm)).getD (.int 0)=.int x/\
 ((nm∉S.nms/\S.bs.length<8/\∀l H' rs,bH rs (fun y=>y∈ns)->YT CY CD aL H' (lG (lF S nm l rs) nm rs x)->c8 (Ft S) (Ft (lF S nm l rs)) H H'->Q .non H')\/
 ∃b∈S.bs,b.nm=nm/\b.ch.length<400/\¬bH b.now (fun y=>y∈ns)/\∀H' rs,bH rs (fun y=>y∈ns)->YT CY CD aL H' (lG (mQ S nm rs) nm rs x)->c8 (Ft S) (Ft S) H H'->Q .non H')
theorem Fo{S:YP}{nm:Int}{rs:List Int}:Ft (mQ S nm rs)=Ft S:=by
 funext b
 have q:(∃x∈S.bs.map (dD nm (S.day,rs)),b=S.g x.nm)=∃x∈S.bs,b=S.g x.nm:=propext ⟨fun⟨x,hx,e⟩=>by obtain⟨c,hc,rfl⟩:=Qd.mp hx;exact⟨c,hc,by rw[gg]at e;exact e⟩,fun⟨x,hx,e⟩=>⟨_,Qd.mpr ⟨x,hx,rfl⟩,by rw[gg];exact e⟩⟩
 unfold Ft yH
 show(_\/_\/_\/_\/_\/_\/_\/∃x∈S.bs.map (dD nm (S.day,rs)),b=S.g x.nm)=_
 rw[q]
 rfl
abbrev zc:Stmt:=fH (bf 81) 6
theorem uj:a_ ["self","name","timbers","boat","chain","timber"] ["self","name","timbers"] (aC zc):=bc
theorem OS{f:Addr}{fd:FuncData}(F:aX K "launch" "Yard.launch" zc f fd)(Y:gO K CY)(T:bG mg)(dU:aY P w K mg base "rising" 1 ["timbers"] (iL K))(kD:cW P w K mg base CY "move" 2 ["self","timber","place"] (qH CY CD aL))(Au:cW P w K mg base CD "take_over" 1 ["self","name","timbers"] (yE CD)):aK P w K mg base aV 3 f fd ["self","name","timbers"] (zb K CY CD aL):=by
 obtain⟨hc,n1,n2,n3,n4,n5,n6⟩:=Y
 refine F.ok uj (fun vs H Q E h=>?_) (fun aM A outer s H vs Q E hr h=>?_)
 ·obtain⟨_,_,_,_,_,rfl,_⟩:=h
  rfl
 ·obtain⟨S,nm,t,ns,x,rfl,h,ht,l64,hm,hk,ho,hv,kk⟩:=h
  refine⟨_,(aF (bR (i:=3) uj.nd rfl (Or.inl rfl) (dJ (p_ (K:=K) rfl) (by rfl) T.z_tuple mi (a9 (pC dU (a9 (pv 2) ag)) ag)))
   (ie (bQ (jK (sU (fq hr.units) (pv 1) (cC (K:=K) rfl (pv 0)))) (aF (sV (fq hr.units) (cC (K:=K) rfl (pv 0)) (pv 1) (fR ag) rfl)
   (aA (sV (fq hr.units) (cC (K:=K) rfl (pv 0)) (pv 1) pf rfl))) bU)
   (aF (bR (i:=4) uj.nd rfl (Or.inl rfl) (nW (fq hr.units) (cC (K:=K) rfl (pv 0)) (pv 1) (fun _ _=>rfl)))
   (ie (bQ ((gZ (c7 (LA hr.units) (pv 4) (fR ag) (bO _)) (iT (c7 (Eo hr.units) (cp (fk (K:=K) rfl) (cp (fI (K:=K) rfl) (pv 4) (u_ v7 ay) (fun _ _=>rfl)) ay (fun _ _=>rfl)) (pv 3) (bO _))))).pt (aA (dG (nS (K:=K) rfl (pv 4) (a9 (e_ (a9 (cC (K:=K) rfl (pv 0)) (a9 (pv 3) ag))) ag)))) bU)
   (aF (hU gU rfl (fo (K:=K) rfl (pv 3)) (aR (i:=5) uj.nd rfl (Or.inl rfl)) (aA (dG (pM kD (pv 0) (a9 (pv 5) (a9 (e_ (a9 fO (a9 (pv 1) ag))) ag))))))
   (aA (dG (pM Au (cC (K:=K) rfl (pv 0)) (a9 (pv 1) (a9 (pv 3) ag)))))))))),?_⟩
  have hy:=h.y
  walk_at "r"
  refine⟨t,ns,rfl,ht,l64,fun l0 H1 rs s1 _ hl0 hR=>?_⟩
  have h1:=h.same s1
  walk_at "r"
  refine qb (ai.of hl0) fun B hB0=>?_
  have s2:=au (o:=.tup (rs.map V.int)) hB0
  have h2:=h1.same s2
  have hB:ab H1 B (.tup (rs.map V.int)) B=some (.tup (rs.map V.int)):=aq
  generalize ab H1 B (.tup (rs.map V.int))=H2 at s2 h2 hB⊢
  have s12:=s1.trans s2
  have hy2:=h2.y
  have es:b7 (dy S.g S.bs) (.inl nm)=none↔nm∉S.nms:=by
   constructor
   ·intro z c
    obtain⟨b,hb,rfl⟩:=Qd.mp c
    rw[show b7 (dy S.g S.bs) (.inl b.nm)=some (.ref (S.g b.nm))from mP (α:=fun b=>.ref (S.g b.nm)) h.nd hb]at z
    cases z
   ·exact yJ (α:=fun b=>.ref (S.g b.nm))
  walk_at "r"
  refine⟨fun σ' H'=>σ'=[some (.ref S.a.y),some (.int nm),some (.ref t),some (.ref B),none,none]/\H' B=some (.tup (rs.map V.int))/\H' S.a.y=some (.ins CY S.a.dx (yF S.most S.day S.a.dl S.a.dc S.a.de S.a.db))/\((nm∈S.nms/\H'=H2)\/(nm∉S.nms/\∃l,H2 l=none/\(∀b v,b≠S.a.dc->b≠S.a.de->H2 b=some v->H' b=some v)/\H' S.a.dc=some (.dK (br (dy S.g S.bs) (.inl nm) (.ref l)))/\H' S.a.de=some (.dK (br (cT S.bs) (.inl nm) .non))/\H' l=some (.lst []))),?_,?_⟩
  ·walk_at "r"
   refine⟨S.a.dc,_,rfl,gf (k:=.inl nm) (.of h2.c),?_⟩
   by_cases hn:nm∈S.nms
   ·obtain⟨o,eo⟩:∃o,b7 (dy S.g S.bs) (.inl nm)=some o:=by
     cases e:b7 (dy S.g S.bs) (.inl nm)with
     |none=>exact absurd hn (es.mp e)
     |some o=>exact⟨o,rfl⟩
    rw[eo]
    walk_at "r"
    refine bj ?_
    walk_at "r"
    exact⟨rfl,hB,hy2,.inl ⟨hn,rfl⟩⟩
   ·rw[es.mpr hn]
    walk_at "r"
    refine ba ?_
    walk_at "r"
    refine⟨b_ _,fun l hl=>?_⟩
    have s3:=au (o:=.lst []) hl
    have h3:=h2.same s3
    have el:ab H2 l (.lst []) l=some (.lst []):=aq
    generalize ab H2 l (.lst [])=H3 at s3 h3 el⊢
    have hy3:=h3.y
    obtain⟨_,_,_,_,d4,_⟩:=qI h.dd
    walk_at "r"
    refine⟨S.a.dc,_,rfl,.inl ⟨_,.inl nm,h3.c,rfl,gI (by unfold dy;rw[ar];have:=h.b8;omega),rfl⟩,?_⟩
    have hy4:ab H3 S.a.dc (.dK (br (dy S.g S.bs) (.inl nm) (.ref l))) S.a.y=_:=(az (bB h3.y h3.c nofun)).trans h3.y
    walk_at "r"
    refine⟨S.a.de,_,rfl,.inl ⟨cT S.bs,.inl nm,by rw[az (Ne.symm d4)];exact h3.we,rfl,gI (by unfold cT;rw[ar];have:=h.b8;omega),rfl⟩,?_⟩
    walk_at "r"
    have u:∀b v,b≠S.a.dc->b≠S.a.de->H3 b=some v->ab (ab H3 S.a.dc (.dK (br (dy S.g S.bs) (.inl nm) (.ref l)))) S.a.de (.dK (br (cT S.bs) (.inl nm) .non)) b=some v:=fun b v q1 q2 z=>by rw[az q2,az q1];exact z
    have q:∀{b:Addr} {v:HO},H3 b=some v->v≠ .dK (dy S.g S.bs)->v≠ .dK (cT S.bs)->ab (ab H3 S.a.dc (.dK (br (dy S.g S.bs) (.inl nm) (.ref l)))) S.a.de (.dK (br (cT S.bs) (.inl nm) .non)) b=some v:=fun z y1 y2=>u _ _ (bB z h3.c y1) (bB z h3.we y2) z
    exact⟨rfl,q (s3 _ _ hB) nofun nofun,q h3.y nofun nofun,.inr ⟨hn,l,hl,fun b v q1 q2 z=>u b v q1 q2 (s3 _ _ z),by rw[az d4,aq],aq,q el nofun nofun⟩⟩
  ·rintro σ' H3 ⟨rfl,hB3,hy3,cs⟩
   have vc:∃c,gH H3 S.a.dc (.int nm) (some (.ref c))/\((nm∈S.nms/\H3=H2/\c=S.g nm)\/(nm∉S.nms/\H2 c=none/\(∀b v,b≠S.a.dc->b≠S.a.de->H2 b=some v->H3 b=some v)/\H3 S.a.dc=some (.dK (br (dy S.g S.bs) (.inl nm) (.ref c)))/\H3 S.a.de=some (.dK (br (cT S.bs) (.inl nm) .non))/\H3 c=some (.lst []))):=by
    rcases cs with⟨hn,rfl⟩|⟨hn,l,q1,q2,q3,q4,q5⟩
    ·obtain⟨b,hb,rfl⟩:=Qd.mp hn
     refine⟨S.g b.nm,?_,.inl ⟨hn,rfl,rfl⟩⟩
     rw[<-show b7 (dy S.g S.bs) (.inl b.nm)=some (.ref (S.g b.nm))from mP (α:=fun b=>.ref (S.g b.nm)) h.nd hb]
     exact gf (k:=.inl b.nm) (.of h2.c)
    ·refine⟨l,?_,.inr ⟨hn,q1,q2,q3,q4,q5⟩⟩
     rw[<-show b7 (br (dy S.g S.bs) (.inl nm) (.ref l)) (.inl nm)=some (.ref l) by rw[qg _ (es.mpr hn),sR _ _ _ _ (es.mpr hn),aH rfl]]
     exact gf (k:=.inl nm) (.of q3)
   obtain⟨c,gc,cs⟩:=vc
   walk_at "r"
   refine⟨S.a.dc,_,rfl,gc,?_⟩
   walk_at "r"
   refine⟨fun σ' H'=>σ'=[some (.ref S.a.y),some (.int nm),some (.ref t),some (.ref B),some (.ref c),none]/\H' B=some (.tup (rs.map V.int))/\∃S1:YP,YT CY CD aL H' S1/\S1.a=S.a/\S1.n=S.n/\S1.k=S.k/\S1.ob=S.ob/\∀H9,YT CY CD aL H9 (lG S1 nm rs x)->c8 (Ft S1) (Ft S1) H' H9->Q .non H9,?_,?_⟩
   ·walk_at "r"
    refine⟨b_ _,fun p hp=>?_⟩
    have s3:=au (o:=.lst []) hp
    have ep:ab H3 p (.lst []) p=some (.lst []):=aq
    rcases cs with⟨hn,rfl,rfl⟩|⟨hn,q1,q2,q3,q4,q5⟩
    ·rcases kk with⟨hn',_⟩|⟨b,hb,rfl,l4,nr,kk⟩
     ·exact absurd hn hn'
     have h5:=h2.same s3
     have hB5:=s3 _ _ hB
     obtain⟨ts,tl,Bl,r,e1,e2,e3,e4,e5⟩:=(h5.ch b hb).1.last (h5.ch b hb).2.1
     generalize ab H3 p (.lst [])=H5 at s3 ep h5 hB5 e1 e4 e5⊢
     have hy5:=h5.y
     refine Em e1 ep ?_
     have ne:(ts.map V.ref).isEmpty=false:=by
      cases ts with
      |nil=>cases e2
      |cons _ _=>rfl
     rw[ne]
     walk_at "r"
     refine bj ?_
     walk_at "r"
     refine nL (ai.of e1) (yK e2) ?_
     walk_at "r"
     refine Ep e5 hB5 ?_
     rw[cz (fun z=>nr (by rw[Fj e3,z];exact hR))]
     walk_at "r"
     refine ba ?_
     walk_at "r"
     refine⟨.inl ⟨rfl,_,ai.of e1⟩,?_⟩
     walk_at "r"
     refine⟨by show 2<=sizeLine;decide,fun t1 ht1=>?_⟩
     have s4:=au (o:=.tup [.int S.day,.ref B]) ht1
     have e6:ab H5 t1 (.tup [.int S.day,.ref B]) t1=_:=aq
     have h6:=h5.same s4
     have hB6:=s4 _ _ hB5
     have e7:=s4 _ _ e1
     generalize ab H5 t1 (.tup [.int S.day,.ref B])=H6 at s4 h6 hB6 e6 e7⊢
     walk_at "r"
     have lt:(ts.map V.ref).length=b.ch.length:=by
      obtain⟨ts',Bs,z1,z2,_⟩:=(h6.ch b hb).1
      rw[e7]at z1
      injection cm z1 with z1
      rw[z1,ar];omega
     refine kW e7 (gI (by rw[lt];omega)) ?_
     walk_at "r"
     have gB:B≠S.g b.nm:=bB hB6 e7 nofun
     refine⟨rfl,by rw[az gB];exact hB6,mQ S b.nm rs,OP h6 hb e7 l4 e6 hB6,rfl,rfl,rfl,rfl,fun H9 y9 st=>kk H9 rs hR y9 ?_⟩
     rw[Fo]at st
     exact((c8.same (s12.trans (s3.trans s4))).trans ⟨fun b' u' n y=>by rw[az (show b'≠S.g b.nm from fun c=>n (by rw[c];exact yY hb))];exact y,fun b' y=>.inl y⟩).trans st
    ·rcases kk with⟨_,h8,kk⟩|⟨b,hb,rfl,_⟩
     rotate_left
     ·exact absurd (Qd.mpr ⟨b,hb,rfl⟩) hn
     refine Em (s3 _ _ q5) ep ?_
     have hy5:=s3 _ _ hy3
     have hB5:=s3 _ _ hB3
     have z5:=s3 _ _ q5
     generalize ab H3 p (.lst [])=H5 at s3 ep hy5 hB5 z5⊢
     rw[show([]:List V).isEmpty=true from rfl]
     walk_at "r"
     refine ba (ba ?_)
     walk_at "r"
     refine⟨.inl ⟨rfl,_,ai.of z5⟩,?_⟩
     walk_at "r"
     refine⟨by show 2<=sizeLine;decide,fun t1 ht1=>?_⟩
     have s4:=au (o:=.tup [.int S.day,.ref B]) ht1
     have e6:ab H5 t1 (.tup [.int S.day,.ref B]) t1=_:=aq
     have e7:=s4 _ _ z5
     have hB6:=s4 _ _ hB5
     generalize ab H5 t1 (.tup [.int S.day,.ref B])=H6 at s4 e6 e7 hB6⊢
     walk_at "r"
     refine kW e7 (gI (by decide)) ?_
     walk_at "r"
     have k6:∀{b:Addr} {v:HO},H6 b=some v->v≠ .lst []->ab H6 c (.lst ([]++[.ref t1])) b=some v:=fun z n=>by rw[az (bB z e7 n)];exact z
     have u:∀b v,b≠S.a.dc->b≠S.a.de->H2 b=some v->ab H6 c (.lst ([]++[.ref t1])) b=some v:=fun b v z1 z2 z=>by
      rw[az (bh z q1)]
      exact s4 _ _ (s3 _ _ (q2 b v z1 z2 z))
     exact⟨rfl,k6 hB6 nofun,lF S nm c rs,OQ h2 hn h8 q1 u (k6 (s4 _ _ (s3 _ _ q3)) nofun) (k6 (s4 _ _ (s3 _ _ q4)) nofun) aq (k6 e6 nofun) (k6 hB6 nofun),rfl,rfl,rfl,rfl,fun H9 y9 st=>kk c H9 rs hR y9 ((c8.same s12).trans ((OR hn q1 u).trans st))⟩
   ·rintro σ' H4 ⟨rfl,hB4,S1,h4,ea,en,ek,eo,kk⟩
    rw[<-ea]
    have hy4:=h4.y
    walk_at "r"
    have fB:=y_ h4 hB4
    have hl:=hR.le fun _ z=>z
    refine⟨B,rfl,⟨_,ax.of hB4⟩,?_⟩
    refine h_ (fun i σ' H'=>(∃y,σ'=[some (.ref S1.a.y),some (.int nm),some (.ref t),some (.ref B),some (.ref c),y])/\YT CY CD aL H' (fL S1 (some nm) (rs.take i))/\c8 (Ft S1) (Ft S1) H4 H') rs.length ⟨⟨none,rfl⟩,by rw[uL,za];exact h4,c8.refl⟩ ?_ ?_
    ·rintro σ' H5 ⟨⟨y,rfl⟩,h5,st⟩
     have hB5:=st.1 _ _ fB hB4
     refine⟨⟨_,ax.of hB5,by rw[ar];exact aG _⟩,?_⟩
     rw[jy]at h5
     have hy5:H5 S1.a.y=some (.ins CY S1.a.dx (yF S1.most S1.day S1.a.dl S1.a.dc S1.a.de S1.a.db)):=h5.y
     have hb5:H5 S1.a.db=some (.ins CD S1.a.ddx (dF S1.a.dn S1.a.dt S1.cn)):=h5.b
     walk_at "r"
     refine⟨S1.a.db,S1.a.ddx,S1.a.dn,S1.a.dt,B,S1.cn,S1.ob,nm,x,rs,rfl,h5.b,h5.nm,h5.tm,hB5,(qI h4.dd).2.2.2.2.2.2.2.2.2,by rw[eo];exact ho,by rw[eo];exact hv,fun H6 e6 u6=>?_⟩
     walk_at "r"
     exact kk H6 (h5.owe e6 u6) (st.trans ⟨fun b u n z=>u6 b u (fun c=>n (.inr (.inr (.inr (.inr (.inr (.inl c))))))) z,fun b z=>.inl z⟩)
    ·rintro i σ' H5 hi ⟨⟨y,rfl⟩,h5,st⟩
     have e1:rs[i]?=some rs[i]:=aN hi
     have hB5:=st.1 _ _ fB hB4
     refine⟨⟨_,.int rs[i],ax.of hB5,by rw[aI,e1];rfl⟩,?_⟩
     have hy5:H5 S1.a.y=some (.ins CY S1.a.dx (yF S1.most S1.day S1.a.dl S1.a.dc S1.a.de S1.a.db)):=h5.y
     rintro x' G ⟨rfl,hy⟩
     have ex:=hy _ (ax.of hB5)
     rw[aI,e1]at ex
     cases ex
     obtain⟨j,hj,ej⟩:∃j:Nat,j<S1.n/\rs[i]=(j:Int)+1:=by
      have:=hm _ ((hR.2 _).mp (gT hi))
      exact⟨(rs[i] - 1).toNat,by omega,by omega⟩
     walk_at "r"
     refine⟨by show 2<=sizeLine;decide,fun pp hpp=>?_⟩
     have s6:=au (o:=.tup [.str "boat",.int nm]) hpp
     walk_at "r"
     refine⟨fL S1 (some nm) (rs.take i),j,pp,some nm,by rw[ej];rfl,h5.same s6,aq,.inl hj,by show S1.k+(rs.take i).length<9000;rw[e9];omega,fun f' H7 h7 st7 ef=>?_⟩
     cases ef hj
     rw[show(fL S1 (some nm) (rs.take i)).f=S1.f from rfl,Fn hj,<-ej,<-List.take_succ_eq_append_getElem hi]at h7
     rw[uh (S:=fL S1 (some nm) (rs.take i)) hj]at st7
     walk_at "r"
     exact⟨⟨_,rfl⟩,h7,st.trans ((c8.same s6).trans st7)⟩
theorem zd{σ:St}{H:Hp}{D:gY}{x C dx:Addr}{fs:List (Str×V)}{f:Str}{i:Nat}(hσ:σ[i]?=some (some (.ref x)))(e:H x=some (.ins C dx fs))(l:fs.length<1000)(c:dA K C)(n:di K C f)
  (q:∀d H',H d=none->d≠x->H' x=some (.ins C dx (bw f (.ref d) fs))->H' d=some (.dK [])->cI x H H'->D.nx σ H'):rL K (dq i) wN f D σ H:=by
 intro d hd
 have nd:d≠x:=fun z=>by rw[z,e]at hd;cases hd
 refine⟨_,hσ,x,C,dx,fs,rfl,au hd _ _ e,c,n,l,q d _ hd nd aq (by rw[az nd];exact aq) ((au hd).but.trans hW)⟩
noncomputable def y0(a:YA)(m:Int):YP:=⟨a,fun _=>0,fun _=>0,m,0,0,fun _=>none,[],0,[],0⟩
noncomputable def ze(CY CD aL:Addr):Sp:=fun vs H Q _=>∃(x dx:Addr) (m:Int),vs=[.ref x,.int m]/\H x=some (.ins CY dx [])/\1<=m/\m<=12/\∀(a:YA) H',a.y=x->YT CY CD aL H' (y0 a m)->cI x H H'->Q .non H'
abbrev zf:Stmt:=fH (bf 81) 0
theorem OT:a_ ["self","slip"] ["self","slip"] (aC zf):=bc
theorem OU{f:Addr}{fd:FuncData}(F:aX K "__init__" "Yard.__init__" zf f fd)(Y:gO K CY)(oK:aY P w K mg base "need_slip" 2 ["number"] tu)(Av:nX P w K mg base "Debts" CD 1 ["self"] (yy CD)):aK P w K mg base aV 3 f fd ["self","slip"] (ze CY CD aL):=by
 obtain⟨hc,n1,n2,n3,n4,n5,n6⟩:=Y
 refine F.ok OT (fun vs H Q E h=>?_) (fun aM A outer s H vs Q E hr h=>?_)
 ·obtain⟨_,_,_,rfl,_⟩:=h
  rfl
 ·obtain⟨x,dx,m,rfl,e0,m1,m2,k⟩:=h
  refine⟨_,(aF (dG (pC oK (a9 (pv 1) ag)))
   (aF (iK (K:=K) rfl (pv 0) (pv 1) rfl)
   (aF (iK (K:=K) rfl (pv 0) ay rfl)
   (aF (iK (K:=K) rfl (pv 0) qj rfl)
   (aF (iK (K:=K) rfl (pv 0) qj rfl)
   (aF (iK (K:=K) rfl (pv 0) qj rfl)
   (aA (iK (K:=K) rfl (pv 0) (Lb Av (hr.mono (by omega)) (by rfl)) rfl)))))))),?_⟩
  walk_at "r"
  refine⟨m,rfl,m1,m2,?_⟩
  refine ml (sX (du rfl (du rfl (qo e0 (by decide) hc n1 ?_))))
  refine ml (sX (gE (du rfl (qo aq (fN (by kernel_rfl)) hc n2 ?_))))
  rw[uW]
  have b1:cI x H (ab H x (.ins CY dx (bw "day" (.int 0) (bw "most" (.int m) [])))):=hW
  have e1:ab H x (.ins CY dx (bw "day" (.int 0) (bw "most" (.int m) []))) x=some (.ins CY dx (bw "day" (.int 0) (bw "most" (.int m) []))):=aq
  generalize ab H x (.ins CY dx (bw "day" (.int 0) (bw "most" (.int m) [])))=H1 at b1 e1⊢
  refine ml (zd rfl e1 (fN (by kernel_rfl)) hc n3 fun dl H2 l0 nl e2 l2 b2=>?_)
  refine ml (zd rfl e2 (fN (by kernel_rfl)) hc n4 fun dc H3 c0 nc e3 c3 b3=>?_)
  refine ml (zd rfl e3 (fN (by kernel_rfl)) hc n5 fun de H4 d0 nd e4 d4 b4=>?_)
  walk_at "r"
  intro db ddx hb hdx nb
  have s5:=(au (o:=.own db) hdx).trans (au (o:=.ins CD ddx []) (show ab H4 ddx (.own db) db=none by rw[az (Ne.symm nb)];exact hb))
  have hb5:ab (ab H4 ddx (.own db)) db (.ins CD ddx []) db=some (.ins CD ddx []):=aq
  generalize ab (ab H4 ddx (.own db)) db (.ins CD ddx [])=H5 at s5 hb5⊢
  refine⟨db,ddx,rfl,hb5,fun dn dt H6 e6 hn ht en et nnt b6=>⟨rfl,?_⟩⟩
  have nx:x≠db:=bh e4 hb
  have l4:=b4 _ _ nl (b3 _ _ nl l2)
  have c4:=b4 _ _ nc c3
  have g:∀b o,H4 b=some o->H6 b=some o:=fun b o z=>b6 b o (bh z hb) (s5 _ _ z)
  refine du rfl (qo (g _ _ e4) (fN (by kernel_rfl)) hc n6 ?_)
  rw[LM]
  have ndb:db≠x:=Ne.symm nx
  have nn:∀b,H5 b=none->b≠x:=fun b z=>(bh (s5 _ _ e4) z).symm
  have nlx:∀b,H5 b=none->b≠dl:=fun b z=>(bh (s5 _ _ l4) z).symm
  have uu:∀b o,b≠x->H6 b=some o->ab H6 x (.ins CY dx (yF m 0 dl dc de db)) b=some o:=fun b o n z=>by rw[az n];exact z
  have c3':=b4 _ _ nc c3
  have o:∀{b:Addr},H4 b=some (.dK [])->∀{d:Addr},H5 d=none->b≠d:=fun z _ q=>bh (s5 _ _ z) q
  refine k ⟨x,dx,dl,dc,de,db,ddx,dn,dt⟩ _ rfl ⟨⟨aq,.of (uu _ _ nl (g _ _ l4)),uu _ _ nc (g _ _ c4),.of (uu _ _ nd (g _ _ d4)),uu _ _ ndb e6,uu _ _ (nn _ hn) en,uu _ _ (nn _ ht) et,fun i hi=>absurd hi (mY _),(fun _ hb=>(by cases hb)),b_ _,b_ _,.nil⟩,uu _ _ nl (g _ _ l4),uu _ _ nd (g _ _ d4),?_,(fun i _ hi=>absurd hi (mY _)),(fun _ hb=>(by cases hb)),fun i hi=>absurd hi (mY _)⟩ ?_
  ·have q1:dl≠dc:=bh l2 c0
   have q2:dl≠de:=bh (b3 _ _ nl l2) d0
   have q3:dc≠de:=bh c3 d0
   show[dl,dc,de,dn,dt].Nodup
   simp only[lO,cE,jD,dk,uH,mZ,and_true]
   exact⟨⟨q1,q2,o l4 hn,o l4 ht⟩,⟨q3,o c4 hn,o c4 ht⟩,⟨o d4 hn,o d4 ht⟩,nnt⟩
  ·exact fun b o n z=>uu _ _ n (g _ _ (b4 _ _ n (b3 _ _ n (b2 _ _ n (b1 _ _ n z)))))
noncomputable def zg(lo hi:Int):Sp:=fun vs H Q _=>∃x:Int,vs=[.int x]/\lo<=x/\x<=hi/\Q .non H
abbrev zh:Stmt:=bf 25
theorem OV:a_ ["number"] ["number"] (aC zh):=bc
theorem OW{f:Addr}{fd:FuncData}(F:aX K "need_day" "need_day" zh f fd)(oQ:aY P w K mg base "is_day" 1 ["number"] (gJ 1 400)):aK P w K mg base aV 2 f fd ["number"] (zg 1 400):=by
 refine F.ok OV (fun vs H Q E h=>?_) (fun aM A outer s H vs Q E hr h=>?_)
 ·obtain⟨x,rfl,_⟩:=h
  rfl
 ·obtain⟨x,rfl,a,b,k⟩:=h
  refine⟨_,(aA (bQ (eJ (dX (pC oQ (a9 (pv 0) ag)))) (aA je) bU)),?_⟩
  walk_at "r"
  refine⟨x,rfl,?_⟩
  rw[jj a b]
  walk_at "r"
  refine bj ?_
  walk_at "r"
  exact k
theorem jt.dayed{H:Hp}{S:YP}{d:Int}(h:YT CY CD aL H S):YT CY CD aL (ab H S.a.y (.ins CY S.a.dx (yF S.most d S.a.dl S.a.dc S.a.de S.a.db))) {S with day:=d}:=by
 have u:∀{b:Addr} {o:HO},H b=some o->o≠ .ins CY S.a.dx (yF S.most S.day S.a.dl S.a.dc S.a.de S.a.db)->ab H S.a.y (.ins CY S.a.dx (yF S.most d S.a.dl S.a.dc S.a.de S.a.db)) b=some o:=fun z no=>by
  rw[az (bB z h.y no)];exact z
 have nb:HO.ins CD S.a.ddx (dF S.a.dn S.a.dt S.cn)≠ .ins CY S.a.dx (yF S.most S.day S.a.dl S.a.dc S.a.de S.a.db):=fun z=>by injection z with _ _ z;cases z
 exact⟨⟨aq,.of (u h.w nofun),u h.c nofun,.of (u h.we nofun),u h.b nb,u h.nm nofun,u h.tm nofun,fun i hi=>(h.ln i hi).keep (fun _ z=>u z nofun) fun _ _ z=>u z nofun,fun b hb=>⟨(h.ch b hb).1.keep (fun _ z=>u z nofun) fun _ _ z=>u z nofun,(h.ch b hb).2⟩,h.n60,h.b8,h.nd⟩,u h.w nofun,u h.we nofun,h.dd,h.fi,h.gi,h.fg⟩
noncomputable def gP(S:YP)(f':Nat->Addr)(x:Nat):YP:={S with f:=f',n:=S.n+x,k:=S.k+x}
theorem OX{S:YP}{f' f2:Nat->Addr}{x:Nat}(hp:∀i,S.n<=i->S.pl i=none):jw (gP S f' x) (S.n+x) none f2=gP S f2 (x+1):=by
 unfold jw gP
 have e1:max (S.n+x) (S.n+x+1)=S.n+(x+1):=by omega
 have e2:(fun j=>if j=S.n+x then none else S.pl j)=S.pl:=by
  funext j
  by_cases z:j=S.n+x
  ·rw[aH z,hp j (by omega)]
  ·rw[av z]
 have e3:S.k+x+1=S.k+(x+1):=rfl
 simp only[e1,e2,e3]
noncomputable def zk(CY CD aL:Addr):Sp:=fun vs H Q _=>∃(S:YP) (p:Addr) (x:Nat),vs=[.ref S.a.y,.ref p]/\YT CY CD aL H S/\H p=some (.tup [.str "fell",.int x])/\S.n+x<=60/\S.k<8900/\(∀i,S.n<=i->S.pl i=none)/\∀f' H',YT CY CD aL H' (gP S f' x)->c8 (Ft S) (Ft (gP S f' x)) H H'->Q (.str "good") H'
abbrev zl:Stmt:=bf 70
theorem zm:a_ ["yard","fact","last","timber"] ["yard","fact"] (aC zl):=bc
theorem OY{f:Addr}{fd:FuncData}(F:aX K "enter_fell" "enter_fell" zl f fd)(T:bG mg){tk:Tok}(hMT:mg "MOST_TIMBERS"=some (.int 60 tk))(hL:mg "LOOSE"=some (.ref aL))(uU:cW P w K mg base CY "felled" 1 ["self"] (yL CY CD aL))(kD:cW P w K mg base CY "move" 2 ["self","timber","place"] (qH CY CD aL)):aK P w K mg base aV 3 f fd ["yard","fact"] (zk CY CD aL):=by
 refine F.ok zm (fun vs H Q E h=>?_) (fun aM A outer s H vs Q E hr h=>?_)
 ·obtain⟨_,_,_,rfl,_⟩:=h
  rfl
 ·obtain⟨S,p,x,rfl,h,hp,hn,hk,pn,k⟩:=h
  refine⟨_,(aF (bR (i:=2) zm.nd rfl (Or.inl rfl) (bu dI (kY uU (hr.mono (by omega)) (pv 0)) (cp (fk (K:=K) rfl) (pv 1) ay (fun _ _=>rfl))))
   (aF (bQ (c7 ia (pv 2) (fG (v:=.int 60) (by rfl) hMT ⟨_,rfl⟩) (bO _)) (aA (aU fO)) bU)
   (aF (hU gU rfl (uX (by rfl) T.z_range (a9 (bu dI (kY uU (hr.mono (by omega)) (pv 0)) ay) (a9 (bu dI (pv 2) ay) ag))) (aR (i:=3) zm.nd rfl (Or.inl rfl)) (aA (dG (pM kD (pv 0) (a9 (pv 3) (a9 (fG (v:=.ref aL) (by rfl) hL rfl) ag))))))
   (aA (aU fO))))),?_⟩
  have hy:=h.y
  walk_at "r"
  refine⟨S,rfl,h.toYardR,?_⟩
  walk_at "r"
  refine kP (fun z=>?_) (fun z=>?_)
  ·have:=fN z
   omega
  ·walk_at "r"
   refine⟨S,rfl,h.toYardR,?_⟩
   walk_at "r"
   refine⟨_,_,rfl,⟨by omega,by omega,by omega,by omega⟩,?_⟩
   have e:((S.n:Int)+x+1 - ((S.n:Int)+1)).toNat=x:=by omega
   rw[e]
   refine h_ (fun i σ' H'=>(∃f',YT CY CD aL H' (gP S f' i)/\c8 (Ft S) (Ft (gP S f' i)) H H')/\∃v,σ'=[some (.ref S.a.y),some (.ref p),some (.int ((S.n:Int)+x)),v]) x ⟨⟨S.f,h,c8.refl⟩,⟨_,rfl⟩⟩ ?_ ?_
   ·rintro σ' H' ⟨⟨f',h',st⟩,v,rfl⟩
    refine⟨aG _,?_⟩
    walk_at "r"
    exact k f' H' h' st
   ·rintro i σ' H' hi ⟨⟨f',h',st⟩,v,rfl⟩
    refine⟨hi,?_⟩
    have hy':H' S.a.y=some (.ins CY S.a.dx (yF S.most S.day S.a.dl S.a.dc S.a.de S.a.db)):=h'.y
    rintro x' H2 ⟨rfl,rfl⟩
    walk_at "r"
    refine⟨gP S f' i,S.n+i,aL,none,?_,h',rfl,.inr ⟨rfl,rfl,by show S.n+i<60;omega⟩,by show S.k+i<9000;omega,fun f2 H3 h3 st3 _=>?_⟩
    ·rw[show(((S.n+i:Nat):Int)+1)=(S.n:Int)+1+i by omega];rfl
    ·rw[OX pn]at h3 st3
     walk_at "r"
     exact⟨⟨f2,h3,st.trans st3⟩,⟨_,rfl⟩⟩
theorem jt.lent{H H':Hp}{S:YP}{ob:List (aT×V)}{c:Int}(h:YT CY CD aL H S)(e1:H' S.a.db=some (.ins CD S.a.ddx (dF S.a.dn S.a.dt c)))(e2:H' S.a.dn=some (.dK ob))(u:Fh S.a.db S.a.dn H H'):YT CY CD aL H' {S with ob:=ob,cn:=c}:=by
 obtain⟨_,_,d2,_,_,d5,_,d7,_,d9⟩:=qI h.dd
 have nb:HO.ins CY S.a.dx (yF S.most S.day S.a.dl S.a.dc S.a.de S.a.db)≠ .ins CD S.a.ddx (dF S.a.dn S.a.dt S.cn):=fun z=>by injection z with _ _ z;cases z
 have tk:∀b ys,H b=some (.tup ys)->H' b=some (.tup ys):=fun b ys z=>u _ _ (bB z h.b nofun) (bB z h.nm nofun) z
 have lk:∀{b:Addr} {ys:List V},H b=some (.lst ys)->H' b=some (.lst ys):=fun z=>u _ _ (bB z h.b nofun) (bB z h.nm nofun) z
 have w1:=u _ _ (bB h.w h.b nofun) d2 h.w
 have w2:=u _ _ (bB h.we h.b nofun) d7 h.we
 exact⟨⟨u _ _ (bB h.y h.b nb) (bB h.y h.nm nofun) h.y,.of w1,u _ _ (bB h.c h.b nofun) d5 h.c,.of w2,e1,e2,u _ _ (bB h.tm h.b nofun) (Ne.symm d9) h.tm,fun j hj=>(h.ln j hj).keep (fun ys z=>lk z) tk,fun b hb=>⟨(h.ch b hb).1.keep (fun ys z=>lk z) tk,(h.ch b hb).2⟩,h.n60,h.b8,h.nd⟩,w1,w2,h.dd,h.fi,h.gi,h.fg⟩
noncomputable def zo(CY CD aL:Addr):Sp:=fun vs H Q _=>∃(S:YP) (p:Addr) (nm c x:Int),vs=[.ref S.a.y,.ref p]/\YT CY CD aL H S/\H p=some (.tup [.str "lend",.int nm,.int c])/\nm∈S.nms/\S.ob.length<100/\b7 S.ob (.inl nm)=some (.int x)/\∀H',YT CY CD aL H' {S with ob:=br S.ob (.inl nm) (.int (x+c)),cn:=S.cn+c}->c8 (Ft S) (Ft S) H H'->Q (.str "good") H'
abbrev zp:Stmt:=bf 77
theorem uk:a_ ["yard","fact","word","name","coins"] ["yard","fact"] (aC zp):=bc
theorem OZ{f:Addr}{fd:FuncData}(F:aX K "enter_lend" "enter_lend" zp f fd)(Y:gO K CY)(oV:cW P w K mg base CY "is_afloat" 1 ["self","name"] (uc CY CD aL))(Aw:cW P w K mg base CD "lend" 1 ["self","name","coins"] (yC CD)):aK P w K mg base aV 3 f fd ["yard","fact"] (zo CY CD aL):=by
 obtain⟨hc,n1,n2,n3,n4,n5,n6⟩:=Y
 refine F.ok uk (fun vs H Q E h=>?_) (fun aM A outer s H vs Q E hr h=>?_)
 ·obtain⟨_,_,_,_,_,rfl,_⟩:=h
  rfl
 ·obtain⟨S,p,nm,c,x,rfl,h,hp,hn,ho,hv,k⟩:=h
  refine⟨_,(aF (iU (pv 1) (fV (K:=K) (n:=3) rfl rfl (bW (aR (i:=2) uk.nd rfl (Or.inl rfl)) (bW (aR (i:=3) uk.nd rfl (Or.inl rfl)) (bW (aR (i:=4) uk.nd rfl (Or.inl rfl)) fw)))))
   (aF (bQ (eJ (dX (pM oV (pv 0) (a9 (pv 3) ag)))) (aA (aU fO)) bU)
   (aF (dG (pM Aw (cC (K:=K) rfl (pv 0)) (a9 (pv 3) (a9 (pv 4) ag))))
   (aA (aU fO))))),?_⟩
  have hy:=h.y
  have hb:=h.b
  walk_at "r"
  refine⟨S,nm,rfl,h.toYardR,hn,?_⟩
  walk_at "r"
  refine bj ?_
  walk_at "r"
  refine⟨S.a.db,S.a.ddx,S.a.dn,S.a.dt,S.cn,S.ob,nm,c,x,rfl,h.b,h.nm,ho,hv,fun H' e1 e2 u=>?_⟩
  walk_at "r"
  exact k _ (h.lent e1 e2 u) ⟨fun b v n z=>u b v (fun c=>n (.inr (.inr (.inr (.inr (.inl c)))))) (fun c=>n (.inr (.inr (.inr (.inr (.inr (.inl c))))))) z,fun b z=>.inl z⟩
theorem Fp{S:YP}{p:Addr}{bn:List Bt}{H1:Hp}{Fin:List V->Hp->Prop}(h:YR CY CD aL H1 S)(hp:H1 p=some (.tup ((bn.map (·.nm)).map V.int)))(hb:∀b∈bn,b∈S.bs)(hl:(bn.map Bt.now).flatten.length<1000)(fin:∀H',aw H1 H'->Fin ((bn.map Bt.now).flatten.map V.int) H'):
  nJ (kH K p) (dH 0) hV (rC K (jL CY "boat" (kc CY CD aL) [] E0 (dq 2) (kK (dq 0) iV))) (dH 1) hV (dq 1) Fin [none,none,some (.ref S.a.y)] H1:=by
 refine vK (fun i ys σ' H'=>(∃x y,σ'=[x,y,some (.ref S.a.y)])/\aw H1 H'/\ys=(((bn.map Bt.now).take i).flatten).map V.int) bn.length ⟨⟨none,none,rfl⟩,aw.refl _,rfl⟩ ?_ ?_
 ·rintro ys σ' H' ⟨_,s,rfl⟩
  rw[gn (by rw[ar];exact aG _)]
  exact⟨⟨_,ax.of (s _ _ hp),by rw[ar,ar];exact aG _⟩,fin _ s⟩
 ·rintro i ys σ' H' hi ⟨⟨x,y,rfl⟩,s,rfl⟩
  have e1:bn[i]?=some bn[i]:=aN hi
  have hp':=s _ _ hp
  refine⟨⟨_,.int bn[i].nm,ax.of hp',by rw[aI,aI,e1];rfl⟩,?_⟩
  have hi':=hi
  have h':=h.same s
  rintro x' G ⟨rfl,hy⟩
  have ex:=hy _ (ax.of hp')
  rw[aI,aI,e1]at ex
  cases ex
  have hy':=h'.y
  have et:(bn.map Bt.now).take (i+1)=(bn.map Bt.now).take i++[bn[i].now]:=by rw[gu,aI,e1];rfl
  have lf:(((bn.map Bt.now).take i).flatten).length+bn[i].now.length<=(bn.map Bt.now).flatten.length:=by
   have:(bn.map Bt.now).flatten=((bn.map Bt.now).take (i+1)).flatten++((bn.map Bt.now).drop (i+1)).flatten:=by rw[<-mW,Gc]
   rw[this,et,mW,bF,bF]
   simp only[zV,z_,gW]
   omega
  refine fU ?_
  refine mm ?_
  refine ba ?_
  walk_at "r"
  refine⟨S,bn[i],rfl,h',hb _ (gT hi),fun l H2 s2 _ hl2=>?_⟩
  walk_at "r"
  refine⟨l,rfl,⟨_,ai.of hl2⟩,?_⟩
  refine vJ (fun j ys σ' H'=>(∃y,σ'=[some (.int bn[i].nm),y,some (.ref S.a.y)])/\H'=H2/\ys=(((bn.map Bt.now).take i).flatten++bn[i].now.take j).map V.int) bn[i].now.length ⟨⟨_,rfl⟩,rfl,by rw[uL,gW]⟩ ?_ ?_
  ·rintro ys σ' H' ⟨⟨y,rfl⟩,rfl,rfl⟩
   refine⟨⟨_,ai.of hl2,by rw[ar];exact aG _⟩,?_⟩
   refine cY hi ⟨⟨_,_,rfl⟩,s.trans s2,?_⟩
   rw[jy,et,mW]
   simp only[zV,z_,gW]
  ·rintro j ys σ' H' hj ⟨⟨y,rfl⟩,rfl,rfl⟩
   have f1:bn[i].now[j]?=some bn[i].now[j]:=aN hj
   refine⟨⟨_,.int bn[i].now[j],ai.of hl2,by rw[aI,f1];rfl⟩,cL (show _<1000 by rw[ar,bF,e9];omega) (by decide),?_⟩
   rintro x' G' ⟨rfl,hy⟩
   have ex:=hy _ (ai.of hl2)
   rw[aI,f1]at ex
   cases ex
   refine fU ?_
   refine mm ?_
   refine ba ?_
   refine du rfl ?_
   refine cY hj ⟨⟨_,rfl⟩,rfl,?_⟩
   rw[gu,f1]
   simp only[cF,oB,cG,List.map_nil,km]
theorem O_{S:YP}{rs:List Int}(h:bH rs (j3 S))(n60:S.n<=60):rs.length<=60:=by
 have:=h.le (ns:=(List.range S.n).map fun i:Nat=>(i:Int)+1) fun x ⟨i,hi,e,_⟩=>Qd.mpr ⟨i,FW.mpr hi,e.symm⟩
 rw[ar,iR]at this
 omega
noncomputable def zq(CY CD aL:Addr):Sp:=fun vs H Q _=>∃(S:YP) (a b:Addr) (bn:List Bt) (aj:List (List Int)),vs=[.ref S.a.y,.ref a,.ref b]/\YT CY CD aL H S/\H a=some (.tup ((bn.map (·.nm)).map V.int))/\k7 H b aj/\(∀x∈bn,x∈S.bs)/\bn.length<=8/\(bn.map Bt.now).flatten.length<400/\aj.flatten.length<400/\aj.length<=8/\(∀t∈aj.flatten,j3 S t\/t∈(bn.map Bt.now).flatten)/\S.bs.length+aj.length<=8+bn.length/\∀H',aw H H'->Q (.str "good") H'
abbrev oi:Stmt:=bf 71
abbrev uo:List Str:=["yard","names","sets","afloat","at_hand"]
theorem zr:a_ uo ["yard","names","sets"] (aC oi):=bc
theorem P0:(["name","afloat"]:List Str).Nodup:=by decide+kernel
theorem P1:bE uo (aC oi) (cS [("name",kL),("afloat",kF)]) ["name"] [(3,"afloat")]:=cg
theorem Fq:(["name","timber","yard"]:List Str).Nodup:=by decide+kernel
theorem P2:bE uo (aC oi) (cS [("name",kL),("timber",kL),("yard",kF)]) ["name","timber"] [(0,"yard")]:=cg
theorem Fs:(["timbers","timber","at_hand"]:List Str).Nodup:=by decide+kernel
theorem P3:bE uo (aC oi) (cS [("timbers",kL),("timber",kL),("at_hand",kF)]) ["timbers","timber"] [(4,"at_hand")]:=cg
theorem P4{f:Addr}{fd:FuncData}(F:aX K "refit_word" "refit_word" oi f fd)(T:bG mg){t2:Tok}(hMB:mg "MOST_BOATS"=some (.int 8 t2))(lY:cW P w K mg base CY "boats" 1 ["self"] (ud CY CD aL))(oX:cW P w K mg base CY "loose" 3 ["self"] (ug CY CD aL))(gx:cW P w K mg base CY "boat" 2 ["self","name"] (kc CY CD aL)):aK P w K mg base aV 4 f fd ["yard","names","sets"] (zq CY CD aL):=by
 refine F.ok zr (fun vs H Q E h=>?_) (fun aM A outer s H vs Q E hr h=>?_)
 ·obtain⟨_,_,_,_,_,rfl,_⟩:=h
  rfl
 ·obtain⟨S,a,b,bn,aj,rfl,h,ha,⟨ts,hb,hts⟩,hm,l8,lf,lg,ls,hat,l88,k⟩:=h
  refine⟨_,(aF (bR (i:=3) zr.nd rfl (Or.inr rfl) (kY lY (hr.mono (by omega)) (pv 0)))
   (aF (bQ (eJ (dX (bp (iX (K:=K) rfl rfl) (by rfl) T.z_all iW (a9 (eL rfl P1 (fo (K:=K) rfl (pv 1)) (by intro _ _ _ _ _;exact(aR (i:=0) P0 rfl (Or.inl rfl))) (by intro _ _ _ _ _;exact cH) (by intro _ _ _ _ _;exact(fP (Co (K:=K) rfl) (pv 0) (pv 1) (by with_unfolding_all rfl)))) ag)))) (aA (aU fO)) bU)
   (aF (bR (i:=4) zr.nd rfl (Or.inr rfl) (bu nG (kY oX (hr.mono (by omega)) (pv 0)) (pQ rfl P2 (fo (K:=K) rfl (pv 1)) (by intro _ _ _ _ _;exact(aR (i:=0) Fq rfl (Or.inl rfl))) (by intro _ _ _ _ _;exact cH) (by intro _ _ _ _ _;exact(pv 1)) (by intro _ _ _ _ _;exact(fm (K:=K) rfl (pM gx (pv 2) (a9 (pv 0) ag)))) (by intro _ _ _ _ _;exact(aR (i:=1) Fq rfl (Or.inl rfl))) (by intro _ _ _ _ _;exact cH))))
   (aF (bQ (eJ (dX (bp (iX (K:=K) rfl rfl) (by rfl) T.z_all iW (a9 (pQ rfl P3 (fo (K:=K) rfl (pv 2)) (by intro _ _ _ _ _;exact(aR (i:=0) Fs rfl (Or.inl rfl))) (by intro _ _ _ _ _;exact cH) (by intro _ _ _ _ _;exact(fP (Co (K:=K) rfl) (pv 1) (pv 2) (by with_unfolding_all rfl))) (by intro _ _ _ _ _;exact(fo (K:=K) rfl (pv 0))) (by intro _ _ _ _ _;exact(aR (i:=1) Fs rfl (Or.inl rfl))) (by intro _ _ _ _ _;exact cH)) ag)))) (aA (aU fO)) bU)
   (aF (bQ (c7 ia (bu dI (bu v5 (bp (cQ (K:=K) rfl) (by rfl) T.z_len cB (a9 (pv 3) ag)) (bp (cQ (K:=K) rfl) (by rfl) T.z_len cB (a9 (pv 1) ag))) (bp (cQ (K:=K) rfl) (by rfl) T.z_len cB (a9 (pv 2) ag))) (fG (v:=.int 8) (by rfl) hMB ⟨_,rfl⟩) (bO _)) (aA (aU fO)) bU)
   (aA (aU fO))))))),?_⟩
  have hy:=h.y
  walk_at "r"
  refine⟨S,rfl,h,fun l H1 rs s1 _ hl pr _=>?_⟩
  have h1:=h.same s1
  have hy1:=h1.y
  have ha1:=s1 _ _ ha
  walk_at "r"
  refine⟨a,rfl,⟨_,ax.of ha1⟩,?_⟩
  refine qB ha1 (by rw[ar,ar];omega) (fun x H' R hx s' q=>?_) fun H2 s2 D hD=>?_
  ·obtain⟨y,hy,rfl⟩:=Qd.mp hx
   walk_at "r"
   refine Dj (ai.of (s' _ _ hl)) ?_
   obtain⟨c,hc,rfl⟩:=Qd.mp hy
   rw[bZ (pr.mem_iff.mpr (Qd.mpr ⟨c,hm c hc,rfl⟩))]
   exact q _ s'
  have s3:=s2.trans (au (o:=.lst ((List.replicate ((bn.map (·.nm)).map V.int).length true).map V.bl)) hD)
  walk_at "r"
  refine⟨D,_,rfl,ai.of aq,?_⟩
  generalize ab H2 D (.lst ((List.replicate ((bn.map (·.nm)).map V.int).length true).map V.bl))=H3 at s3⊢
  rw[oa]
  walk_at "r"
  refine bj ?_
  have h3:=h1.same s3
  have hy3:=h3.y
  walk_at "r"
  refine⟨S,rfl,h3,fun l4 H4 r4 s4 _ hl4 hR=>?_⟩
  have h4:=h3.same s4
  have hy4:=h4.y
  have ha4:=s4 _ _ (s3 _ _ ha1)
  walk_at "r"
  refine⟨a,rfl,⟨_,ax.of ha4⟩,?_⟩
  refine Fp h4.toYardR ha4 hm (by omega) fun H5 s5 D5 hD5=>?_
  have s6:=s5.trans (au (o:=.lst ((bn.map Bt.now).flatten.map V.int)) hD5)
  have eD:ab H5 D5 (.lst ((bn.map Bt.now).flatten.map V.int)) D5=_:=aq
  generalize ab H5 D5 (.lst ((bn.map Bt.now).flatten.map V.int))=H6 at s6 eD⊢
  have l60:=O_ hR h.n60
  refine nR (s6 _ _ hl4) eD (uO (gI (by rw[ar,ar];omega))) fun q hq=>?_
  rw[<-cF]
  have s7:=s6.trans (au (o:=.lst ((r4++(bn.map Bt.now).flatten).map V.int)) hq)
  have eq:ab H6 q (.lst ((r4++(bn.map Bt.now).flatten).map V.int)) q=_:=aq
  generalize ab H6 q (.lst ((r4++(bn.map Bt.now).flatten).map V.int))=H7 at s7 eq⊢
  have s37:=s3.trans (s4.trans s7)
  have s17:=s1.trans s37
  walk_at "r"
  refine⟨b,rfl,⟨_,ax.of (s17 _ _ hb)⟩,?_⟩
  refine F8 (φ:=fun _=>.bl true) (s17 _ _ hb) (hts.same s17) (by omega) (fun z hz x R q9=>?_) fun D8 hD8=>?_
  ·walk_at "r"
   refine Dj (ai.of eq) ?_
   have:z∈r4++(bn.map Bt.now).flatten:=by
    rcases hat z hz with y|y
    ·exact iu.mpr (.inl ((hR.2 z).mpr y))
    ·exact iu.mpr (.inr y)
   rw[bZ this]
   exact q9
  rw[show aj.flatten.map (fun _=>V.bl true)=(List.replicate aj.flatten.length true).map V.bl by rw[List.map_const',List.map_replicate]]at*
  have s9:=s37.trans (au (o:=.lst ((List.replicate aj.flatten.length true).map V.bl)) hD8)
  have e8:ab H7 D8 (.lst ((List.replicate aj.flatten.length true).map V.bl)) D8=_:=aq
  generalize ab H7 D8 (.lst ((List.replicate aj.flatten.length true).map V.bl))=H8 at s9 e8⊢
  have s8:=s1.trans s9
  walk_at "r"
  refine⟨D8,_,rfl,ai.of e8,?_⟩
  rw[oa]
  walk_at "r"
  refine bj ?_
  have f1:=s8 _ _ ha
  have f2:=s8 _ _ hb
  have f3:=s9 _ _ hl
  walk_at "r"
  refine qF (cz ?_) ?_
  ·have e1:=pr.length_eq
   have e2:=hts.1
   rw[ar]at e1
   simp only[ar]
   omega
  walk_at "r"
  exact k _ s8
noncomputable def oj(H:Hp)(ts:List Addr)(fl:List (List Int)):Prop:=ts.length=fl.length/\∀(i:Nat) t ns,ts[i]?=some t->fl[i]?=some ns->H t=some (.lst (ns.map V.int))
theorem oj.snoc{H:Hp}{ts:List Addr}{fl:List (List Int)}{t:Addr}{ns:List Int}(h:oj H ts fl)(ht:H t=some (.lst (ns.map V.int))):oj H (ts++[t]) (fl++[ns]):=by
 refine⟨by simp[h.1],fun i t' p' e1 e2=>?_⟩
 rcases dh i ts.length with q|q
 ·rw[eZ q]at e1
  rw[eZ (by rw[<-h.1];exact q)]at e2
  exact h.2 i t' p' e1 e2
 ·rw[dY q]at e1
  rw[dY (by rw[<-h.1];exact q),<-h.1]at e2
  cases hi:i - ts.length with
  |zero=>rw[hi]at e1 e2;cases e1;cases e2;exact ht
  |succ j=>rw[hi]at e1;simp at e1
theorem Fu{p:Addr}{xs:List V}{fl:List (List Int)}{te:TE}{fr:St}{H1:Hp}{Fin:List V->Hp->Prop}(hp:H1 p=some (.tup xs))(e:xs.length=fl.length)(l8:fl.length<=100)
  (step:∀(i:Nat) (x:V) (ns:List Int) H' (R:VK),xs[i]?=some x->fl[i]?=some ns->aw H1 H'->(∀l H3,aw H' H3->H3 l=some (.lst (ns.map V.int))->R (.ref l) H3)->te (some x::fr) H' R) (fin:∀H' ts,aw H1 H'->oj H' ts fl->Fin (ts.map V.ref) H'):ic (kH K p) (dH 0) hV te Fin (none::fr) H1:=by
 refine ji (fun i ys σ' H'=>(∃x,σ'=x::fr)/\aw H1 H'/\∃ts,ys=ts.map V.ref/\oj H' ts (fl.take i)) fl.length ⟨⟨none,rfl⟩,aw.refl _,[],rfl,rfl,nofun⟩ ?_ ?_
 ·rintro ys σ' H' ⟨_,s1,ts,rfl,hl⟩
  rw[gn (aG _)]at hl
  exact⟨⟨_,ax.of (s1 _ _ hp),by omega⟩,fin _ _ s1 hl⟩
 ·rintro i ys σ' H' hi ⟨⟨x,rfl⟩,s1,ts,rfl,hl⟩
  have e1:xs[i]?=some (xs[i]'(by omega)):=aN (by omega)
  have e2:fl[i]?=some fl[i]:=aN hi
  have hp':=s1 _ _ hp
  refine⟨⟨_,_,ax.of hp',e1⟩,gI (by rw[ar,hl.1,e9];omega),?_⟩
  rintro x' G ⟨rfl,hy⟩
  have ex:=hy _ (ax.of hp')
  rw[e1]at ex
  cases ex
  refine fU ?_
  refine mm ?_
  refine ba ?_
  refine step i _ _ _ _ e1 e2 s1 fun l H3 s3 hl3=>cY hi ⟨⟨_,rfl⟩,s1.trans s3,ts++[l],by rw[cF];rfl,?_⟩
  rw[gu,e2]
  exact oj.snoc ⟨hl.1,fun i t ns z1 z2=>s3 _ _ (hl.2 i t ns z1 z2)⟩ hl3
noncomputable def lH(ns:List Int)(ps:List (Nat×Nat)):List (aT×V):=ps.foldl (fun k p=>br k (.inl (p.2:Int)) (.int (ns.getD p.1 0))) []
theorem P5(ns:List Int)(ps:List (Nat×Nat)):∀k:List (aT×V),(ps.foldl (fun k p=>br k (.inl (p.2:Int)) (.int (ns.getD p.1 0))) k).length<=k.length+ps.length:=by
 induction ps with
 |nil=>intro k;exact aG _
 |cons p r ih=>intro k;have:=ih (br k (.inl (p.2:Int)) (.int (ns.getD p.1 0)));have:=qf k (.inl (p.2:Int)) (.int (ns.getD p.1 0));simp only[List.foldl_cons,cM];omega
theorem P6(ns:List Int)(ps:List (Nat×Nat))(p:Nat×Nat):lH ns (ps++[p])=br (lH ns ps) (.inl (p.2:Int)) (.int (ns.getD p.1 0)):=by
 unfold lH;rw[List.foldl_append];rfl
noncomputable def lI(day:Int)(ns:List Int)(ps:List (Nat×Nat))(m:Nat):List V:=(List.range m).map fun j:Nat=>(b7 (lH ns ps) (.inl (j:Int))).getD (.int (10*day+j))
theorem qJ{day:Int}{ns:List Int}{ps:List (Nat×Nat)}{m:Nat}:(lI day ns ps m).length=m:=by unfold lI;rw[ar,iR]
noncomputable def zt(CY CD aL:Addr):Sp:=fun vs H Q _=>∃(S:YP) (a b:Addr) (bn:List Bt) (aj:List (List Int)),vs=[.ref S.a.y,.ref a,.ref b]/\YT CY CD aL H S/\H a=some (.tup ((bn.map (·.nm)).map V.int))/\k7 H b aj/\(∀x∈bn,x∈S.bs)/\bn.length<=8/\((bn.map Bt.now).map List.length).sum<64/\(aj.map List.length).sum<64/\aj.length<=8/\il (bn.map Bt.now)=true/\il aj=true/\(∀p∈jo (bn.map Bt.now) aj,p.1<bn.length)/\(jo (bn.map Bt.now) aj).length<=64/\∀l H',aw H H'->H l=none->H' l=some (.lst (lI S.day (bn.map (·.nm)) (jo (bn.map Bt.now) aj) aj.length))->Q (.ref l) H'
abbrev mR:Stmt:=bf 72
abbrev qK:List Str:=["yard","names","sets","ahead","going"]
theorem zu:a_ qK ["yard","names","sets"] (aC mR):=bc
theorem P7:(["name","yard"]:List Str).Nodup:=by decide+kernel
theorem P8:bE qK (aC mR) (cS [("name",kL),("yard",kF)]) ["name"] [(0,"yard")]:=cg
theorem P9:(["timbers"]:List Str).Nodup:=by decide+kernel
theorem Pa:bE qK (aC mR) (cS [("timbers",kL),("list",kG)]) ["timbers"] []:=cg
theorem Fv:(["at","to","names"]:List Str).Nodup:=by decide+kernel
theorem Pb:bE qK (aC mR) (cS [("at",kL),("to",kL),("names",kF)]) ["at","to"] [(1,"names")]:=cg
theorem Pc:(["place","yard","going"]:List Str).Nodup:=by decide+kernel
theorem Pd:bE qK (aC mR) (cS [("place",kL),("name_of",kG),("going",kF),("yard",kF)]) ["place"] [(0,"yard"),(4,"going")]:=cg
theorem Pe{f:Addr}{fd:FuncData}(F:aX K "names_behind" "names_behind" mR f fd)(T:bG mg)(Y:gO K CY)(gx:cW P w K mg base CY "boat" 2 ["self","name"] (kc CY CD aL))(Ax:aY P w K mg base "paired" 3 ["ahead","behind"] xY)(n9:aY P w K mg base "name_of" 1 ["day","place"] tZ):aK P w K mg base aV 4 f fd ["yard","names","sets"] (zt CY CD aL):=by
 obtain⟨hc,n1,n2,n3,n4,n5,n6⟩:=Y
 refine F.ok zu (fun vs H Q E h=>?_) (fun aM A outer s H vs Q E hr h=>?_)
 ·obtain⟨_,_,_,_,_,rfl,_⟩:=h
  rfl
 ·obtain⟨S,a,b,bn,aj,rfl,h,ha,⟨tb,hb,htb⟩,hm,l8,sa,sb,ls,fa,fb,pi,pl,k⟩:=h
  refine⟨_,(aF (kR (iy:=3) rfl zu.nd rfl rfl P8 (fo (K:=K) rfl (pv 1)) (by intro _ _ _ _ _;exact(aR (i:=0) P7 rfl (Or.inl rfl))) (by intro _ _ _ _ _;exact cH) (by intro _ _ _ _ _;exact(pM gx (pv 1) (a9 (pv 0) ag))) (by rfl))
   (aF (bR (i:=4) zu.nd rfl (Or.inr rfl) (Lq rfl Pb (fm (K:=K) rfl (pC Ax (a9 (pv 3) (a9 (eL rfl Pa (fo (K:=K) rfl (pv 2)) (by intro _ _ _ _ _;exact(aR (i:=0) P9 rfl (Or.inl rfl))) (by intro _ _ _ _ _;exact cH) (by intro _ _ _ _ _;exact(dJ (nM (K:=K) rfl) (by rfl) T.z_list mh (a9 (pv 0) ag)))) ag)))) (by intro _ _ _ _ _;exact(fV (K:=K) (n:=2) rfl rfl (bW (aR (i:=0) Fv rfl (Or.inl rfl)) (bW (aR (i:=1) Fv rfl (Or.inl rfl)) fw)))) (by intro _ _ _ _ _;exact(pv 1)) (by intro _ _ _ _ _;exact(cp (fk (K:=K) rfl) (pv 2) (pv 0) (fun _ _=>rfl)))))
   (aA (aU (eL rfl Pd (nj (by rfl) T.z_range (a9 (bp (cQ (K:=K) rfl) (by rfl) T.z_len cB (a9 (pv 2) ag)) ag)) (by intro _ _ _ _ _;exact(aR (i:=0) Pc rfl (Or.inl rfl))) (by intro _ _ _ _ _;exact cH) (by intro _ _ _ _ _;exact(sW (fq hr.units) (pv 2) (pv 0) (pC n9 (a9 (cC (K:=K) rfl (pv 1)) (a9 (pv 0) ag))) ⟨rfl,rfl,rfl,rfl⟩))))))),?_⟩
  have hy:=h.y
  walk_at "r"
  refine⟨a,rfl,⟨_,ax.of ha⟩,?_⟩
  refine Fu ha (by simp) (fl:=bn.map Bt.now) (by rw[ar];omega) (fun i x ns H' R e1 e2 s' q=>?_) fun H1 ts s1 hts D hD=>?_
  ·rw[aI,aI]at e1
   rw[aI]at e2
   cases e:bn[i]? with
   |none=>rw[e]at e1;cases e1
   |some c=>
    rw[e]at e1 e2
    cases e1;cases e2
    have hy':=s' _ _ hy
    walk_at "r"
    exact⟨S,c,rfl,h.toYardR.same s',hm c (dE e),fun l H2 s2 _ hl2=>q l H2 s2 hl2⟩
  have s2:=s1.trans (au (o:=.lst (ts.map V.ref)) hD)
  have f2:lC (ab H1 D (.lst (ts.map V.ref))) D (bn.map Bt.now):=⟨ts,aq,hts.1,fun i t ns e1 e2=>au hD _ _ (hts.2 i t ns e1 e2)⟩
  generalize ab H1 D (.lst (ts.map V.ref))=H2 at s2 f2⊢
  have hb2:=s2 _ _ hb
  walk_at "r"
  refine Lr ?_
  walk_at "r"
  refine⟨b,rfl,⟨_,ax.of hb2⟩,?_⟩
  refine Fu (fl:=aj) hb2 (by rw[ar];exact htb.1) (by omega) (fun i x ns H' R e1 e2 s' q=>?_) fun H3 us s3 hus D3 hD3=>?_
  ·rw[aI]at e1
   cases e:tb[i]? with
   |none=>rw[e]at e1;cases e1
   |some t=>
    rw[e]at e1
    cases e1
    have ht:=s' _ _ (s2 _ _ (htb.2 i t ns e e2))
    walk_at "r"
    exact DA (.inr (ax.of ht)) fun l hl=>q l _ (au hl) aq
  have s4:=s3.trans (au (o:=.lst (us.map V.ref)) hD3)
  have f4:lC (ab H3 D3 (.lst (us.map V.ref))) D3 aj:=⟨us,aq,hus.1,fun i t ns e1 e2=>au hD3 _ _ (hus.2 i t ns e1 e2)⟩
  generalize ab H3 D3 (.lst (us.map V.ref))=H4 at s4 f4⊢
  walk_at "r"
  refine⟨D,D3,bn.map Bt.now,aj,rfl,f2.same s4,f4,sa,sb,by rw[ar];omega,by omega,fa,fb,fun l H5 qs s5 _ hl5 hp5=>?_⟩
  have s15:=s2.trans (s4.trans s5)
  walk_at "r"
  refine⟨l,rfl,⟨_,ai.of hl5⟩,?_⟩
  intro D6 hD6
  have ha5:=s15 _ _ ha
  generalize jo (bn.map Bt.now) aj=ps at*
  refine Ls (fun i σ' H'=>(∃x y,σ'=[x,y,some (.ref a)])/\aw H5 H'/\H' D6=some (.dK (lH (bn.map (·.nm)) (ps.take i)))) ps.length ⟨⟨none,none,rfl⟩,au hD6,aq⟩ ?_ ?_
  ·rintro σ' H6 ⟨_,s6,e6⟩
   refine⟨⟨_,ai.of (s6 _ _ hl5),by rw[ar];exact uP hp5.1⟩,?_⟩
   rw[gn (aG _)]at e6
   have hb6:=s6 _ _ (s15 _ _ hb)
   have hy6:=s6 _ _ (s15 _ _ hy)
   walk_at "r"
   have el:((tb.map V.ref).length:Int).toNat=aj.length:=by rw[ar];have:=htb.1;omega
   refine⟨_,rfl,by omega,by rw[ar];have:=htb.1;omega,?_⟩
   rw[el]
   refine iM (ws:=lI S.day (bn.map (·.nm)) ps aj.length) (fun σ=>∃x,σ=[x,some (.ref S.a.y),some (.ref D6)]) ⟨none,rfl⟩ (by rw[qJ];omega) (fun H' _=>by rw[qJ];exact aG _) (fun i H' hi _=>by rw[qJ]at hi;exact hi) ?_ fun H7 s7 D7 hD7=>k _ _ (s15.trans (s6.trans (s7.trans (au hD7)))) ((s15.trans (s6.trans s7)).free hD7) aq
   rintro i v x σ' H7 H8 R R0 ew ⟨y,rfl⟩ s7 ⟨rfl,rfl⟩ q
   have hy7:=s7 _ _ hy6
   have e7:=s7 _ _ e6
   walk_at "r"
   refine ba ?_
   walk_at "r"
   refine⟨D6,rfl,mE (.of e7),?_⟩
   walk_at "r"
   refine⟨S.day,0+(i:Int),rfl,?_⟩
   refine⟨_,gf (k:=.inl (0+(i:Int))) (.of e7),?_⟩
   have hi:i<aj.length:=by
    have:=(Qr.mp ew).1
    rw[qJ]at this
    exact this
   have ev:v=(b7 (lH (bn.map (·.nm)) ps) (.inl (i:Int))).getD (.int (10*S.day+i)):=by
    unfold lI at ew
    rw[aI,uC hi]at ew
    exact(cm ew).symm
   rw[uQ,<-ev]
   exact q _ _ ⟨_,rfl⟩ s7
  ·rintro i σ' H6 hi ⟨⟨x,y,rfl⟩,s6,e6⟩
   have hi2:i<qs.length:=by have:=hp5.1;omega
   have e1:qs[i]?=some qs[i]:=aN hi2
   have e2:ps[i]?=some ps[i]:=aN hi
   have hq:=s6 _ _ (hp5.2 i _ _ e1 e2)
   have hl6:=s6 _ _ hl5
   have ha6:=s6 _ _ ha5
   refine⟨⟨_,.ref qs[i],ai.of hl6,by rw[aI,e1];rfl⟩,?_⟩
   rintro x' G ⟨rfl,hy'⟩
   have ex:=hy' _ (ai.of hl6)
   rw[aI,e1]at ex
   cases ex
   walk_at "r"
   have hpi:=pi _ (gT hi)
   have e3:bn[ps[i].1]?=some bn[ps[i].1]:=aN hpi
   refine pV (ax.of ha6) (v:=.int ((bn.map (·.nm)).getD ps[i].1 0)) (vg ?_) ?_
   ·rw[kg,aI,aI,e3];rfl
   refine⟨_,.inl (ps[i].2:Int),e6,rfl,gI ?_,cY hi ⟨⟨_,_,rfl⟩,?_,?_⟩⟩
   ·have:=P5 (bn.map (·.nm)) (ps.take i) []
    rw[e9]at this
    unfold lH
    simp only[List.length_nil]at this
    omega
   ·exact fun c o z=>by rw[az (bh z hD6)];exact s6 _ _ z
   ·rw[aq,gu,e2]
    show _=some (HO.dK (lH _ (ps.take i++[ps[i]])))
    rw[P6]
noncomputable def Pf(S:YP)(nm:Int)(ns:List Int)(W:YP->Prop):Prop:=(∀y∈ns,1<=y/\y<=S.n)/\S.k<8900/\S.ob.length<100/\∃x,(b7 S.ob (.inl nm)).getD (.int 0)=.int x/\
 ((nm∉S.nms/\S.bs.length<8/\∀l rs,bH rs (fun y=>y∈ns)->W (lG (lF S nm l rs) nm rs x))\/∃b∈S.bs,b.nm=nm/\b.ch.length<400/\¬bH b.now (fun y=>y∈ns)/\∀rs,bH rs (fun y=>y∈ns)->W (lG (mQ S nm rs) nm rs x))
structure qL(S:YP)(bn:List Bt)(aj:List (List Int))(nb:List Int)(W:Nat->YP->Prop):Prop where
 hm:∀x∈bn,x∈S.bs
 l8:bn.length<=8
 sa:((bn.map Bt.now).map List.length).sum<64
 sb:(aj.map List.length).sum<64
 ls:aj.length<=8
 hat:∀t∈aj.flatten,j3 S t\/t∈(bn.map Bt.now).flatten
 l88:S.bs.length+aj.length<=8+bn.length
 fa:il (bn.map Bt.now)=true
 fb:il aj=true
 pi:∀p∈jo (bn.map Bt.now) aj,p.1<bn.length
 pl:(jo (bn.map Bt.now) aj).length<=64
 nv:lI S.day (bn.map (·.nm)) (jo (bn.map Bt.now) aj) aj.length=nb.map V.int
 nn:∀c∈bn,c.nm∈nb
 tm:∀t∈(bn.map Bt.now).flatten,1<=t/\t<=S.n
 k:S.k<8800
 w0:∀ap,bH ap (dN (bn.map Bt.now).flatten aj.flatten)->W 0 (fL S none ap)
 wa:∀j S',W j S'->S'.a=S.a
 ws:∀(j:Nat) S' nm ns,nb[j]?=some nm->aj[j]?=some ns->W j S'->Pf S' nm ns (W (j+1))
noncomputable def zw(CY CD aL:Addr):Sp:=fun vs H Q _=>∃(S:YP) (p a b:Addr) (bn:List Bt) (aj:List (List Int)) (nb:List Int) (W:Nat->YP->Prop),vs=[.ref S.a.y,.ref p]/\YT CY CD aL H S/\H p=some (.tup [.str "refit",.ref a,.ref b])/\H a=some (.tup ((bn.map (·.nm)).map V.int))/\k7 H b aj/\qL S bn aj nb W/\∀S' H',W aj.length S'->YT CY CD aL H' S'->c8 (Ft S) (Ft S') H H'->Q (.str "good") H'
abbrev qM:Stmt:=bf 73
abbrev zx:List Str:=["yard","fact","word","names","sets","told","behind","pulled","name","timber","timbers"]
theorem j4:a_ zx ["yard","fact"] (aC qM):=bc
theorem Fw:(["name","timber","yard"]:List Str).Nodup:=by decide+kernel
theorem Pg:bE zx (aC qM) (cS [("name",kL),("timber",kL),("yard",kF)]) ["name","timber"] [(0,"yard")]:=cg
theorem Fx:(["timbers","timber"]:List Str).Nodup:=by decide+kernel
theorem Ph:bE zx (aC qM) (cS [("timbers",kL),("timber",kL)]) ["timbers","timber"] []:=cg
theorem Pi{f:Addr}{fd:FuncData}(F:aX K "enter_refit" "enter_refit" qM f fd)(T:bG mg)(hL:mg "LOOSE"=some (.ref aL))(Ay:aY P w K mg base "refit_word" 4 ["yard","names","sets"] (zq CY CD aL))(Az:aY P w K mg base "names_behind" 4 ["yard","names","sets"] (zt CY CD aL))(gx:cW P w K mg base CY "boat" 2 ["self","name"] (kc CY CD aL))(kD:cW P w K mg base CY "move" 2 ["self","timber","place"] (qH CY CD aL))(AA:cW P w K mg base CY "launch" 3 ["self","name","timbers"] (zb K CY CD aL))(jE:aY P w K mg base "apart" 1 ["one","other"] (jm K dN)):aK P w K mg base aV 5 f fd ["yard","fact"] (zw CY CD aL):=by
 refine F.ok j4 (fun vs H Q E h=>?_) (fun aM A outer s H vs Q E hr h=>?_)
 ·obtain⟨_,_,_,_,_,_,_,_,rfl,_⟩:=h
  rfl
 ·obtain⟨S,p,a,b,bn,aj,nb,W,rfl,h,hp,ha,hb,R,k⟩:=h
  refine⟨_,(aF (iU (pv 1) (fV (K:=K) (n:=3) rfl rfl (bW (aR (i:=2) j4.nd rfl (Or.inl rfl)) (bW (aR (i:=3) j4.nd rfl (Or.inl rfl)) (bW (aR (i:=4) j4.nd rfl (Or.inl rfl)) fw)))))
   (aF (bR (i:=5) j4.nd rfl (Or.inl rfl) (pC Ay (a9 (pv 0) (a9 (pv 3) (a9 (pv 4) ag)))))
   (aF (bQ (c7 ny (pv 5) fO (bO _)) (aA (aU (pv 5))) bU)
   (aF (bR (i:=6) j4.nd rfl (Or.inl rfl) (pC Az (a9 (pv 0) (a9 (pv 3) (a9 (pv 4) ag)))))
   (aF (Ik (iy:=7) rfl j4.nd rfl rfl Pg (fo (K:=K) rfl (pv 3)) (by intro _ _ _ _ _;exact(aR (i:=0) Fw rfl (Or.inl rfl))) (by intro _ _ _ _ _;exact cH) (by intro _ _ _ _ _;exact(pv 1)) (by intro _ _ _ _ _;exact(fm (K:=K) rfl (pM gx (pv 2) (a9 (pv 0) ag)))) (by intro _ _ _ _ _;exact(aR (i:=1) Fw rfl (Or.inl rfl))) (by intro _ _ _ _ _;exact cH) (by rfl))
   (aF (hU gU rfl (fo (K:=K) rfl (pv 3)) (aR (i:=8) j4.nd rfl (Or.inl rfl)) (aA (bQ (c7 (mn (K:=K) rfl) (pv 8) (pv 6) (by with_unfolding_all rfl)) (aA je) bU)))
   (aF (hU gU rfl (fm (K:=K) rfl (pC jE (a9 (pv 7) (a9 (pQ rfl Ph (fo (K:=K) rfl (pv 4)) (by intro _ _ _ _ _;exact(aR (i:=0) Fx rfl (Or.inl rfl))) (by intro _ _ _ _ _;exact cH) (by intro _ _ _ _ _;exact(pv 1)) (by intro _ _ _ _ _;exact(fo (K:=K) rfl (pv 0))) (by intro _ _ _ _ _;exact(aR (i:=1) Fx rfl (Or.inl rfl))) (by intro _ _ _ _ _;exact cH)) ag)))) (aR (i:=9) j4.nd rfl (Or.inl rfl)) (aA (dG (pM kD (pv 0) (a9 (pv 9) (a9 (fG (v:=.ref aL) (by rfl) hL rfl) ag))))))
   (aF (hU gU rfl (DO (K:=K) rfl (by rfl) T.z_zip (a9 (pv 6) (a9 (pv 4) ag))) (fV (K:=K) (n:=2) rfl rfl (bW (aR (i:=8) j4.nd rfl (Or.inl rfl)) (bW (aR (i:=10) j4.nd rfl (Or.inl rfl)) fw))) (aA (dG (pM AA (pv 0) (a9 (pv 8) (a9 (pv 10) ag))))))
   (aA (aU fO)))))))))),?_⟩
  have hy:=h.y
  have lfa:(bn.map Bt.now).flatten.length<64:=by rw[zS];exact R.sa
  have lfb:aj.flatten.length<64:=by rw[zS];exact R.sb
  walk_at "r"
  refine⟨S,a,b,bn,aj,rfl,h,ha,hb,R.hm,R.l8,by omega,by omega,R.ls,R.hat,R.l88,fun H1 s1=>?_⟩
  walk_at "r"
  refine bj ?_
  walk_at "r"
  refine⟨S,a,b,bn,aj,rfl,h.same s1,s1 _ _ ha,hb.same s1,R.hm,R.l8,R.sa,R.sb,R.ls,R.fa,R.fb,R.pi,R.pl,fun l H2 s2 fl hl=>?_⟩
  rw[R.nv]at hl
  have s12:=s1.trans s2
  have h2:=h.same s12
  have hy2:=h2.y
  have ha2:=s12 _ _ ha
  walk_at "r"
  refine⟨a,rfl,⟨_,ax.of ha2⟩,?_⟩
  refine Fp h2.toYardR ha2 R.hm (by omega) fun H3 s3 D hD=>?_
  have s13:=s12.trans (s3.trans (au (o:=.lst ((bn.map Bt.now).flatten.map V.int)) hD))
  have s23:=s3.trans (au (o:=.lst ((bn.map Bt.now).flatten.map V.int)) hD)
  have eD:ab H3 D (.lst ((bn.map Bt.now).flatten.map V.int)) D=_:=aq
  generalize ab H3 D (.lst ((bn.map Bt.now).flatten.map V.int))=H4 at s13 s23 eD⊢
  have ha4:=s13 _ _ ha
  have hl4:=s23 _ _ hl
  walk_at "r"
  refine⟨a,rfl,⟨_,ax.of ha4⟩,?_⟩
  refine h_ (fun i σ' H'=>(∃y,σ'=[some (.ref S.a.y),some (.ref p),some (.str "refit"),some (.ref a),some (.ref b),some (.str "good"),some (.ref l),some (.ref D),y,none,none])/\H'=H4) bn.length ⟨⟨none,rfl⟩,rfl⟩ ?_ ?_
  ·rintro σ' H' ⟨⟨y,rfl⟩,rfl⟩
   refine⟨⟨_,ax.of ha4,by rw[ar,ar];exact aG _⟩,?_⟩
   obtain⟨tb,hb4,htb⟩:=hb.same s13
   walk_at "r"
   refine⟨b,rfl,⟨_,ax.of hb4⟩,?_⟩
   refine F9 hb4 htb (by omega) fun D5 hD5=>?_
   have s45:=au (o:=.lst (aj.flatten.map V.int)) hD5
   have e5:ab H' D5 (.lst (aj.flatten.map V.int)) D5=_:=aq
   generalize ab H' D5 (.lst (aj.flatten.map V.int))=H5 at s45 e5⊢
   walk_at "r"
   refine⟨D,D5,_,_,rfl,.inl (ai.of (s45 _ _ eD)),.inl (ai.of e5),lfa,lfb,fun l6 H6 ap s56 f6 hl6 hR=>?_⟩
   have s16:=s13.trans (s45.trans s56)
   have h6:=h.same s16
   have hp6:=s16 _ _ hp
   have hb6:=s56 _ _ (s45 _ _ hb4)
   have htb6:=(htb.same s45).same s56
   have hlb6:=s56 _ _ (s45 _ _ hl4)
   have lap:ap.length<64:=eN (hR.le (ns:=(bn.map Bt.now).flatten) fun x z=>z.1) lfa
   have n6:¬Ft S l6:=fun z=>by obtain⟨o,e⟩:=ui (h.same (s13.trans s45)) z;rw[f6]at e;cases e
   have nl:¬Ft S l:=fun z=>by obtain⟨o,e⟩:=ui (h.same s1) z;rw[fl]at e;cases e
   have nb6:=y_ h6 hb6
   walk_at "r"
   refine⟨l6,rfl,⟨_,ai.of hl6⟩,?_⟩
   refine h_ (fun i σ' H'=>(∃y y9,σ'=[some (.ref S.a.y),some (.ref p),some (.str "refit"),some (.ref a),some (.ref b),some (.str "good"),some (.ref l),some (.ref D),y,y9,none])/\YT CY CD aL H' (fL S none (ap.take i))/\c8 (Ft S) (Ft S) H6 H') ap.length ⟨⟨_,_,rfl⟩,by rw[uL,za];exact h6,c8.refl⟩ ?_ ?_
   ·rintro σ' H7 ⟨⟨y,y9,rfl⟩,h7,st7⟩
    refine⟨⟨_,ai.of (st7.1 _ _ n6 hl6),by rw[ar];exact aG _⟩,?_⟩
    rw[jy]at h7
    walk_at "r"
    refine DP ?_
    walk_at "r"
    refine⟨l,b,rfl,_,_,ai.of (st7.1 _ _ nl hlb6),ax.of (st7.1 _ _ nb6 hb6),?_⟩
    have lnb:nb.length=aj.length:=by
     have:=congrArg List.length R.nv
     rw[qJ,ar]at this
     exact this.symm
    have ltb:=htb.1
    refine h_ (fun j σ' H'=>(∃y y9 y10,σ'=[some (.ref S.a.y),some (.ref p),some (.str "refit"),some (.ref a),some (.ref b),some (.str "good"),some (.ref l),some (.ref D),y,y9,y10])/\∃S',W j S'/\YT CY CD aL H' S'/\c8 (Ft S) (Ft S') H6 H') aj.length ⟨⟨_,_,_,rfl⟩,_,R.w0 ap hR,h7,st7⟩ ?_ ?_
    ·rintro σ' H8 ⟨⟨y,y9,y10,rfl⟩,S',w',h8,st8⟩
     refine⟨⟨_,_,ai.of (st8.1 _ _ nl hlb6),ax.of (st8.1 _ _ nb6 hb6),.inl (by rw[ar];omega)⟩,?_⟩
     walk_at "r"
     exact k S' H8 w' h8 ((c8.same s16).trans st8)
    ·rintro j σ' H8 hj ⟨⟨y,y9,y10,rfl⟩,S',w',h8,st8⟩
     have e1:nb[j]?=some (nb[j]'(by omega)):=aN (by omega)
     have e2:tb[j]?=some (tb[j]'(by omega)):=aN (by omega)
     have e3:aj[j]?=some aj[j]:=aN hj
     generalize nb[j]'(by omega)=nm at e1
     generalize tb[j]'(by omega)=t at e2
     have ht:=htb6.2 j _ _ e2 e3
     have ht8:=st8.1 _ _ (y_ h6 ht) ht
     have hl8:=st8.1 _ _ nl hlb6
     have hb8:=st8.1 _ _ nb6 hb6
     refine⟨⟨_,_,.int nm,.ref t,ai.of hl8,ax.of hb8,by rw[aI,e1];rfl,by rw[aI,e2];rfl⟩,?_⟩
     rintro x' G ⟨T',u',v',rfl,hn,rfl,qq⟩
     obtain⟨z1,z2⟩:=qq _ _ (ai.of hl8) (ax.of hb8)
     rw[aI,e1]at z1
     rw[aI,e2]at z2
     cases z1;cases z2
     have sT:=au (o:=.tup [.int nm,.ref t]) hn
     refine ig (ax.of aq) rfl ?_
     generalize ab H8 T' (.tup [.int nm,.ref t])=H9 at sT⊢
     have h9:=h8.same sT
     have ea:=R.wa _ _ w'
     have hy9:=h9.y
     rw[ea]at hy9
     walk_at "r"
     obtain⟨p1,p2,p3,x,p4,p5⟩:=R.ws j S' _ _ e1 e3 w'
     have l64:aj[j].length<64:=eN (List.sublist_flatten_of_mem (gT hj)).length_le lfb
     refine⟨S',nm,t,aj[j],x,by rw[ea];rfl,h9,.inr (ax.of (sT _ _ ht8)),l64,p1,p2,p3,p4,?_⟩
     rcases p5 with⟨q1,q2,q3⟩|⟨c,hc,q0,q1,q2,q3⟩
     ·refine .inl ⟨q1,q2,fun l' H10 rs hr' y' st'=>?_⟩
      walk_at "r"
      exact⟨⟨_,_,_,rfl⟩,_,q3 l' rs hr',y',st8.trans ((c8.same sT).trans st')⟩
     ·refine .inr ⟨c,hc,q0,q1,q2,fun H10 rs hr' y' st'=>?_⟩
      walk_at "r"
      refine⟨⟨_,_,_,rfl⟩,_,q3 rs hr',y',st8.trans ((c8.same sT).trans ?_)⟩
      show c8 (Ft S') (Ft (mQ S' nm rs)) _ _
      rw[Fo]
      exact st'
   ·rintro i σ' H7 hi ⟨⟨y,y9,rfl⟩,h7,st7⟩
    have e1:ap[i]?=some ap[i]:=aN hi
    have hl7:=st7.1 _ _ n6 hl6
    refine⟨⟨_,.int ap[i],ai.of hl7,by rw[aI,e1];rfl⟩,?_⟩
    have hy7:H7 S.a.y=some (.ins CY S.a.dx (yF S.most S.day S.a.dl S.a.dc S.a.de S.a.db)):=h7.y
    rintro x' G ⟨rfl,hy'⟩
    have ex:=hy' _ (ai.of hl7)
    rw[aI,e1]at ex
    cases ex
    obtain⟨j,hj,ej⟩:∃j:Nat,j<S.n/\ap[i]=(j:Int)+1:=by
     have:=R.tm _ ((hR.2 _).mp (gT hi)).1
     exact⟨(ap[i] - 1).toNat,by omega,by omega⟩
    walk_at "r"
    refine⟨fL S none (ap.take i),j,aL,none,by rw[ej];rfl,h7,rfl,.inl hj,by show S.k+(ap.take i).length<9000;rw[e9];have:=R.k;omega,fun f' H8 h8 st8 ef=>?_⟩
    cases ef hj
    rw[show(fL S none (ap.take i)).f=S.f from rfl,Fn hj,<-ej,<-List.take_succ_eq_append_getElem hi]at h8
    rw[uh (S:=fL S none (ap.take i)) hj]at st8
    walk_at "r"
    exact⟨⟨_,_,rfl⟩,h8,st7.trans st8⟩
  ·rintro i σ' H' hi ⟨⟨y,rfl⟩,rfl⟩
   have e1:bn[i]?=some bn[i]:=aN hi
   refine⟨⟨_,.int bn[i].nm,ax.of ha4,by rw[aI,aI,e1];rfl⟩,?_⟩
   rintro x' G ⟨rfl,hy⟩
   have ex:=hy _ (ax.of ha4)
   rw[aI,aI,e1]at ex
   cases ex
   walk_at "r"
   refine mx (ai.of hl4) ?_
   rw[bZ (show bn[i].nm∈nb from R.nn _ (gT hi))]
   refine⟨_,rfl,bj ?_⟩
   walk_at "r"
   exact⟨⟨_,rfl⟩,rfl⟩
noncomputable def qN(f1 f2 f3 f4 f5 f6 f7:Addr):List (Str×Addr):=[("fell",f1),("refit",f2),("storm",f3),("find",f4),("lend",f5),("pay",f6),("clear",f7)]
section
variable{f1 f2 f3 f4 f5 f6 f7:Addr}
theorem Pj:PyProof.Rows.KTD.datumAt ("fell":Str) (qN f1 f2 f3 f4 f5 f6 f7)=some f1:=by kernel_rfl
theorem Pk:PyProof.Rows.KTD.datumAt ("refit":Str) (qN f1 f2 f3 f4 f5 f6 f7)=some f2:=by kernel_rfl
theorem Pl:PyProof.Rows.KTD.datumAt ("lend":Str) (qN f1 f2 f3 f4 f5 f6 f7)=some f5:=by kernel_rfl
end
abbrev dz(S:YP)(d:Int):YP:={S with day:=d}
noncomputable def Pm(CY CD aL:Addr)(S:YP)(H:Hp)(Q:VK):og->Prop
 |.fell n=>∃m:Nat,n=m/\S.n+m<=60/\S.k<8900/\(∀i,S.n<=i->S.pl i=none)/\∀f' H',YT CY CD aL H' (gP S f' m)->c8 (Ft S) (Ft (gP S f' m)) H H'->Q (.str "good") H'
 |.refit ns aj=>∃bn nb W,ns=bn.map (·.nm)/\qL S bn aj nb W/\∀S' H',W aj.length S'->YT CY CD aL H' S'->c8 (Ft S) (Ft S') H H'->Q (.str "good") H'
 |.lend nm c=>nm∈S.nms/\S.ob.length<100/\∃x,b7 S.ob (.inl nm)=some (.int x)/\∀H',YT CY CD aL H' {S with ob:=br S.ob (.inl nm) (.int (x+c)),cn:=S.cn+c}->c8 (Ft S) (Ft S) H H'->Q (.str "good") H'
noncomputable def zy(CY CD aL:Addr):Sp:=fun vs H Q _=>∃(S:YP) (d:Int) (p:Addr) (x:og),vs=[.ref S.a.y,.int d,.ref p]/\YT CY CD aL H S/\Fc H p x/\x.ok S.most/\1<=d/\d<=400/\S.day<d/\Pm CY CD aL (dz S d) H Q x
abbrev zz:Stmt:=fH (bf 81) 1
theorem Fy:a_ ["self","day","fact","entered"] ["self","day","fact"] (aC zz):=bc
theorem Pn{f:Addr}{fd:FuncData}(F:aX K "enter" "Yard.enter" zz f fd)(Y:gO K CY){aE f1 f2 f3 f4 f5 f6 f7:Addr}(hE:mg "ENTER"=some (.ref aE))(tE:jV K aE (qN f1 f2 f3 f4 f5 f6 f7))(c1:jW P w K mg base f1 9 ["yard","fact"] (zk CY CD aL))(c2:jW P w K mg base f2 9 ["yard","fact"] (zw CY CD aL))(c5:jW P w K mg base f5 9 ["yard","fact"] (zo CY CD aL))(AB:aY P w K mg base "need_day" 2 ["number"] (zg 1 400))(AC:aY P w K mg base "sound" 6 ["slip","fact"] yw):aK P w K mg base aV 10 f fd ["self","day","fact"] (zy CY CD aL):=by
 obtain⟨hc,n1,n2,n3,n4,n5,n6⟩:=Y
 refine F.ok Fy (fun vs H Q E h=>?_) (fun aM A outer s H vs Q E hr h=>?_)
 ·obtain⟨_,_,_,_,rfl,_⟩:=h
  rfl
 ·obtain⟨S,d,p,x,rfl,h,hx,ok,g1,g2,g3,k⟩:=h
  refine⟨_,(aF (dG (pC AB (a9 (pv 1) ag)))
   (aF (bQ (eJ (dX (pC AC (a9 (cC (K:=K) rfl (pv 0)) (a9 (pv 2) ag))))) (aA je) bU)
   (aF (bQ (c7 eR (pv 1) (cC (K:=K) rfl (pv 0)) (bO _)) (aA je) bU)
   (aF (iK (K:=K) rfl (pv 0) (pv 1) rfl)
   (aF (bR (i:=3) Fy.nd rfl (Or.inl rfl) (E7 (K:=K) rfl (fG (v:=.ref aE) (by rfl) hE rfl) (cp (fk (K:=K) rfl) (pv 2) ay (fun _ _=>rfl)) (fun _ _=>rfl)))
   (aA (aU (E8 (k:=9) ⟨rfl,rfl,rfl,rfl,rfl⟩ (hr.mono (by omega)) (pv 3) (a9 (pv 0) (a9 (pv 2) ag)))))))))),?_⟩
  have hy:=h.y
  walk_at "r"
  refine⟨d,rfl,g1,g2,?_⟩
  walk_at "r"
  refine⟨S.most,p,x,rfl,hx,ok,fun H1 s1=>?_⟩
  walk_at "r"
  refine bj ?_
  have h1:=h.same s1
  have hy1:=h1.y
  walk_at "r"
  refine qF (cz (by omega)) ?_
  refine Ck ?_
  refine ml (sX (du rfl (du rfl (qo hy1 (by show 6<1000;decide) hc n2 ?_))))
  rw[LK]
  have h2:YT CY CD aL _ (dz S d):=h1.dayed (d:=d)
  have b2:∀b o,b≠S.a.y->H1 b=some o->ab H1 S.a.y (.ins CY S.a.dx (yF S.most d S.a.dl S.a.dc S.a.de S.a.db)) b=some o:=fun b o nb z=>by rw[az nb];exact z
  have st:c8 (Ft S) (Ft S) H (ab H1 S.a.y (.ins CY S.a.dx (yF S.most d S.a.dl S.a.dc S.a.de S.a.db))):=⟨fun b o n z=>b2 b o (fun c=>n (.inl c)) (s1 _ _ z),fun b z=>.inl z⟩
  have tk:∀{b:Addr} {xs:List V},H b=some (.tup xs)->ab H1 S.a.y (.ins CY S.a.dx (yF S.most d S.a.dl S.a.dc S.a.de S.a.db)) b=some (.tup xs):=fun z=>b2 _ _ (bB (s1 _ _ z) h1.y nofun) (s1 _ _ z)
  generalize ab H1 S.a.y (.ins CY S.a.dx (yF S.most d S.a.dl S.a.dc S.a.de S.a.db))=H2 at h2 b2 st tk⊢
  cases x with
  |fell n=>
   obtain⟨m,rfl,k1,k2,k3,k4⟩:=k
   have p2:=tk (show H p=some (.tup [.str "fell",.int m])from hx)
   walk_at "r"
   refine⟨aE,_,_,_,rfl,tE,rfl,Pj,?_⟩
   walk_at "r"
   refine⟨f1,_,_,rfl,c1,?_⟩
   walk_at "r"
   exact⟨dz S d,p,m,rfl,h2,p2,k1,k2,k3,fun f' H' y' st'=>k4 f' H' y' (st.trans st')⟩
  |refit ns aj=>
   obtain⟨bn,nb,W,rfl,R,k1⟩:=k
   obtain⟨a,b,x1,x2,tb,x3,x4⟩:=hx
   have p2:=tk x1
   walk_at "r"
   refine⟨aE,_,_,_,rfl,tE,rfl,Pk,?_⟩
   walk_at "r"
   refine⟨f2,_,_,rfl,c2,?_⟩
   walk_at "r"
   exact⟨dz S d,p,a,b,bn,aj,nb,W,rfl,h2,p2,tk x2,⟨tb,tk x3,x4.1,fun i t ns e1 e2=>tk (x4.2 i t ns e1 e2)⟩,R,fun S' H' w' y' st'=>k1 S' H' w' y' (st.trans st')⟩
  |lend nm c=>
   obtain⟨k1,k2,x,k3,k4⟩:=k
   have p2:=tk (show H p=some (.tup [.str "lend",.int nm,.int c])from hx)
   walk_at "r"
   refine⟨aE,_,_,_,rfl,tE,rfl,Pl,?_⟩
   walk_at "r"
   refine⟨f5,_,_,rfl,c5,?_⟩
   walk_at "r"
   exact⟨dz S d,p,nm,c,x,rfl,h2,p2,k1,k2,k3,fun H' y' st'=>k4 H' y' (st.trans st')⟩
section
noncomputable def lJ(S:YP)(nm:Int)(ap rs:List Int)(x:Int):YP:=lG (mQ (fL S none ap) nm rs) nm rs x
noncomputable def zA(S:YP)(nm:Int)(now ns:List Int)(x:Int)(j:Nat)(S':YP):Prop:=(j=0/\∃ap,bH ap (dN now ns)/\S'=fL S none ap)\/(j=1/\∃ap rs,bH ap (dN now ns)/\bH rs (fun y=>y∈ns)/\S'=lJ S nm ap rs x)
theorem Fz{ns:List Int}(h:ns≠[]):il [ns]=true:=by
 unfold il
 simp[h]
theorem zB{a b:List Int}(h:eT a b=true):jo [a] [b]=[(0,0)]:=by
 unfold jo mN lD
 simp[h]
theorem Po{S:YP}{b:Bt}{ns:List Int}{x:Int}(hb:b∈S.bs)(e1:b.now≠[])(e2:ns≠[])(l1:b.now.length<64)(l2:ns.length<64)(lk:eT b.now ns=true)(hat:∀t∈ns,j3 S t\/t∈b.now)(tm:∀t∈b.now,1<=t/\t<=S.n)(l8:S.bs.length<=8)(hk:S.k<8800)(l4:b.ch.length<400)(nr:¬bH b.now (fun y=>y∈ns))(ho:S.ob.length<100)(hv:(b7 S.ob (.inl b.nm)).getD (.int 0)=.int x):
  qL S [b] [ns] [b.nm] (zA S b.nm b.now ns x) where
 hm:=fun c hc=>by cases lN.mp hc;exact hb
 l8:=by show 1<=8;omega
 sa:=by simpa using l1
 sb:=by simpa using l2
 ls:=by show 1<=8;omega
 hat:=by simpa using hat
 l88:=by show S.bs.length+1<=8+1;omega
 fa:=Fz e1
 fb:=Fz e2
 pi:=by
  intro p hp
  rw[show[b].map Bt.now=[b.now]from rfl,zB lk]at hp
  cases lN.mp hp
  show 0<1;omega
 pl:=by rw[show[b].map Bt.now=[b.now]from rfl,zB lk];show 1<=64;omega
 nv:=by
  rw[show[b].map Bt.now=[b.now]from rfl,zB lk]
  rfl
 nn:=fun c hc=>by cases lN.mp hc;exact lN.mpr rfl
 tm:=by simpa using tm
 k:=hk
 w0:=fun ap h=>.inl ⟨rfl,ap,by simpa using h,rfl⟩
 wa:=by
  rintro j S' (⟨_,ap,_,rfl⟩|⟨_,ap,rs,_,_,rfl⟩)<;>rfl
 ws:=by
  rintro j S' nm' ns' q1 q2 (⟨rfl,ap,hap,rfl⟩|⟨rfl,_⟩)
  ·cases q1;cases q2
   have la:ap.length<=b.now.length:=hap.le fun y z=>z.1
   refine⟨fun t ht=>?_,by show S.k+ap.length<8900;omega,ho,x,hv,.inr ⟨b,hb,rfl,l4,nr,fun rs hrs=>.inr ⟨rfl,ap,rs,hap,hrs,rfl⟩⟩⟩
   rcases hat t ht with⟨i,hi,rfl,_⟩|z
   ·show 1<=(i:Int)+1/\(i:Int)+1<=(S.n:Int);omega
   ·exact tm t z
  ·cases q1
structure LY(S:YP):Prop where
 n:S.n=60
 pl:∀i:Nat,i<60->S.pl i=k9 S.bs ((i:Int)+1)
 dj:∀b∈S.bs,∀c∈S.bs,∀t,t∈b.now->t∈c.now->b.nm=c.nm
 up:∀b∈S.bs,b.now.Pairwise (· < ·)/\∀t∈b.now,1<=t/\t<=60
theorem lK{bs:List Bt}{t:Int}:k9 bs t=none↔∀b∈bs,t∉b.now:=by
 induction bs with
 |nil=>exact⟨fun _ _ hb=>(by cases hb),fun _=>rfl⟩
 |cons c r ih=>
  unfold k9
  by_cases z:t∈c.now
  ·rw[aH z];exact⟨fun q=>(by cases q),fun q=>absurd z (q c dR)⟩
  ·rw[av z,ih]
   exact⟨fun q b hb=>(by rcases cE.mp hb with rfl|y;exact z;exact q b y),fun q b hb=>q b (d_ _ hb)⟩
theorem om{bs:List Bt}{t:Int}{b:Bt}(dj:∀b∈bs,∀c∈bs,∀t,t∈b.now->t∈c.now->b.nm=c.nm)(hb:b∈bs)(ht:t∈b.now):k9 bs t=some b.nm:=by
 induction bs with
 |nil=>cases hb
 |cons c r ih=>
  unfold k9
  by_cases z:t∈c.now
  ·rw[aH z,dj c dR b hb t z ht]
  ·rw[av z]
   rcases cE.mp hb with rfl|y
   ·exact absurd ht z
   ·exact ih (fun b hb c hc=>dj b (d_ _ hb) c (d_ _ hc)) y
theorem LY.loose{S:YP}(h:LY S){t:Int}:j3 S t↔(1<=t/\t<=60)/\∀b∈S.bs,t∉b.now:=by
 constructor
 ·rintro⟨i,hi,rfl,e⟩
  rw[h.n]at hi
  rw[h.pl i hi]at e
  exact⟨by omega,lK.mp e⟩
 ·rintro⟨⟨h1,h2⟩,q⟩
  refine⟨(t - 1).toNat,by rw[h.n];omega,by omega,?_⟩
  rw[h.pl _ (by omega),show(((t - 1).toNat:Nat):Int)+1=t by omega]
  exact lK.mpr q
theorem oo{nm d:Int}{rs:List Int}(c:Bt):(dD nm (d,rs) c).now=if c.nm=nm then rs else c.now:=by
 unfold dD
 split
 ·unfold Bt.now;simp
 ·rfl
theorem LY.step{S:YP}{b:Bt}{ns ap rs:List Int}{x:Int}(h:LY S)(nd:S.nms.Nodup)(hb:b∈S.bs)(hat:∀t∈ns,j3 S t\/t∈b.now)(ha:bH ap (dN b.now ns))(hr:bH rs (fun y=>y∈ns)):LY (lJ S b.nm ap rs x):=by
 have hf:∀t∈ns,(1<=t/\t<=60)/\∀c∈S.bs,c.nm≠b.nm->t∉c.now:=fun t ht=>by
  rcases hat t ht with z|z
  ·exact⟨(h.loose.mp z).1,fun c hc _=>(h.loose.mp z).2 c hc⟩
  ·exact⟨(h.up b hb).2 t z,fun c hc n y=>n (h.dj c hc b hb t y z)⟩
 have bsE:(lJ S b.nm ap rs x).bs=S.bs.map (dD b.nm (S.day,rs)):=rfl
 have dj:∀c∈(lJ S b.nm ap rs x).bs,∀c'∈(lJ S b.nm ap rs x).bs,∀t,t∈c.now->t∈c'.now->c.nm=c'.nm:=by
  intro c hc c' hc' t z z'
  obtain⟨e,he,rfl⟩:=Qd.mp hc
  obtain⟨e',he',rfl⟩:=Qd.mp hc'
  rw[oo]at z z'
  rw[gg,gg]
  by_cases q:e.nm=b.nm<;>by_cases q':e'.nm=b.nm
  ·rw[q,q']
  ·rw[aH q]at z;rw[av q']at z'
   exact absurd z' ((hf t ((hr.2 t).mp z)).2 e' he' q')
  ·rw[av q]at z;rw[aH q']at z'
   exact absurd z ((hf t ((hr.2 t).mp z')).2 e he q)
  ·rw[av q]at z;rw[av q']at z'
   exact h.dj e he e' he' t z z'
 refine⟨h.n,fun i hi=>?_,dj,fun c hc=>?_⟩
 ·show(if(i:Int)+1∈rs then some b.nm else if(i:Int)+1∈ap then none else S.pl i)=k9 (lJ S b.nm ap rs x).bs ((i:Int)+1)
  by_cases q:(i:Int)+1∈rs
  ·rw[aH q]
   have:=om dj (Qd.mpr ⟨b,hb,rfl⟩) (t:=(i:Int)+1) (by rw[oo,aH rfl];exact q)
   rw[this,gg]
  ·rw[av q]
   by_cases q2:(i:Int)+1∈ap
   ·rw[aH q2]
    refine(lK.mpr fun c hc=>?_).symm
    obtain⟨e,he,rfl⟩:=Qd.mp hc
    rw[oo]
    by_cases q3:e.nm=b.nm
    ·rw[aH q3];exact q
    ·rw[av q3]
     exact fun y=>q3 (h.dj e he b hb _ y ((ha.2 _).mp q2).1)
   ·rw[av q2,h.pl i hi]
    have nb:(i:Int)+1∉b.now:=fun y=>by
     by_cases y2:(i:Int)+1∈ns
     ·exact q ((hr.2 _).mpr y2)
     ·exact q2 ((ha.2 _).mpr ⟨y,y2⟩)
    cases z:k9 S.bs ((i:Int)+1)with
    |none=>
     refine(lK.mpr fun c hc=>?_).symm
     obtain⟨e,he,rfl⟩:=Qd.mp hc
     rw[oo]
     split
     ·exact q
     ·exact lK.mp z e he
    |some v=>
     by_cases ex:∃e∈S.bs,(i:Int)+1∈e.now
     ·obtain⟨e,he,y⟩:=ex
      rw[om h.dj he y]at z
      have ne:e.nm≠b.nm:=fun y2=>nb (by rw[<-oh nd he hb y2];exact y)
      have:=om dj (Qd.mpr ⟨e,he,rfl⟩) (t:=(i:Int)+1) (by rw[oo,av ne];exact y)
      rw[this,gg,z]
     ·rw[lK.mpr fun e he y=>ex ⟨e,he,y⟩]at z;cases z
 ·obtain⟨e,he,rfl⟩:=Qd.mp hc
  rw[oo]
  split
  ·exact⟨hr.1,fun t ht=>(hf t ((hr.2 t).mp ht)).1⟩
  ·exact h.up e he
end
section
theorem LY.new{S:YP}{nm x:Int}{l:Addr}{rs:List Int}(h:LY S)(hl:∀t∈rs,j3 S t)(up:rs.Pairwise (· < ·)):LY (lG (lF S nm l rs) nm rs x):=by
 have hf:∀t∈rs,(1<=t/\t<=60)/\∀c∈S.bs,t∉c.now:=fun t ht=>h.loose.mp (hl t ht)
 have bsE:(lG (lF S nm l rs) nm rs x).bs=S.bs++[⟨nm,[(S.day,rs)]⟩]:=rfl
 have dj:∀c∈S.bs++[⟨nm,[(S.day,rs)]⟩],∀c'∈S.bs++[⟨nm,[(S.day,rs)]⟩],∀t,t∈c.now->t∈c'.now->c.nm=c'.nm:=by
  intro c hc c' hc' t z z'
  rcases iu.mp hc with q|q<;>rcases iu.mp hc' with q'|q'
  ·exact h.dj c q c' q' t z z'
  ·cases lN.mp q';exact absurd z ((hf t z').2 c q)
  ·cases lN.mp q;exact absurd z' ((hf t z).2 c' q')
  ·cases lN.mp q;cases lN.mp q';rfl
 refine⟨h.n,fun i hi=>?_,dj,fun c hc=>?_⟩
 ·show(if(i:Int)+1∈rs then some nm else S.pl i)=k9 (S.bs++[⟨nm,[(S.day,rs)]⟩]) ((i:Int)+1)
  by_cases q:(i:Int)+1∈rs
  ·rw[aH q]
   exact(om (b:=⟨nm,[(S.day,rs)]⟩) dj (iu.mpr (.inr (lN.mpr rfl))) q).symm
  ·rw[av q,h.pl i hi]
   by_cases ex:∃e∈S.bs,(i:Int)+1∈e.now
   ·obtain⟨e,he,y⟩:=ex
    rw[om h.dj he y,om dj (iu.mpr (.inl he)) y]
   ·rw[lK.mpr fun e he y=>ex ⟨e,he,y⟩]
    refine(lK.mpr fun c hc=>?_).symm
    rcases iu.mp hc with z|z
    ·exact fun y=>ex ⟨c,z,y⟩
    ·cases lN.mp z;exact q
 ·rcases iu.mp hc with z|z
  ·exact h.up c z
  ·cases lN.mp z;exact⟨up,fun t ht=>(hf t ht).1⟩
noncomputable def fA(ns:List Int):List Int:=((List.range 61).map fun i:Nat=>(i:Int)).filter fun x=>decide (x∈ns)
theorem qO{ns:List Int}(h:∀t∈ns,1<=t/\t<=60):bH (fA ns) (fun y=>y∈ns):=by
 unfold fA
 refine⟨Gg _ (List.pairwise_map.mpr (List.pairwise_lt_range.imp fun z=>by omega)),fun t=>?_⟩
 rw[gk,dQ]
 refine⟨fun z=>z.2,fun z=>⟨Qd.mpr ⟨t.toNat,FW.mpr ?_,?_⟩,z⟩⟩
 ·have:=h t z;omega
 ·have:=h t z;omega
noncomputable def gQ(d:Int)(aj:List (List Int))(j:Nat):List Bt:=(List.range j).map fun i:Nat=>⟨10*d+i,[(d,fA (aj.getD i []))]⟩
noncomputable def j5(d:Int)(j:Nat):List (aT×V):=(List.range j).map fun i:Nat=>(.inl (10*d+i),.int 0)
theorem Pp{d:Int}{aj:List (List Int)}{j:Nat}:gQ d aj (j+1)=gQ d aj j++[⟨10*d+j,[(d,fA (aj.getD j []))]⟩]:=by
 unfold gQ;rw[ko,cF];rfl
theorem FA{d:Int}{j:Nat}{t:Int}(h:∀i:Nat,i<j->10*d+i≠t):b7 (j5 d j) (.inl t)=none:=by
 unfold b7 j5
 rw[G7,FX]
 intro x hx
 obtain⟨i,hi,rfl⟩:=Qd.mp hx
 rw[dQ]
 intro z
 injection z with z
 exact h i (FW.mp hi) z
theorem Pq{d:Int}{j:Nat}:br (j5 d j) (.inl (10*d+j)) (.int 0)=j5 d (j+1):=by
 rw[qg _ (FA fun i hi z=>by omega)]
 unfold j5
 rw[ko,cF]
 rfl
theorem FB{d:Int}{aj:List (List Int)}{j:Nat}:(gQ d aj j).map (·.nm)=(List.range j).map fun i:Nat=>10*d+(i:Int):=by
 unfold gQ;rw[gX];rfl
structure zC(S:YP)(aj:List (List Int))(j:Nat)(S':YP):Prop where
 a:S'.a=S.a
 most:S'.most=S.most
 day:S'.day=S.day
 cn:S'.cn=S.cn
 k:S'.k<=S.k+64*j
 bs:S'.bs=gQ S.day aj j
 ob:S'.ob=j5 S.day j
 ly:LY S'
theorem Pr{d:Int}{m:Nat}:lI d [] [] m=((List.range m).map fun i:Nat=>10*d+(i:Int)).map V.int:=by
 unfold lI;rw[gX];rfl
theorem Pu{S:YP}{aj:List (List Int)}(h:LY S)(eb:S.bs=[])(eo:S.ob=[])(hk:S.k<=100)(ok:k8 12 aj)(hs:il aj=true):qL S [] aj ((List.range aj.length).map fun i:Nat=>10*S.day+(i:Int)) (zC S aj) where
 hm:=fun c hc=>by cases hc
 l8:=b_ _
 sa:=by decide
 sb:=by have:=ok.fl;rw[zS]at this;exact this
 ls:=ok.l
 hat:=fun t ht=>by
  obtain⟨s,h1,h2⟩:=Qu.mp ht
  refine .inl (h.loose.mpr ⟨((ok.e s h1).2.2) t h2,fun b hb=>?_⟩)
  rw[eb]at hb;cases hb
 l88:=by rw[eb];have:=ok.l;show 0+aj.length<=8+0;omega
 fa:=rfl
 fb:=hs
 pi:=fun p hp=>by cases hp
 pl:=b_ _
 nv:=Pr
 nn:=fun c hc=>by cases hc
 tm:=fun t ht=>by cases ht
 k:=by omega
 w0:=fun ap hap=>by
  have:ap=[]:=by
   cases ap with
   |nil=>rfl
   |cons t r=>have:=((hap.2 t).mp dR).1;cases this
  subst this
  rw[za]
  exact⟨rfl,rfl,rfl,rfl,by omega,eb,eo,h⟩
 wa:=fun j S' w=>w.a
 ws:=fun j S' nm ns q1 q2 w=>by
  have hj:j<aj.length:=(Qr.mp q2).1
  have en:nm=10*S.day+j:=by
   rw[aI,uC hj]at q1
   exact(cm q1).symm
  subst en
  have l8:=ok.l
  have hn:=dE q2
  have hns:=(ok.e ns hn).2.2
  have gd:aj.getD j []=ns:=by rw[kg,q2];rfl
  have nin:10*S.day+(j:Int)∉S'.nms:=fun z=>by
   have z':10*S.day+(j:Int)∈S'.bs.map (·.nm):=z
   rw[w.bs,FB]at z'
   obtain⟨i,hi,e⟩:=Qd.mp z'
   have:=FW.mp hi
   omega
  have lns:ns.length<64:=eN (List.sublist_flatten_of_mem hn).length_le ok.fl
  refine⟨fun t ht=>by rw[w.ly.n];exact hns t ht,by have:=w.k;omega,?_,0,?_,.inl ⟨nin,?_,fun l rs hr=>?_⟩⟩
  ·rw[w.ob];unfold j5;rw[ar,iR];omega
  ·rw[w.ob,FA fun i hi z=>by omega];rfl
  ·rw[w.bs];unfold gQ;rw[ar,iR];omega
  ·have er:rs=fA ns:=bH.eq hr (qO hns)
   have lr:=hr.le fun _ z=>z
   refine⟨w.a,w.most,w.day,w.cn,?_,?_,?_,w.ly.new (fun t ht=>?_) hr.1⟩
   ·show S'.k+rs.length<=S.k+64*(j+1);have:=w.k;omega
   ·show S'.bs++[⟨10*S.day+j,[(S'.day,rs)]⟩]=_
    rw[w.bs,w.day,Pp,gd,er]
   ·show br S'.ob (.inl (10*S.day+j)) (.int 0)=_
    rw[w.ob,Pq]
   ·refine w.ly.loose.mpr ⟨hns t ((hr.2 t).mp ht),fun b hb y=>?_⟩
    rw[w.bs]at hb
    unfold gQ at hb
    obtain⟨i,hi,rfl⟩:=Qd.mp hb
    have hi':=FW.mp hi
    have hi2:i<aj.length:=by omega
    have ei:aj[i]?=some aj[i]:=aN hi2
    have hyi:t∈aj[i]:=by
     have y':t∈fA (aj.getD i []):=y
     rw[kg,ei]at y'
     exact fN (gk.mp y').2
    have htj:t∈aj[j]:=by
     have:aj[j]=ns:=by have e:=aN hj;rw[e]at q2;exact cm q2
     rw[this];exact(hr.2 t).mp ht
    have pw:=(Qx.mp ok.nd).2
    exact(Qv.mp pw i j hi2 hj hi') t hyi t htj rfl
end
section
theorem left_len{S:List (List Int)}{g:List Int}(hg:g∈S):∀n:Nat,(∀i,i<n->(rg S g i).1≠[])->(rg S g n).2.length+n<=S.length
 |0,_=>aG _
 |n+1,h=>by
  have ih:=left_len hg n fun i hi=>h i (by omega)
  obtain⟨z,hz⟩:=List.exists_mem_of_ne_nil _ (h n (by omega))
  have hl:z∈(rg S g n).2:=by
   cases n with
   |zero=>rw[lN.mp hz];exact hg
   |succ k=>exact(qw.mp hz).1
  have:((rg S g n).2.filter fun ys=>!decide (ys∈(rg S g n).1)).length<(rg S g n).2.length:=List.length_filter_lt_length_iff_exists.mpr ⟨z,hl,by simp[hz]⟩
  show((rg S g n).2.filter fun ys=>!decide (ys∈(rg S g n).1)).length+(n+1)<=_
  omega
theorem Pw{S:List (List Int)}{g y:List Int}{h:Nat}(hg:g∈S)(e:gL S g y=some h):h<=S.length:=by
 have hy:y∈(rg S g h).1:=by
  unfold gL at e
  split at e
  ·rename_i ex
   cases e
   exact ex.choose_spec
  ·cases e
 have:=left_len hg h fun i hi z=>by
  have q:=xy z (h - i)
  rw[show i+(h - i)=h by omega]at q
  rw[q]at hy
  cases hy
 omega
theorem Px:∀b,b<13->∀a,a<13 - b->∀c,c<13 - b->(k_ a b c 12).length<=343:=by decide+kernel
theorem Py{a b c:Nat}{af:Int}(h:af<=12)(h1:a+b<=12)(h2:b+c<=12):(k_ a b c af).length<=343:=by
 refine cN ?_ (Px b (by omega) a (by omega) c (by omega))
 unfold k_
 rw[<-zJ,<-zJ]
 refine List.countP_mono_left fun p _ q=>?_
 unfold i_ cR at q⊢
 rw[fF,dQ,dQ]at q⊢
 omega
theorem Pz{ns ms:List Int}{af:Int}{hh:Nat}(fit:qy ns ms af)(e:gL (dO ns ms af) (bL ms ns ms) (bL ns ns ms)=some hh):hh<=343:=by
 refine cN (Pw (ER fit) e) ?_
 obtain⟨h12,c1,c2,c3,c4⟩:=fit
 unfold dO
 rw[ar]
 have q1:=jk ns ms
 have q2:=jk ms ns
 rw[my ms ns]at q2
 exact Py h12 (by omega) (by omega)
end
section
structure lM(df goal:List Int)(af:Int)(aj:List (List Int))(left:List Int):Prop where
 ok:k8 af aj
 h0:aj[0]?=some df
 ln:aj.length<=4
 nd:left.Nodup
 mem:∀t,t∈left↔(1<=t/\t<=60)/\t∉goal/\t∉aj.flatten
 len:60<=left.length+12+12*aj.length
 f12:aj.flatten.length<=12*aj.length
 gl:∀t∈goal,∀(i:Nat) s,1<=i->aj[i]?=some s->t∉s
theorem zD{L A:List Int}(nd:L.Nodup):L.length<=(L.filter fun t=>!decide (t∈A)).length+A.length:=by
 have h1:(L.filter fun t=>decide (t∈A)).length<=A.length:=i4 (nd.filter _) fun x hx=>fN (gk.mp hx).2
 have h2:(L.filter fun t=>decide (t∈A)).length+(L.filter fun t=>!decide (t∈A)).length=L.length:=by
  rw[<-zJ,<-zJ]
  have:=List.length_eq_countP_add_countP (fun t=>decide (t∈A)) (l:=L)
  simp only[mX]at this
  rw[this]
  congr 1
  exact List.countP_congr fun x _=>by simp
 omega
theorem PB{df goal:List Int}{af:Int}{aj:List (List Int)}{left sm:List Int}(h:lM df goal af aj left)(l3:aj.length<=3)(hs:af<=12)(nd:sm.Nodup)(sub:∀t∈sm,t∈left)(l1:1<=sm.length)(l2:(sm.length:Int)<=af):lM df goal af (aj++[sm]) (left.filter fun t=>!decide (t∈sm)):=by
 have fe:(aj++[sm]).flatten=aj.flatten++sm:=by rw[mW];simp
 have ff:=h.f12
 refine⟨⟨?_,?_,?_,?_⟩,?_,?_,h.nd.filter _,fun t=>?_,?_,?_,fun t ht i s hi es y=>?_⟩
 ·rw[bF];show aj.length+1<=8;omega
 ·intro s q
  rcases iu.mp q with z|z
  ·exact h.ok.e s z
  ·cases lN.mp z
   exact⟨l1,l2,fun t ht=>((h.mem t).mp (sub t ht)).1⟩
 ·rw[fe,qT]
  exact⟨h.ok.nd,nd,fun a ha b hb e=>((h.mem b).mp (sub b hb)).2.2 (e▸ha)⟩
 ·rw[fe,bF];omega
 ·have:=h.h0
  rw[eZ (Qr.mp this).1];exact this
 ·rw[bF];show aj.length+1<=4;omega
 ·rw[gk,h.mem,fe,iu]
  simp only[zX,uB,jD]
  exact⟨fun⟨⟨a,b,c⟩,d⟩=>⟨a,b,c,d⟩,fun⟨a,b,c,d⟩=>⟨⟨a,b,c⟩,d⟩⟩
 ·have:=zD (A:=sm) h.nd
  have:=h.len
  rw[bF]
  show 60<=_+12+12*(aj.length+1)
  omega
 ·rw[fe,bF,bF];show _<=12*(aj.length+1);omega
 ·rcases dh i aj.length with q|q
  ·rw[eZ q]at es
   exact h.gl t ht i s hi es y
  ·rw[dY q]at es
   have:=lN.mp (dE es)
   subst this
   exact((h.mem t).mp (sub t y)).2.1 ht
theorem PD{df goal L:List Int}{af:Int}(hs:af<=12)(n1:df.Nodup)(n2:goal.Nodup)(s1:∀t∈df,1<=t/\t<=60)(l0:1<=df.length)(l1:(df.length:Int)<=af)(l2:(goal.length:Int)<=af)(nd:L.Nodup)(hL:∀t,t∈L↔1<=t/\t<=60)(ll:L.length=60):lM df goal af [df] (L.filter fun t=>!decide (t∈df) && !decide (t∈goal)):=by
 have fe:[df].flatten=df:=by simp
 refine⟨⟨by show 1<=8;omega,fun s q=>?_,by rw[fe];exact n1,by rw[fe];omega⟩,rfl,by show 1<=4;omega,nd.filter _,fun t=>?_,?_,by rw[fe];show df.length<=12*1;omega,fun t _ i s hi es=>by rw[iQ (by show 1<=i;exact hi)]at es;cases es⟩
 ·cases lN.mp q;exact⟨l0,l1,s1⟩
 ·rw[gk,hL,fe]
  simp only[fF,zX,uB]
  exact⟨fun⟨a,b,c⟩=>⟨a,c,b⟩,fun⟨a,c,b⟩=>⟨a,b,c⟩⟩
 ·have e1:=zD (A:=goal) nd
  have e2:=zD (A:=df) (nd.filter fun t=>!decide (t∈goal))
  rw[List.filter_filter]at e2
  show 60<=_+12+12*1
  omega
theorem PF{df goal:List Int}{af:Int}{aj:List (List Int)}{left:List Int}(h:lM df goal af aj left):il aj=true:=by
 unfold il
 rw[fF,zI,dQ]
 refine⟨fun s hs=>?_,?_⟩
 ·have:=(h.ok.e s hs).1
  rw[zX,uB]
  rintro rfl
  exact absurd this (by decide)
 ·rw[lA h.ok.nd,zS]
  congr 1
  refine kj fun s hs=>?_
  exact(lA ((Qx.mp h.ok.nd).1 s hs)).symm
theorem k8.up{af:Int}{aj:List (List Int)}(h:k8 af aj)(hs:af<=12):k8 12 aj:=⟨h.l,fun s q=>⟨(h.e s q).1,by have:=(h.e s q).2.1;omega,(h.e s q).2.2⟩,h.nd,h.fl⟩
end
section
variable{CY CD aL:Addr}
noncomputable def gR:Int->List (List Int)->List (Int×List Int)
 |_,[]=>[]
 |d,b::r=>(d,b)::gR (d+1) r
theorem FC(b:List Int):∀(d:Int) (l:List (List Int)),gR d (l++[b])=gR d l++[(d+l.length,b)]
 |d,[]=>by simp[gR]
 |d,c::r=>by
  rw[A0,gR,FC b (d+1) r,gR,cM,A0,show d+1+(r.length:Int)=d+((r.length+1:Nat):Int) by omega]
theorem zE:∀(d:Int) (l:List (List Int)),(gR d l).map (·.2)=l
 |_,[]=>rfl
 |d,b::r=>by rw[gR,cG,zE (d+1) r]
theorem FD(d:Int)(l:List (List Int)):(gR d l).length=l.length:=by
 have:=congrArg List.length (zE d l)
 rwa[ar]at this
theorem PH{af:Int}{x y:Int×List Int}{r:List (Int×List Int)}(h1:cR 1 400 x.1=true)(h2:x.1<y.1)(h3:g8 af x.2=true)(h4:eT x.2 y.2=true)(h:j2 af (y::r)=true):j2 af (x::y::r)=true:=by
 unfold j2 tU i6 at*
 simp only[cG,List.drop_succ_cons,Aa,List.zip_cons_cons,qY,fF,mX]at h⊢
 obtain⟨_,⟨a1,a2⟩,b1,⟨c1,c2⟩,d1⟩:=h
 exact⟨by simp,⟨h1,a1,a2⟩,⟨h2,b1⟩,⟨h3,c1,c2⟩,h4,d1⟩
theorem PJ{af:Int}{x:Int×List Int}(h1:cR 1 400 x.1=true)(h3:g8 af x.2=true):j2 af [x]=true:=by
 unfold j2 tU i6
 simp[h1,h3]
theorem FE{af:Int}{ns:List Int}(h1:1<=ns.length)(h2:(ns.length:Int)<=af)(h3:∀t∈ns,1<=t/\t<=60)(h4:ns.Pairwise (· < ·)):g8 af ns=true:=by
 unfold g8
 rw[jj (by omega) h2,DF.mpr h4,iA,Bool.and_true,zI]
 exact fun t ht=>jj (h3 t ht).1 (h3 t ht).2
theorem FG{ns ms:List Int}{af:Int}(hb:∀x,x∈ns\/x∈ms->1<=x/\x<=60):∀(bss:List (List Int)) (d0 d:Int) (here:List Int),1<=d0->d0<d->d+bss.length<=401->g8 af here=true->f_ ns ms af here bss->j2 af ((d0,here)::gR d bss)=true
 |[],d0,d,here,h1,h2,h3,h4,_=>PJ (jj h1 (by simp at h3;show d0<=400;omega)) h4
 |b::r,d0,d,here,h1,h2,h3,h4,⟨o,c⟩=>by
  have l3:d+(r.length+1:Nat)<=401:=h3
  exact PH (jj h1 (by show d0<=400;omega)) h2 h4 o.2.2.2.2.1 (FG hb r d (d+1) b (by omega) (by omega) (by omega) (FE o.2.2.1 o.2.2.2.1 (fun t ht=>hb t (o.2.1 t ht)) o.1) c)
theorem FH{ns ms a a' b:List Int}{af:Int}(m:∀x,x∈a↔x∈a')(h:qA ns ms af a b):qA ns ms af a' b:=by
 obtain⟨h1,h2,h3,h4,h5,h6⟩:=h
 exact⟨h1,h2,h3,h4,by rw[<-Dz m fun x=>eG];exact h5,fun z=>h6 fun x=>(m x).trans (z x)⟩
theorem FI{ns ms a a':List Int}{af:Int}(m:∀x,x∈a↔x∈a'):∀{bss:List (List Int)},f_ ns ms af a bss->f_ ns ms af a' bss
 |[],_=>trivial
 |_::_,⟨h1,h2⟩=>⟨FH m h1,h2⟩
theorem FJ{a a':List Int}(m:∀x,x∈a↔x∈a'):∀(bss:List (List Int)) (x:Int),x∈gM a bss↔x∈gM a' bss
 |[],x=>m x
 |_::_,_=>eG
theorem zF{ns ms:List Int}{af:Int}:∀{here:List Int} {bss:List (List Int)} {j:Nat} {b:List Int},f_ ns ms af here bss->bss[j]?=some b->qA ns ms af (gM here (bss.take j)) b
 |_,_::_,0,_,⟨h,_⟩,e=>by cases e;exact h
 |_,_::_,j+1,_,⟨_,h⟩,e=>zF (j:=j) h e
theorem FK(here:List Int)(d0:Int):∀(d:Int) (bss:List (List Int)),(((d0,here)::gR d bss).getLast?.map (·.2)).getD []=gM here bss
 |_,[]=>rfl
 |d,b::r=>by
  rw[gR,List.getLast?_cons_cons]
  exact FK b d (d+1) r
theorem FL{ns ms:List Int}{af:Int}:∀{here:List Int} {bss:List (List Int)},here.Pairwise (· < ·)->f_ ns ms af here bss->(gM here bss).Pairwise (· < ·)
 |_,[],h,_=>h
 |_,b::r,_,⟨h1,h2⟩=>FL (here:=b) (bss:=r) h1.1 h2
theorem FM{ns ms:List Int}{af:Int}:∀{here:List Int} {bss:List (List Int)},(mL here ns ms/\1<=here.length/\(here.length:Int)<=af)->f_ ns ms af here bss->mL (gM here bss) ns ms/\1<=(gM here bss).length/\((gM here bss).length:Int)<=af
 |_,[],h,_=>h
 |_,b::r,_,⟨h1,h2⟩=>FM (here:=b) (bss:=r) ⟨h1.2.1,h1.2.2.1,h1.2.2.2.1⟩ h2
theorem FN{ns ms:List Int}{af:Int}:∀{here:List Int} {bss:List (List Int)} (j:Nat),f_ ns ms af here bss->f_ ns ms af here (bss.take j)
 |_,[],j,_=>by rw[List.take_nil];trivial
 |_,_::_,0,_=>trivial
 |_,_::_,j+1,⟨h1,h2⟩=>⟨h1,FN j h2⟩
theorem PK{ae:List (aT×V)}{k:aT}{v:V}(h:b7 ae k=some v)(nd:(ae.map (·.1)).Nodup):br ae k v=ae:=by
 unfold br
 rw[mB,h,aH (show(some v).isSome=true from rfl)]
 refine(kj fun p hp=>?_).trans (List.map_id ae)
 split
 ·rename_i e
  have:b7 ae k=some p.2:=by
   clear h
   induction ae with
   |nil=>cases hp
   |cons q r ih=>
    rw[cG,lO]at nd
    rcases cE.mp hp with rfl|z
    ·exact ik e
    ·rw[iJ fun y=>nd.1 (by rw[y,<-e];exact Qd.mpr ⟨p,z,rfl⟩)]
     exact ih nd.2 z
  rw[this]at h
  cases h
  rfl
 ·rfl
structure fD(aj:List (List Int))(ns:List Int)(af co:Int)(bss:List (List Int))(a:YA)(j:Nat)(S:YP):Prop where
 ly:LY S
 a:S.a=a
 day:S.day=3+j
 most:S.most=af
 k:S.k<=400+24*j
 ob:b7 S.ob (.inl 20)=some (.int co)
 nd:(S.ob.map (·.1)).Nodup
 lo:S.ob.length<=8
 bt:∃b∈S.bs,b.nm=20/\b.ch=(2,fA ns)::gR 4 (bss.take j)
 ot:∀c∈S.bs,c.nm≠20->c∈gQ 2 aj aj.length
 nm:S.nms=(gQ 2 aj aj.length).map (·.nm)
structure ip(aj:List (List Int))(ns ms:List Int)(af:Int):Prop where
 h0:aj[0]?=some ns
 ok:k8 af aj
 s12:af<=12
 e2:EC af ns ms
 gl:∀t∈ms,∀(i:Nat) s,1<=i->aj[i]?=some s->t∉s
theorem ip.st{aj:List (List Int)}{ns ms:List Int}{af:Int}(h:ip aj ns ms af){t:Int}(ht:t∈ns){i:Nat}{s:List Int}(h1:1<=i)(e:aj[i]?=some s):t∉s:=fun y=>by
 have pw:=(Qx.mp h.ok.nd).2
 obtain⟨hi,rfl⟩:=Qr.mp e
 obtain⟨hz,e0⟩:=Qr.mp h.h0
 exact(Qv.mp pw 0 i hz hi (by omega)) t (by rw[e0];exact ht) t y rfl
theorem qP{d:Int}{aj:List (List Int)}{c:Bt}(h:c∈gQ d aj aj.length):∃(i:Nat) (s:List Int),aj[i]?=some s/\c=⟨10*d+i,[(d,fA s)]⟩:=by
 unfold gQ at h
 obtain⟨i,hi,rfl⟩:=Qd.mp h
 have hi':=FW.mp hi
 refine⟨i,aj[i],aN hi',?_⟩
 rw[kg,aN hi']
 rfl
theorem uq{b:Bt}{ns:List Int}{l:List (List Int)}(h:b.ch=(2,fA ns)::gR 4 l):b.now=gM (fA ns) l:=by
 unfold Bt.now
 rw[h]
 exact FK _ _ _ _
theorem mS{ns:List Int}(h:∀t∈ns,1<=t/\t<=60)(x:Int):x∈ns↔x∈fA ns:=((qO h).2 x).symm
section
variable{aj bss:List (List Int)}{ns ms:List Int}{af co:Int}{a:YA}{j:Nat}{S:YP}
theorem ip.u1(h:ip aj ns ms af):∀t∈ns,1<=t/\t<=60:=h.e2.u1
theorem ip.u2(h:ip aj ns ms af):∀t∈ms,1<=t/\t<=60:=h.e2.u2
theorem fD.oth(h:fD aj ns af co bss a j S)(g:ip aj ns ms af){c:Bt}(hc:c∈S.bs)(n:c.nm≠20){t:Int}(ht:t∈ns\/t∈ms):t∉c.now:=by
 obtain⟨i,s,e,rfl⟩:=qP (h.ot c hc n)
 have hi:1<=i:=Nat.one_le_iff_ne_zero.mpr fun z=>n (by subst z;rfl)
 have hs:=(g.ok.e s (dE e)).2.2
 show t∉fA s
 rw[<-mS hs]
 rcases ht with z|z
 ·exact g.st z hi e
 ·exact g.gl t z i s hi e
theorem fD.here(h:fD aj ns af co bss a j S)(g:ip aj ns ms af)(ch:f_ ns ms af ns bss){b:Bt}(e:b.ch=(2,fA ns)::gR 4 (bss.take j)):(∀x∈b.now,x∈ns\/x∈ms)/\1<=b.now.length/\(b.now.length:Int)<=af/\b.now.Pairwise (· < ·):=by
 have r:=qO g.u1
 have lr:(fA ns).length=ns.length:=qd (r.1.imp fun h z=>by omega) g.e2.nd1 fun x=>r.2 x
 have c':=FI (mS g.u1) (FN j ch)
 obtain⟨q1,q2,q3⟩:=FM ⟨fun x hx=>.inl ((r.2 x).mp hx),by rw[lr];exact g.e2.p1,by rw[lr];exact g.e2.l1⟩ c'
 rw[uq e]
 exact⟨q1,q2,q3,FL r.1 c'⟩
end
end
section
variable{aj bss:List (List Int)}{ns ms:List Int}{af co:Int}{a:YA}{j:Nat}{S:YP}
theorem fD.rf{bs:List Int}(h:fD aj ns af co bss a j S)(g:ip aj ns ms af)(ch:f_ ns ms af ns bss)(eb:bss[j]?=some bs)(lj:bss.length<=343)(l8:S.bs.length<=8)(ndb:S.nms.Nodup):
  ∃b,b.nm=20/\qL (dz S (4+j)) [b] [bs] [20] (zA (dz S (4+j)) 20 b.now bs co)/\∀S',zA (dz S (4+j)) 20 b.now bs co 1 S'->fD aj ns af co bss a (j+1) S':=by
 obtain⟨b,hb,hn,hc⟩:=h.bt
 obtain⟨q1,q2,q3,q4⟩:=h.here g ch hc
 have s12:=g.s12
 have hj:j<bss.length:=(Qr.mp eb).1
 obtain⟨o1,o2,o3,o4,o5,o6⟩:=FH (a':=b.now) (fun x=>by rw[uq hc];exact FJ (mS g.u1) _ x) (zF ch eb)
 have hu:∀t,t∈ns\/t∈ms->1<=t/\t<=60:=fun t ht=>ht.elim (g.u1 t) (g.u2 t)
 have lyd:LY (dz S (4+j)):=⟨h.ly.n,h.ly.pl,h.ly.dj,h.ly.up⟩
 have hat:∀t∈bs,j3 (dz S (4+j)) t\/t∈b.now:=fun t ht=>by
  by_cases z:t∈b.now
  ·exact .inr z
  ·refine .inl (lyd.loose.mpr ⟨hu t (o2 t ht),fun c hc'=>?_⟩)
   by_cases n:c.nm=20
   ·rw[oh ndb hc' hb (n.trans hn.symm)];exact z
   ·exact h.oth g hc' n (o2 t ht)
 have hk:=h.k
 have lc:b.ch.length=j+1:=by rw[hc,cM,FD,e9,qW (by omega)]
 have R:=Po (S:=dz S (4+j)) (b:=b) (ns:=bs) (x:=co) hb (fun z=>by rw[z]at q2;exact absurd q2 (by decide)) (fun z=>by rw[z]at o3;exact absurd o3 (by decide)) (by omega) (by omega) o5 hat (fun t ht=>by show 1<=t/\t<=(S.n:Int);rw[h.ly.n];exact hu t (q1 t ht)) l8 (by show S.k<8800;omega) (by omega) (fun z=>o6 fun x=>z.2 x) (eN h.lo (by decide)) (by show(b7 S.ob (.inl b.nm)).getD (.int 0)=_;rw[hn,h.ob];rfl)
 rw[hn]at R
 refine⟨b,hn,R,?_⟩
 rintro S' (⟨z,_⟩|⟨_,ap,rs,ha,hr,rfl⟩)
 ·exact absurd z (by decide)
 have er:rs=bs:=bH.eq hr ⟨o1,fun x=>eG⟩
 subst er
 have la:ap.length<=b.now.length:=ha.le fun y z=>z.1
 have e20:∀(c:Bt),c∈(lJ (dz S (4+j)) 20 ap rs co).bs->∃e∈S.bs,c=dD 20 (4+j,rs) e:=fun c z=>by
  obtain⟨e,he,rfl⟩:=Qd.mp z
  exact⟨e,he,rfl⟩
 have eob:(lJ (dz S (4+j)) 20 ap rs co).ob=S.ob:=PK h.ob h.nd
 refine⟨?_,h.a,by show 4+(j:Int)=3+((j+1:Nat):Int);omega,h.most,?_,by rw[eob];exact h.ob,by rw[eob];exact h.nd,by rw[eob];exact h.lo,⟨dD 20 (4+j,rs) b,Qd.mpr ⟨b,hb,rfl⟩,by rw[gg,hn],?_⟩,fun c z n=>?_,?_⟩
 ·have:=lyd.step ndb hb hat ha hr (x:=co)
  rw[hn]at this
  exact this
 ·show S.k+ap.length+rs.length<=400+24*(j+1);omega
 ·unfold dD
  rw[aH hn]
  show b.ch++[(4+(j:Int),rs)]=_
  rw[gu,eb,oB,FC,e9,qW (by omega),hc,A0]
 ·obtain⟨e,he,rfl⟩:=e20 c z
  rw[gg]at n
  unfold dD
  rw[av n]
  exact h.ot e he n
 ·rw[<-h.nm]
  show(S.bs.map (dD 20 (4+j,rs))).map (·.nm)=_
  rw[gX]
  exact kj fun c _=>gg _ _ c
theorem PL{ae:List (aT×V)}{k:aT}{v w:V}(h:b7 ae k=some w):(br ae k v).map (·.1)=ae.map (·.1):=by
 unfold br
 rw[mB,h,aH (show(some w).isSome=true from rfl),gX]
 refine kj fun p _=>?_
 show(if p.1=k then(p.1,v)else p).1=p.1
 split<;>rfl
theorem PM{d:Int}{j:Nat}:1<=j->b7 (j5 d j) (.inl (10*d))=some (.int 0)
 |h=>by
  obtain⟨m,rfl⟩:∃m,j=m+1:=⟨j - 1,by omega⟩
  unfold j5
  rw[List.range_succ_eq_map,cG]
  exact ik (by show(Sum.inl (10*d+((0:Nat):Int)):aT)=_;rw[Int.natCast_zero,Int.add_zero])
theorem FO{S1:YP}{cn:Int}(w:zC S1 aj aj.length S)(g:ip aj ns ms af)(l4:aj.length<=4)(d1:S1.day=2)(m1:S1.most=af)(k1:S1.k<=100):
  b7 S.ob (.inl 20)=some (.int 0)/\20∈S.nms/\S.ob.length<100/\fD aj ns af co bss S1.a 0 {dz S 3 with ob:=br S.ob (.inl 20) (.int (0+co)),cn:=cn}:=by
 have e0:=(Qr.mp g.h0).1
 have ob:=w.ob
 rw[d1]at ob
 have v0:b7 S.ob (.inl 20)=some (.int 0):=by rw[ob];exact PM (d:=2) (by omega)
 have kb:=w.k
 have bs:=w.bs
 rw[d1]at bs
 have hb:(⟨20,[(2,fA ns)]⟩:Bt)∈S.bs:=by
  rw[bs]
  unfold gQ
  refine Qd.mpr ⟨0,FW.mpr e0,?_⟩
  rw[kg,g.h0]
  rfl
 have lo:S.ob.length=aj.length:=by rw[ob];unfold j5;rw[ar,iR]
 have ky:=PL (v:=.int (0+co)) v0
 refine⟨v0,Qd.mpr ⟨_,hb,rfl⟩,by omega,⟨w.ly.n,w.ly.pl,w.ly.dj,w.ly.up⟩,w.a,rfl,w.most.trans m1,by show S.k<=400;omega,?_,?_,?_,⟨_,hb,rfl,?_⟩,fun c hc _=>?_,?_⟩
 ·show b7 (br S.ob (.inl 20) (.int (0+co))) (.inl 20)=_
  rw[KG,aH rfl,uQ]
 ·show((br S.ob (.inl 20) (.int (0+co))).map (·.1)).Nodup
  rw[ky,ob]
  unfold j5
  rw[gX]
  exact List.Pairwise.map _ (fun a b h=>by intro z;injection z with z;exact h (by omega)) List.nodup_range
 ·show(br S.ob (.inl 20) (.int (0+co))).length<=8
  have:=congrArg List.length ky
  rw[ar,ar]at this
  omega
 ·rw[uL];rfl
 ·rw[<-bs];exact hc
 ·show S.bs.map (·.nm)=_
  rw[bs]
theorem fD.left{left:List Int}(h:fD aj ns af co bss a j S)(g:ip aj ns ms af)(dw:lM ns ms af aj left){b:Bt}(hb:b∈S.bs)(hn:b.nm=20)(hm:∀x,x∈b.now↔x∈ms)(ndb:S.nms.Nodup)(t:Int):(t∈left++(ns++ms).filter fun t=>!decide (t∈b.now))↔j3 S t:=by
 rw[h.ly.loose,iu,gk,iu,dw.mem,zX,uB,hm]
 constructor
 ·rintro(⟨h1,h2,h3⟩|⟨h1,h2⟩)
  ·refine⟨h1,fun c hc y=>?_⟩
   by_cases n:c.nm=20
   ·rw[oh ndb hc hb (n.trans hn.symm),hm]at y;exact h2 y
   ·obtain⟨i,s,e,rfl⟩:=qP (h.ot c hc n)
    have hs:=dE e
    exact h3 (Qu.mpr ⟨s,hs,(mS (g.ok.e s hs).2.2 t).mpr y⟩)
  ·have h1:t∈ns:=h1.resolve_right h2
   refine⟨g.u1 t h1,fun c hc y=>?_⟩
   by_cases n:c.nm=20
   ·rw[oh ndb hc hb (n.trans hn.symm),hm]at y;exact h2 y
   ·exact h.oth g hc n (.inl h1) y
 ·rintro⟨h1,h2⟩
  have nm:t∉ms:=fun y=>h2 b hb ((hm t).mpr y)
  by_cases z:t∈ns
  ·exact .inr ⟨.inl z,nm⟩
  ·refine .inl ⟨h1,nm,fun y=>?_⟩
   obtain⟨s,hs,ts⟩:=Qu.mp y
   obtain⟨i,hi,rfl⟩:=Gh hs
   have e:aj[i]?=some aj[i]:=aN hi
   have mj:(20+(i:Int))∈S.nms:=by
    rw[h.nm,FB]
    exact Qd.mpr ⟨i,FW.mpr hi,rfl⟩
   obtain⟨c,hc,ec⟩:=Qd.mp mj
   have i0:i≠0:=fun y0=>by subst y0;rw[g.h0]at e;exact z (by rw[cm e];exact ts)
   obtain⟨i2,s2,e2,rfl⟩:=qP (h.ot c hc (by rw[ec];omega))
   have:i2=i:=by have:(10*2+(i2:Int))=20+i:=ec;omega
   subst this
   rw[e]at e2
   cases e2
   exact h2 _ hc ((mS (g.ok.e _ hs).2.2 t).mp ts)
end
noncomputable def bY(F:Addr->Prop)(H:Hp):Hp:=fun b=>@ite _ (F b) (Classical.propDecidable _) none (H b)
theorem eV{F:Addr->Prop}{H:Hp}{b:Addr}{o:HO}:bY F H b=some o↔¬F b/\H b=some o:=by
 unfold bY
 by_cases h:F b
 ·rw[aH h];exact⟨fun z=>(by cases z),fun z=>absurd h z.1⟩
 ·rw[av h];exact⟨fun z=>⟨h,z⟩,fun z=>z.2⟩
theorem fE{F:Addr->Prop}{H:Hp}:aw (bY F H) H:=fun _ _ z=>(eV.mp z).2
theorem iP{F:Addr->Prop}{H H':Hp}(s:aw H H'):aw (bY F H) (bY F H'):=fun _ _ z=>eV.mpr ⟨(eV.mp z).1,s _ _ (eV.mp z).2⟩
theorem ur{F F':Addr->Prop}{H H':Hp}(s:c8 F F' H H'):aw (bY F H) (bY F' H'):=fun _ _ z=>eV.mpr ⟨s.not (eV.mp z).1 (eV.mp z).2,s.1 _ _ (eV.mp z).1 (eV.mp z).2⟩
theorem qQ{H H':Hp}{S:YP}{l:Addr}{o:HO}(h:YT CY CD aL H S)(hl:H l=none)(e:H' l=some o):bY (Ft S) H' l=some o:=eV.mpr ⟨fun z=>(by obtain⟨u,q⟩:=ui h z;rw[hl]at q;cases q),e⟩
theorem jt.drawn{H H':Hp}{S:YP}{d c0:Addr}(h:YT CY CD aL H S)(hD:cj (bY (Ft S) H) d c0)(b:cI d H H'):YT CY CD aL H' S:=by
 obtain⟨_,_,_,_,e,_⟩:=hD
 obtain⟨nf,e⟩:=eV.mp e
 have u:∀c o,Ft S c->H c=some o->H' c=some o:=fun c o f z=>b _ _ (fun y=>nf (y▸f)) z
 have t:∀c xs,H c=some (.tup xs)->H' c=some (.tup xs):=fun c xs z=>b _ _ (bB z e nofun) z
 have kd:∀c ae,H c=some (.dK ae)->H' c=some (.dK ae):=fun c ae z=>b _ _ (bB z e nofun) z
 exact⟨⟨u _ _ (.inl rfl) h.y,.inl (kd _ _ h.w),kd _ _ h.c,.inl (kd _ _ h.we),b _ _ (bB h.b e nofun) h.b,kd _ _ h.nm,kd _ _ h.tm,fun i hi=>(h.ln i hi).keep (fun xs z=>u _ _ (yX hi) z) t,fun c hc=>⟨(h.ch c hc).1.keep (fun xs z=>u _ _ (yY hc) z) t,(h.ch c hc).2⟩,h.n60,h.b8,h.nd⟩,kd _ _ h.w,kd _ _ h.we,h.dd,h.fi,h.gi,h.fg⟩
theorem PN{F:Addr->Prop}{H H':Hp}{d c0:Addr}(hD:cj (bY F H) d c0)(hD':cj H' d c0)(b:cI d H H'):cj (bY F H') d c0/\cI d (bY F H) (bY F H'):=by
 obtain⟨_,_,_,_,e1,e2,_⟩:=hD
 obtain⟨ns,k,r,e,z1,z2,z3⟩:=hD'
 exact⟨⟨ns,k,r,e,eV.mpr ⟨(eV.mp e1).1,z1⟩,eV.mpr ⟨(eV.mp e2).1,z2⟩,z3⟩,fun c o n z=>eV.mpr ⟨(eV.mp z).1,b _ _ n (eV.mp z).2⟩⟩
theorem FP{H:Hp}{x:YA}{m:Int}{b:Addr}(h:YT CY CD aL H (y0 x m))(e:(∃xs,H b=some (.lst xs))\/∃xs,H b=some (.tup xs)):¬Ft (y0 x m) b:=fun z=>by
 have k:∀{c:Addr} {u:HO},H c=some u->(∀xs,u≠ .lst xs)->(∀xs,u≠ .tup xs)->b≠c:=fun hc n1 n2 y=>by
  subst y
  rcases e with⟨xs,e⟩|⟨xs,e⟩
  ·rw[hc]at e;exact n1 xs (cm e)
  ·rw[hc]at e;exact n2 xs (cm e)
 rcases z with z|z|z|z|z|z|⟨i,hi,_⟩|⟨c,hc,_⟩
 ·exact k h.y nofun nofun z
 ·exact k h.w nofun nofun z
 ·exact k h.c nofun nofun z
 ·exact k h.we nofun nofun z
 ·exact k h.b nofun nofun z
 ·exact k h.nm nofun nofun z
 ·exact absurd hi (mY _)
 ·cases hc
noncomputable def qR(S:YP)(nm:Int):List Int:=((S.bs.find? fun c=>decide (c.nm=nm)).map Bt.now).getD []
theorem zG{S:YP}{b:Bt}(nd:S.nms.Nodup)(hb:b∈S.bs):qR S b.nm=b.now:=by
 unfold qR
 cases e:S.bs.find? fun c=>decide (c.nm=b.nm)with
 |none=>exact absurd (bZ rfl) (FX.mp e b hb)
 |some c=>
  have:=List.find?_some e
  have:=fN this
  rw[oh nd (List.mem_of_find?_eq_some e) hb this]
  rfl
noncomputable def gh(S:YP)(rs:List Int):List Dt:=(rs.filter fun x=>!decide (x=20)).map fun nm=>.tup [.int nm,.lst ((qR S nm).map Dt.int)]
theorem FQ{S:YP}{rs:List Int}{x:Int}:gh S (rs++[x])=gh S rs++(if x=20 then[]else[.tup [.int x,.lst ((qR S x).map Dt.int)]]):=by
 unfold gh
 rw[gS,cF]
 by_cases h:x=20<;>simp[h]
theorem FR{S:YP}{l:Addr}{rs:List Int}{H1:Hp}{Fin:List V->Hp->Prop}(h:YT CY CD aL H1 S)(hl:H1 l=some (.lst (rs.map V.int)))(l8:rs.length<=8)(hm:∀x∈rs,x∈S.nms)
  (fin:∀H' ys,aw H1 H'->bS (bY (Ft S) H') ys (gh S rs)->Fin ys H'):
  ic (kE K l) (dH 0) (pB (kJ (v8) (dq 0) (tC (.int 20)))) (vd (kK (dq 0) (kK (jL CY "boat" (kc CY CD aL) [] E0 (dq 1) (kK (dq 0) iV)) iV))) Fin [none,some (.ref S.a.y)] H1:=by
 refine ji (fun i ys σ' H'=>(∃x,σ'=[x,some (.ref S.a.y)])/\aw H1 H'/\bS (bY (Ft S) H') ys (gh S (rs.take i))) rs.length ⟨⟨none,rfl⟩,aw.refl _,.nil⟩ ?_ ?_
 ·rintro ys σ' H' ⟨_,s1,r⟩
  rw[jy]at r
  exact⟨⟨_,ai.of (s1 _ _ hl),by rw[ar];exact aG _⟩,fin _ _ s1 r⟩
 ·rintro i ys σ' H' hi ⟨⟨x,rfl⟩,s1,r⟩
  have e1:rs[i]?=some rs[i]:=aN hi
  have hl':=s1 _ _ hl
  have et:rs.take (i+1)=rs.take i++[rs[i]]:=by rw[gu,e1];rfl
  have ly:ys.length<=8:=by rw[r.length];unfold gh;rw[ar];exact cN (j6 _ _) (by rw[e9];omega)
  refine⟨⟨_,.int rs[i],ai.of hl',by rw[aI,e1];rfl⟩,gI (by omega),?_⟩
  rintro x' G ⟨rfl,hy⟩
  have ex:=hy _ (ai.of hl')
  rw[aI,e1]at ex
  cases ex
  have h':=h.same s1
  have hy':=h'.y
  have hx:=hm _ (gT hi)
  generalize rs[i]=z at e1 et hx⊢
  refine fU ?_
  walk_at "r"
  by_cases q:z=20
  ·rw[show(!decide (V.int z=V.int 20))=false by rw[q];rfl]
   refine bj (cY hi ⟨⟨_,rfl⟩,s1,?_⟩)
   rw[et,FQ,aH q,gW]
   exact r
  ·rw[show(!decide (V.int z=V.int 20))=true by rw[cz fun y=>q (by injection y)];rfl]
   refine ba ?_
   walk_at "r"
   obtain⟨b,hb,rfl⟩:=Qd.mp hx
   refine⟨S,b,rfl,h'.toYardR,hb,fun l2 H2 s2 f2 hl2=>?_⟩
   walk_at "r"
   refine⟨by show 2<=sizeLine;decide,fun p hp=>?_⟩
   refine cY hi ⟨⟨_,rfl⟩,s1.trans (s2.trans (au hp)),?_⟩
   rw[et,FQ,av q]
   refine bS.snoc (r.mono (iP (s2.trans (au hp)))) (.tup (qQ (h'.same s2) hp aq) (.cons (.int _) (.cons (.lst (qQ h' f2 (au hp _ _ hl2)) ?_) .nil)))
   rw[zG h.nd hb]
   exact wq _
structure i7(C:Hp)(d c0 u v e:Addr)(ns ms left:List Int):Prop where
 dr:cj C d c0
 hu:C u=some (.lst (ns.map V.int))
 hv:C v=some (.lst (ms.map V.int))
 he:C e=some (.lst (left.map V.int))
theorem i7.same{C C':Hp}{d c0 u v e:Addr}{ns ms left:List Int}(s:aw C C')(h:i7 C d c0 u v e ns ms left):i7 C' d c0 u v e ns ms left:=⟨h.dr.same s,s _ _ h.hu,s _ _ h.hv,s _ _ h.he⟩
theorem i7.take{C C':Hp}{d c0 u v e:Addr}{ns ms left:List Int}(h:i7 C d c0 u v e ns ms left)(b:cj C' d c0/\cI d C C'):i7 C' d c0 u v e ns ms left:=⟨b.1,b.2 _ _ (h.dr.ne_ints h.hu) h.hu,b.2 _ _ (h.dr.ne_ints h.hv) h.hv,b.2 _ _ (h.dr.ne_ints h.he) h.he⟩
theorem FS{C:Hp}:∀{bM:List Addr} {bss:List (List Int)},fz C bM bss->bS C (bM.map V.ref) (bss.map fun b=>.lst (b.map Dt.int))
 |[],[],_=>.nil
 |[],_::_,h=>by cases h.1
 |_::_,[],h=>by cases h.1
 |b::bM,x::bss,h=>.cons (wt (h.2 0 b x rfl rfl)) (FS ⟨Nat.succ.inj h.1,fun i c y e1 e2=>h.2 (i+1) c y e1 e2⟩)
theorem PP{d:Int}{aj:List (List Int)}{c c':Bt}(h:c∈gQ d aj aj.length)(h':c'∈gQ d aj aj.length)(e:c.nm=c'.nm):c=c':=by
 obtain⟨i,s,z,rfl⟩:=qP h
 obtain⟨i',s',z',rfl⟩:=qP h'
 have:i=i':=by have:10*d+(i:Int)=10*d+i':=e;omega
 subst this
 rw[z]at z'
 cases z'
 rfl
theorem fD.oth_eq{aj bss bss':List (List Int)}{ns:List Int}{af co:Int}{a a':YA}{j j':Nat}{S S':YP}{rs:List Int}(h:fD aj ns af co bss a j S)(h':fD aj ns af co bss' a' j' S')(nd:S.nms.Nodup)(nd':S'.nms.Nodup)(hr:∀x∈rs,x∈S.nms):gh S rs=gh S' rs:=by
 unfold gh
 refine kj fun x hx=>?_
 obtain⟨hx,n⟩:=gk.mp hx
 have n:x≠20:=by simpa using n
 have m:=hr x hx
 have m':x∈S'.nms:=by rw[h'.nm,<-h.nm];exact m
 obtain⟨c,hc,rfl⟩:=Qd.mp m
 obtain⟨c',hc',e⟩:=Qd.mp m'
 have:=PP (h.ot c hc n) (h'.ot c' hc' (by rw[e];exact n)) e.symm
 subst this
 rw[zG nd hc,zG nd' hc']
theorem fD.left_len{aj bss:List (List Int)}{ns ms left:List Int}{af co:Int}{a:YA}{j:Nat}{S:YP}(h:fD aj ns af co bss a j S)(g:ip aj ns ms af)(dw:lM ns ms af aj left){b:Bt}(hb:b∈S.bs)(hn:b.nm=20)(hm:∀x,x∈b.now↔x∈ms)(ndb:S.nms.Nodup):(left++(ns++ms).filter fun t=>!decide (t∈b.now)).length<=60:=by
 have ee:(ms.filter fun t=>!decide (t∈b.now))=[]:=List.filter_eq_nil_iff.mpr fun t ht=>by simp[(hm t).mpr ht]
 have nd:(left++(ns++ms).filter fun t=>!decide (t∈b.now)).Nodup:=by
  rw[gS,ee,gW,qT]
  refine⟨dw.nd,g.e2.nd1.filter _,fun x hx y hy z=>?_⟩
  subst z
  exact((dw.mem x).mp hx).2.2 (Qu.mpr ⟨ns,dE g.h0,(gk.mp hy).1⟩)
 refine cN (i4 nd (ns:=cy 1 60) fun t ht=>pZ.mpr ?_) (uP (jR 1 60))
 have:=(h.ly.loose.mp ((h.left g dw hb hn hm ndb t).mp ht)).1
 omega
theorem PQ{l:Addr}{ch:List (Int×List Int)}{H1:Hp}{Fin:List V->Hp->Prop}(hch:gN H1 l ch)(l4:ch.length<=400)(fin:∀H' ys,aw H1 H'->bS H' ys (ch.map fun r=>.lst (r.2.map Dt.int))->Fin ys H'):
  ic (kE K l) (pj K 2 (ng (dH 0) (ng (dH 1) rB))) hV (rP (se K) (kK (dq 1) iV)) Fin [none,none] H1:=by
 obtain⟨ts,Bs,hl,lt,lb,h⟩:=hch
 refine ji (fun i ys σ' H'=>(∃x y,σ'=[x,y])/\aw H1 H'/\bS H' ys ((ch.take i).map fun r=>.lst (r.2.map Dt.int))) ch.length ⟨⟨none,none,rfl⟩,aw.refl _,.nil⟩ ?_ ?_
 ·rintro ys σ' H' ⟨_,s1,r⟩
  rw[jy]at r
  exact⟨⟨_,ai.of (s1 _ _ hl),by rw[ar];omega⟩,fin _ _ s1 r⟩
 ·rintro i ys σ' H' hi ⟨⟨x,y,rfl⟩,s1,r⟩
  have e1:ts[i]?=some (ts[i]'(by omega)):=aN (by omega)
  have e2:Bs[i]?=some (Bs[i]'(by omega)):=aN (by omega)
  have e3:ch[i]?=some ch[i]:=aN hi
  obtain⟨q1,q2⟩:=h i _ _ _ e1 e2 e3
  have q1:=s1 _ _ q1
  have q2:=s1 _ _ q2
  have hl':=s1 _ _ hl
  have ly:=r.length
  rw[ar,e9]at ly
  refine⟨⟨_,.ref (ts[i]'(by omega)),ai.of hl',by rw[aI,e1];rfl⟩,gI (by omega),?_⟩
  rintro x' G ⟨rfl,hy⟩
  have ex:=hy _ (ai.of hl')
  rw[aI,e1]at ex
  cases ex
  refine ig (ax.of q1) rfl ?_
  walk_at "r"
  refine ba ?_
  walk_at "r"
  refine⟨_,_,rfl,.inr (ax.of q2),fun p hp=>?_⟩
  refine cY hi ⟨⟨_,_,rfl⟩,s1.trans (au hp),?_⟩
  rw[gu,e3,cF]
  exact bS.snoc (r.mono (au hp)) (wt aq)
theorem PR{S:YP}{b:Bt}{p:Addr}{xs:List Int}{H1:Hp}{Fin:List V->Hp->Prop}(h:YT CY CD aL H1 S)(hp:H1 p=some (.lst (xs.map V.int)))(hb:b∈S.bs)(hn:b.nm=20)(l9:xs.length<=900)(fin:∀H',aw H1 H'->Fin ((xs.filter fun t=>!decide (t∈b.now)).map V.int) H'):
  ic (kE K p) (dH 0) (pB (kJ (ma K true) (dq 0) (jL CY "boat" (kc CY CD aL) [] E0 (dq 1) (kK (tC (.int 20)) iV)))) (dq 0) Fin [none,some (.ref S.a.y)] H1:=by
 refine ji (fun i ys σ' H'=>(∃x,σ'=[x,some (.ref S.a.y)])/\aw H1 H'/\ys=((xs.take i).filter fun t=>!decide (t∈b.now)).map V.int) xs.length ⟨⟨none,rfl⟩,aw.refl _,rfl⟩ ?_ ?_
 ·rintro ys σ' H' ⟨_,s1,rfl⟩
  rw[jy]
  exact⟨⟨_,ai.of (s1 _ _ hp),by rw[ar];exact aG _⟩,fin _ s1⟩
 ·rintro i ys σ' H' hi ⟨⟨x,rfl⟩,s1,rfl⟩
  have e1:xs[i]?=some xs[i]:=aN hi
  have hp':=s1 _ _ hp
  have et:xs.take (i+1)=xs.take i++[xs[i]]:=by rw[gu,e1];rfl
  have lf:((xs.take i).filter fun t=>!decide (t∈b.now)).length<=900:=cN (j6 _ _) (by rw[e9];omega)
  refine⟨⟨_,.int xs[i],ai.of hp',by rw[aI,e1];rfl⟩,gI (by rw[ar];omega),?_⟩
  rintro x' G ⟨rfl,hy⟩
  have ex:=hy _ (ai.of hp')
  rw[aI,e1]at ex
  cases ex
  have h':=h.same s1
  have hy':=h'.y
  generalize xs[i]=z at e1 et⊢
  refine fU ?_
  walk_at "r"
  refine⟨S,b,by rw[hn];rfl,h'.toYardR,hb,fun l2 H2 s2 f2 hl2=>?_⟩
  refine mx (ai.of hl2) ?_
  walk_at "r"
  rw[et,gS]
  by_cases q:z∈b.now
  ·rw[bZ q]
   refine bj (cY hi ⟨⟨_,rfl⟩,s1.trans s2,?_⟩)
   simp[q]
  ·rw[cz q]
   refine ba ?_
   walk_at "r"
   refine cY hi ⟨⟨_,rfl⟩,s1.trans s2,?_⟩
   simp[q]
theorem uv{k:Nat}:∀{l:List Dt},(∀d∈l,d.depth<=k)->kT l<=k
 |[],_=>b_ _
 |d::r,h=>Nat.max_le.mpr ⟨h d dR,uv fun e he=>h e (d_ _ he)⟩
theorem FT(ns:List Int):(Dt.lst (ns.map Dt.int)).depth<=1:=by
 show kT _+1<=1
 have:=uv (k:=0) (l:=ns.map Dt.int) fun d hd=>by obtain⟨_,_,rfl⟩:=Qd.mp hd;exact aG _
 omega
theorem PU(l:List (List Int)):(Dt.lst (l.map fun b=>.lst (b.map Dt.int))).depth<=40:=by
 show kT _+1<=40
 have:=uv (k:=1) (l:=l.map fun b=>.lst (b.map Dt.int)) fun d hd=>by obtain⟨b,_,rfl⟩:=Qd.mp hd;exact FT b
 omega
theorem PV(S:YP)(rs:List Int):(Dt.lst (gh S rs)).depth<=40:=by
 show kT _+1<=40
 have:=uv (k:=2) (l:=gh S rs) fun d hd=>by
  obtain⟨x,_,rfl⟩:=Qd.mp hd
  have:=FT (qR S x)
  show max 0 (max _ 0)+1<=2
  omega
 omega
theorem PX{af:Int}{ch:List (Int×List Int)}(h:j2 af ch=true):∀r∈ch,(r.2.length:Int)<=af:=fun r hr=>by
 unfold j2 at h
 simp only[fF,zI]at h
 have:=h.2.2.2.1 r hr
 unfold g8 cR at this
 simp only[fF,mX]at this
 exact this.1.2
noncomputable def wdLook(K:W.Frag)(a:Addr)(x:Str):Bool:=match K.lookup a with
 |some o=>(match o.cls with|.type "tuple"=>true|_=>false) && match o.data with
  |.seq ak _=>(match ak.toList with|[.str y _]=>decide (y=x)|_=>false)|_=>false
 |none=>false
theorem PY{K:W.Frag}{a:Addr}{x:Str}(h:wdLook K a x=true)(H:Hp):ax K H a [.str x]:=by
 unfold wdLook at h
 split at h
 ·rename_i o e
  rw[fF]at h
  obtain⟨h1,h2⟩:=h
  split at h2
  ·rename_i ak n ed
   split at h2
   ·rename_i y t el
    obtain rfl:=fN h2
    refine .inr ⟨o,ak,n,e,?_,ed,?_,?_⟩
    ·split at h1
     ·assumption
     ·cases h1
    ·have:ak.size=1:=by rw[<-gq,el];rfl
     rw[this,m_];decide
    ·rw[el];exact .cons ⟨t,rfl⟩ .nil
   ·cases h2
  ·cases h2
 ·cases h
theorem FU{H:Hp}{d c0:Addr}(h:cj H d c0):∃xs,H d=some (.lst xs):=by
 obtain⟨_,_,_,_,e,_⟩:=h;exact⟨_,e⟩
theorem PZ{H:Hp}{d c0:Addr}(h:cj H d c0):∃o,H d=some o:=by
 obtain⟨xs,e⟩:=FU h;exact⟨_,e⟩
noncomputable def ux(K:W.Frag):Sp:=fun vs H Q _=>∃(a:Addr) (ns:List Int),vs=[.ref a]/\ai K H a (ns.map V.int)/\ns.length<=63/\∀H',Q (.bl true) H'
abbrev iq:Stmt:=bf 89
abbrev mT:List Str:=["_law_script","_law_draw","_law_slip_here","_law_start","_law_goal","_law_left","_law_sets","_law_k","_law_some_here","_law_yard","_law_coins","_law_others","_law_plan","_law_boat","_law_chain"]
theorem fM:a_ mT ["_law_script"] (aC iq):=bc
theorem P_:(["_law_timber","_law_start","_law_goal"]:List Str).Nodup:=by decide+kernel
theorem P':bE mT (aC iq) (cS [("_law_timber",kL),("_law_goal",kF),("_law_start",kF)]) ["_law_timber"] [(3,"_law_start"),(4,"_law_goal")]:=cg
theorem Q0:(["_law_timber","_law_some_here"]:List Str).Nodup:=by decide+kernel
theorem Q3:bE mT (aC iq) (cS [("_law_timber",kL),("_law_some_here",kF)]) ["_law_timber"] [(8,"_law_some_here")]:=cg
theorem Q4:(["_law_name","_law_yard"]:List Str).Nodup:=by decide+kernel
theorem Q5:bE mT (aC iq) (cS [("_law_name",kL),("_law_yard",kF)]) ["_law_name"] [(9,"_law_yard")]:=cg
theorem FV:(["_law_day","_law_boat"]:List Str).Nodup:=by decide+kernel
theorem Q6:bE mT (aC iq) (cS [("_law_day",kL),("_law_boat",kL),("list",kG)]) ["_law_day","_law_boat"] []:=cg
theorem Q7:(["_law_name","_law_yard"]:List Str).Nodup:=by decide+kernel
theorem Q8:bE mT (aC iq) (cS [("_law_name",kL),("_law_yard",kF)]) ["_law_name"] [(9,"_law_yard")]:=cg
theorem Q9:(["_law_timber","_law_yard"]:List Str).Nodup:=by decide+kernel
theorem Qa:bE mT (aC iq) (cS [("_law_timber",kL),("_law_yard",kF)]) ["_law_timber"] [(9,"_law_yard")]:=cg
theorem Qb{f:Addr}{fd:FuncData}(F:aX K "law" "law" iq f fd)(T:bG mg)(AD:aY P w K mg base "_law_begin" 1 ["_law_script"] (wY K))(fu:aY P w K mg base "_law_take" 1 ["_law_draw","_law_many"] nY)(lX:aY P w K mg base "_law_some" 2 ["_law_draw","_law_pool","_law_many"] (tj K))(AE:aY P w K mg base "_law_slip" 2 ["_law_draw"] xu)(AF:aY P w K mg base "_law_ends" 3 ["_law_draw","_law_slip_here"] xw)(oY:aY P w K mg base "_law_set" 1 ["_law_timbers"] (iL K))(AG:aY P w K mg base "carried" 6 ["start","goal","slip"] (xP K))(AH:aY P w K mg base "judged" 3 ["slip","chain"] (yd K))(AI:nX P w K mg base "Yard" CY 3 ["self","slip"] (ze CY CD aL))(oZ:cW P w K mg base CY "enter" 10 ["self","day","fact"] (zy CY CD aL))(lY:cW P w K mg base CY "boats" 1 ["self"] (ud CY CD aL))(gx:cW P w K mg base CY "boat" 2 ["self","name"] (kc CY CD aL))(AJ:cW P w K mg base CY "owed" 4 ["self","name"] (yS CY CD aL))(AK:cW P w K mg base CY "chain" 1 ["self","name"] (yQ CY CD aL))(oX:cW P w K mg base CY "loose" 3 ["self"] (ug CY CD aL)):aK P w K mg base aV 11 f fd ["_law_script"] (ux K):=by
 refine F.ok fM (fun vs H Q E h=>?_) (fun aM A outer s H vs Q E hr h=>?_)
 ·obtain⟨_,_,rfl,_⟩:=h
  rfl
 ·obtain⟨a0,sc,rfl,hS,hl,k⟩:=h
  refine⟨_,(aF (bR (i:=1) fM.nd rfl (Or.inl rfl) (pC AD (a9 (pv 0) ag)))
   (aF (bR (i:=2) fM.nd rfl (Or.inl rfl) (pC AE (a9 (pv 1) ag)))
   (aF (iU (pC AF (a9 (pv 1) (a9 (pv 2) ag))) (fV (K:=K) (n:=2) rfl rfl (bW (aR (i:=3) fM.nd rfl (Or.inr rfl)) (bW (aR (i:=4) fM.nd rfl (Or.inr rfl)) fw))))
   (aF (kR (iy:=5) rfl fM.nd rfl rfl P' (uX (by rfl) T.z_range (a9 ay (a9 ay ag))) (by intro _ _ _ _ _;exact(aR (i:=0) P_ rfl (Or.inl rfl))) (by intro _ _ _ _ _;exact(iH ((AZ (c7 (mn (K:=K) rfl) (pv 0) (pv 1) (by with_unfolding_all rfl)) (AY (c7 (mn (K:=K) rfl) (pv 0) (pv 2) (by with_unfolding_all rfl))))).pt)) (by intro _ _ _ _ _;exact(pv 0)) (by rfl))
   (aF (bR (i:=6) fM.nd rfl (Or.inl rfl) (fR (a9 (dJ (p_ (K:=K) rfl) (by rfl) T.z_tuple mi (a9 (pv 3) ag)) ag)))
   (ie (hU gU rfl (nj (by rfl) T.z_range (a9 (pC fu (a9 (pv 1) (a9 ay ag))) ag)) (aR (i:=7) fM.nd rfl (Or.inl rfl)) (aF (bR (i:=8) fM.nd rfl (Or.inr rfl) (pC lX (a9 (pv 1) (a9 (pv 5) (a9 (bu dI ay (pC fu (a9 (pv 1) (a9 (pv 2) ag)))) ag)))))
   (aF (kR (iy:=5) rfl fM.nd rfl rfl Q3 (fm (K:=K) rfl (pv 5)) (by intro _ _ _ _ _;exact(aR (i:=0) Q0 rfl (Or.inl rfl))) (by intro _ _ _ _ _;exact(iH (c7 (mn (K:=K) rfl) (pv 0) (pv 1) (by with_unfolding_all rfl)))) (by intro _ _ _ _ _;exact(pv 0)) (by rfl))
   (aA (dG (nS (K:=K) rfl (pv 6) (a9 (dJ (p_ (K:=K) rfl) (by rfl) T.z_tuple mi (a9 (pv 8) ag)) ag)))))))
   (ie (bR (i:=9) fM.nd rfl (Or.inr rfl) (La AI (hr.mono (by omega)) (by rfl) (a9 (pv 2) ag)))
   (ie (dG (pM oZ (pv 9) (a9 ay (a9 (e_ (a9 fO (a9 ay ag))) ag))))
   (ie (dG (pM oZ (pv 9) (a9 ay (a9 (e_ (a9 fO (a9 (e_ ag) (a9 (dJ (p_ (K:=K) rfl) (by rfl) T.z_tuple mi (a9 (pv 6) ag)) ag)))) ag))))
   (aF (bR (i:=10) fM.nd rfl (Or.inl rfl) (bu dI ay (pC fu (a9 (pv 1) (a9 (bu Bq ay ay) ag)))))
   (aF (dG (pM oZ (pv 9) (a9 ay (a9 (e_ (a9 fO (a9 ay (a9 (pv 10) ag)))) ag))))
   (ie (kR (iy:=11) rfl fM.nd rfl rfl Q5 (fm (K:=K) rfl (kY lY (hr.mono (by omega)) (pv 9))) (by intro _ _ _ _ _;exact(aR (i:=0) Q4 rfl (Or.inl rfl))) (by intro _ _ _ _ _;exact(iH (c7 ny (pv 0) ay (bO _)))) (by intro _ _ _ _ _;exact(e_ (a9 (pv 0) (a9 (pM gx (pv 1) (a9 (pv 0) ag)) ag)))) (by rfl))
   (ie (bR (i:=12) fM.nd rfl (Or.inl rfl) (pC AG (a9 (pv 3) (a9 (pv 4) (a9 (pv 2) ag)))))
   (aF (bQ (jK (rq (pv 12))) (aA (aU gA)) bU)
   (ie (hU gU rfl (sL (K:=K) rfl (by rfl) T.z_enumerate (a9 (pv 12) ag)) (fV (K:=K) (n:=2) rfl rfl (bW (aR (i:=7) fM.nd rfl (Or.inl rfl)) (bW (aR (i:=13) fM.nd rfl (Or.inl rfl)) fw))) (aF (bQ (c7 ny (pM oZ (pv 9) (a9 (bu dI ay (pv 7)) (a9 (e_ (a9 fO (a9 (e_ (a9 ay ag)) (a9 (e_ (a9 (dJ (p_ (K:=K) rfl) (by rfl) T.z_tuple mi (a9 (pv 13) ag)) ag)) ag)))) ag))) fO (bO _)) (aA (aU gA)) bU)
   (aA (bQ ((gZ (c7 (mn (K:=K) rfl) ay (kY lY (hr.mono (by omega)) (pv 9)) (by with_unfolding_all rfl)) (iT (c7 (Dw hr.units) (pM gx (pv 9) (a9 ay ag)) (pC oY (a9 (pv 13) ag)) (bO _))))).pt (aA (aU gA)) bU))))
   (ie (bQ ((gZ (c7 (Dw hr.units) (pM gx (pv 9) (a9 ay ag)) (pC oY (a9 (pv 4) ag)) (bO _)) (iT (c7 (Eo hr.units) (pM AJ (pv 9) (a9 ay ag)) (e_ (a9 (pv 10) (a9 ay ag))) (bO _))))).pt (aA (aU gA)) bU)
   (aF (bR (i:=14) fM.nd rfl (Or.inl rfl) (pM AK (pv 9) (a9 ay ag)))
   (ie (bQ ((gZ (eJ (dX (pC AH (a9 (pv 2) (a9 (pv 14) ag))))) (iT (c7 (wj hr.units) (eL rfl Q6 (fm (K:=K) rfl (pv 14)) (by intro _ _ _ _ _;exact(fV (K:=K) (n:=2) rfl rfl (bW (aR (i:=0) FV rfl (Or.inl rfl)) (bW (aR (i:=1) FV rfl (Or.inl rfl)) fw)))) (by intro _ _ _ _ _;exact cH) (by intro _ _ _ _ _;exact(dJ (nM (K:=K) rfl) (by rfl) T.z_list mh (a9 (pv 1) ag)))) (bu nG (fR (a9 (pC oY (a9 (pv 3) ag)) ag)) (pv 12)) (bO _))))).pt (aA (aU gA)) bU)
   (ie (bQ (c7 (wj hr.units) (eL rfl Q8 (fm (K:=K) rfl (kY lY (hr.mono (by omega)) (pv 9))) (by intro _ _ _ _ _;exact(aR (i:=0) Q7 rfl (Or.inl rfl))) (by intro _ _ _ _ _;exact(iH (c7 ny (pv 0) ay (bO _)))) (by intro _ _ _ _ _;exact(e_ (a9 (pv 0) (a9 (pM gx (pv 1) (a9 (pv 0) ag)) ag))))) (pv 11) (bO _)) (aA (aU gA)) bU)
   (aA (aU (fP (Dv hr.units) (kY oX (hr.mono (by omega)) (pv 9)) (pC oY (a9 (bu nG (pv 5) (eL rfl Qa (fm (K:=K) rfl (bu nG (pv 3) (pv 4))) (by intro _ _ _ _ _;exact(aR (i:=0) Q9 rfl (Or.inl rfl))) (by intro _ _ _ _ _;exact(iH (c7 (mn (K:=K) rfl) (pv 0) (pM gx (pv 1) (a9 ay ag)) (by with_unfolding_all rfl)))) (by intro _ _ _ _ _;exact(pv 0)))) ag)) (bO _))))))))))))))))))))))),?_⟩
  walk_at "r"
  refine⟨a0,sc,rfl,hS,hl,fun d c0 H1 s1 hd0 hc0 hD1=>?_⟩
  walk_at "r"
  refine⟨d,c0,rfl,hD1,fun af H8 sl0 sl1 hD8 b8=>?_⟩
  walk_at "r"
  refine⟨d,c0,af,rfl,hD8,sl0,sl1,fun t H9 u v ns ms hD9 b9 _ ht9 hu9 hv9 en=>?_⟩
  walk_at "r"
  refine⟨1,61,rfl,by decide,?_⟩
  refine Dy (σ0:=[some (.ref u),some (.ref v)]) (f:=fun z=>!decide (z∈ns) && !decide (z∈ms)) (by decide) ?_ ?_
  ·intro z R hR
   walk_at "r"
   refine mx (ai.of hu9) ?_
   by_cases q:z∈ns
   ·rw[bZ q]at hR⊢
    walk_at "r"
    refine bj ?_
    walk_at "r"
    exact hR
   ·rw[cz q]at hR⊢
    walk_at "r"
    refine ba ?_
    walk_at "r"
    refine mx (ai.of hv9) ?_
    walk_at "r"
    exact hR
  intro e he
  have nr:(cy 1 (61 - 1:Int).toNat).Nodup:=(wu 1 60).imp fun h z=>by omega
  have dw:=PD (goal:=ms) sl1 en.nd1 en.nd2 en.u1 en.p1 en.l1 en.l2 (L:=cy 1 (61 - 1:Int).toNat) nr (fun t=>by rw[pZ];show 1<=t/\t<1+((60:Nat):Int)↔_;omega) (jR 1 60)
  generalize(cy 1 (61 - 1:Int).toNat).filter (fun z=>!decide (z∈ns) && !decide (z∈ms))=left at dw
  have s10:=au (o:=.lst (left.map V.int)) he
  have he10:ab H9 e (.lst (left.map V.int)) e=_:=aq
  generalize ab H9 e (.lst (left.map V.int))=H10 at s10 he10⊢
  have hD10:=hD9.same s10
  have hu10:=s10 _ _ hu9
  have hv10:=s10 _ _ hv9
  clear hD1 hD8 hD9 hu9 hv9 ht9 s1 b8 b9 s10 he
  walk_at "r"
  refine qb (ai.of hu10) fun tp htp=>?_
  have s11:=au (o:=.tup (ns.map V.int)) htp
  have ht11:ab H10 tp (.tup (ns.map V.int)) tp=_:=aq
  generalize ab H10 tp (.tup (ns.map V.int))=H11 at s11 ht11⊢
  walk_at "r"
  refine⟨by show 1<=sizeLine;decide,fun pl hpl=>?_⟩
  have s12:=au (o:=.lst [.ref tp]) hpl
  have hpl12:ab H11 pl (.lst [.ref tp]) pl=some (.lst ([tp].map V.ref)):=aq
  have hD12:=(hD10.same s11).same s12
  have hu12:=s12 _ _ (s11 _ _ hu10)
  have hv12:=s12 _ _ (s11 _ _ hv10)
  have he12:=s12 _ _ (s11 _ _ he10)
  have ht12:=s12 _ _ ht11
  generalize ab H11 pl (.lst [.ref tp])=H12 at s12 hpl12 hD12 hu12 hv12 he12 ht12⊢
  have npu:u≠pl:=bh (s11 _ _ hu10) hpl
  have npv:v≠pl:=bh (s11 _ _ hv10) hpl
  have npd:pl≠d:=fun z=>by obtain⟨o,z'⟩:=PZ (hD10.same s11);rw[z,z']at hpl;cases hpl
  walk_at "r"
  refine⟨fun σ' H'=>∃(left:List Int) (aj:List (List Int)) (tl:List Addr) (e:Addr) (y7 y8:Option V),σ'=[some (.ref a0),some (.ref d),some (.int af),some (.ref u),some (.ref v),some (.ref e),some (.ref pl),y7,y8,none,none,none,none,none,none]/\cj H' d c0/\H' u=some (.lst (ns.map V.int))/\H' v=some (.lst (ms.map V.int))/\H' e=some (.lst (left.map V.int))/\H' pl=some (.lst (tl.map V.ref))/\eU H' tl aj/\lM ns ms af aj left,?_,?_⟩
  ·walk_at "r"
   refine⟨d,c0,4,rfl,hD12,by decide,by decide,fun r H13 r0 r1 hD13 b13=>?_⟩
   walk_at "r"
   refine⟨r,rfl,by omega,by omega,?_⟩
   have tk:∀{H H':Hp} {b:Addr} {xs:List V},cj H d c0->cI d H H'->H b=some (.tup xs)->H' b=some (.tup xs):=fun hD b z=>b _ _ (fun y=>by obtain⟨o,z'⟩:=FU hD;rw[y,z']at z;cases z) z
   refine h_ (fun i σ' H'=>∃(left:List Int) (aj:List (List Int)) (tl:List Addr) (e:Addr) (y7 y8:Option V),σ'=[some (.ref a0),some (.ref d),some (.int af),some (.ref u),some (.ref v),some (.ref e),some (.ref pl),y7,y8,none,none,none,none,none,none]/\cj H' d c0/\H' u=some (.lst (ns.map V.int))/\H' v=some (.lst (ms.map V.int))/\H' e=some (.lst (left.map V.int))/\H' pl=some (.lst (tl.map V.ref))/\eU H' tl aj/\lM ns ms af aj left/\aj.length=i+1) r.toNat
    ⟨left,[ns],[tp],e,none,none,rfl,hD13,b13 _ _ (hD12.ne_ints hu12) hu12,b13 _ _ (hD12.ne_ints hv12) hv12,b13 _ _ (hD12.ne_ints he12) he12,b13 _ _ npd hpl12,⟨rfl,fun i t ys e1 e2=>by
     cases i with
     |zero=>cases e1;cases e2;exact tk hD12 b13 ht12
     |succ j=>simp at e1⟩,dw,rfl⟩ ?_ ?_
   ·rintro σ' H' ⟨left,aj,tl,e,y7,y8,rfl,q1,q2,q3,q4,q5,q6,q7,_⟩
    refine⟨aG _,?_⟩
    walk_at "r"
    exact⟨left,aj,tl,e,y7,y8,rfl,q1,q2,q3,q4,q5,q6,q7⟩
   ·rintro i σ' H' hi ⟨left,aj,tl,e,y7,y8,rfl,q1,q2,q3,q4,q5,q6,q7,q8⟩
    refine⟨hi,?_⟩
    rintro x' H2 ⟨rfl,rfl⟩
    walk_at "r"
    refine⟨d,c0,af,rfl,q1,by omega,qr (by omega) (by omega),fun m H3 m0 m1 hD3 b3=>?_⟩
    have he3:=b3 _ _ (q1.ne_ints q4) q4
    have ll:left.length<=60:=cN (i4 q7.nd (ns:=cy 1 60) fun t ht=>pZ.mpr (by have:=((q7.mem t).mp ht).1;omega)) (uP (jR 1 60))
    have lg:=q7.len
    walk_at "r"
    refine⟨d,c0,e,left,1+m,rfl,hD3,ai.of he3,by omega,by omega,by omega,fun p H4 sm us hD4 b4 _ hp4 pm lm=>?_⟩
    have nd4:sm.Nodup:=(qT.mp (pm.nodup_iff.mpr q7.nd)).1
    have sub:∀t∈sm,t∈left:=fun t ht=>pm.mem_iff.mp (ki _ ht)
    have dn:=PB q7 (by omega) sl1 nd4 sub (by omega) (by omega)
    have he4:=b4 _ _ (hD3.ne_ints he3) he3
    have hu4:=b4 _ _ (hD3.ne_ints (b3 _ _ (q1.ne_ints q2) q2)) (b3 _ _ (q1.ne_ints q2) q2)
    have hv4:=b4 _ _ (hD3.ne_ints (b3 _ _ (q1.ne_ints q3) q3)) (b3 _ _ (q1.ne_ints q3) q3)
    have hl4:=b4 _ _ npd (b3 _ _ npd q5)
    have ts4:eU H4 tl aj:=⟨q6.1,fun i t ys e1 e2=>tk hD3 b4 (tk q1 b3 (q6.2 i t ys e1 e2))⟩
    clear b3 b4 he3 pm
    walk_at "r"
    refine⟨e,rfl,⟨_,ai.of he4⟩,?_⟩
    refine Ke (σ0:=[some (.ref p)]) (f:=fun z=>!decide (z∈sm)) (by omega) (ai.of he4) ?_ ?_
    ·intro z R hR
     walk_at "r"
     refine mx (ai.of hp4) ?_
     walk_at "r"
     exact hR
    intro e5 he5
    generalize left.filter (fun z=>!decide (z∈sm))=left' at dn
    have s5:=au (o:=.lst (left'.map V.int)) he5
    have hn5:ab H4 e5 (.lst (left'.map V.int)) e5=_:=aq
    generalize ab H4 e5 (.lst (left'.map V.int))=H5 at s5 hn5⊢
    have hp5:=s5 _ _ hp4
    have hl5:=s5 _ _ hl4
    walk_at "r"
    refine⟨.inl ⟨rfl,_,ai.of hl5⟩,?_⟩
    walk_at "r"
    refine qb (ai.of hp5) fun t6 ht6=>?_
    have s6:=au (o:=.tup (sm.map V.int)) ht6
    have e6:ab H5 t6 (.tup (sm.map V.int)) t6=_:=aq
    generalize ab H5 t6 (.tup (sm.map V.int))=H6 at s6 e6⊢
    have s56:=s5.trans s6
    have hl6:=s6 _ _ hl5
    walk_at "r"
    refine kW hl6 (gI (by rw[ar,q6.1];omega)) ?_
    walk_at "r"
    have kl:∀{b:Addr} {zs:List Int},b≠pl->H6 b=some (.lst (zs.map V.int))->ab H6 pl (.lst (tl.map V.ref++[.ref t6])) b=some (.lst (zs.map V.int)):=fun n z=>by rw[az n];exact z
    have kt:∀{b:Addr} {xs:List V},H6 b=some (.tup xs)->ab H6 pl (.lst (tl.map V.ref++[.ref t6])) b=some (.tup xs):=fun z=>by rw[az (bB z hl6 nofun)];exact z
    refine⟨left',aj++[sm],tl++[t6],e5,_,_,rfl,?_,?_,?_,?_,by rw[aq,cF];rfl,?_,dn,by rw[bF,q8];rfl⟩
    ·obtain⟨xs,a,r,f,z1,z2,z3⟩:=hD4.same s56
     have npc:c0≠pl:=fun z=>by
      rw[z,hl6]at z2
      have:=cm z2
      injection this with this
      cases tl with
      |nil=>exact absurd q6.1 (by rw[q8];simp)
      |cons _ _=>cases xs<;>simp at this
     exact⟨xs,a,r,f,by rw[az (Ne.symm npd)];exact z1,by rw[az npc];exact z2,z3⟩
    ·exact kl npu (s56 _ _ hu4)
    ·exact kl npv (s56 _ _ hv4)
    ·exact kl (Ne.symm (bh hl4 he5)) (s6 _ _ hn5)
    ·refine⟨by rw[bF,bF,q6.1];rfl,fun i t ys z1 z2=>?_⟩
     rcases dh i tl.length with q|q
     ·rw[eZ q]at z1
      rw[eZ (by rw[<-q6.1];exact q)]at z2
      exact kt (s56 _ _ (ts4.2 i t ys z1 z2))
     ·rw[dY q]at z1
      rw[dY (by rw[<-q6.1];exact q),<-q6.1]at z2
      cases hi:i - tl.length with
      |zero=>rw[hi]at z1 z2;cases z1;cases z2;exact kt e6
      |succ j=>rw[hi]at z1;simp at z1
  ·rintro σ' H20 ⟨left,aj,tl,e,y7,y8,rfl,q1,q2,q3,q4,q5,q6,q7⟩
   have sg:ip aj ns ms af:=⟨q7.h0,q7.ok,sl1,en,q7.gl⟩
   clear dw npu npv npd hD12 hu12 hv12 he12 ht12 hpl12 s11 s12
   walk_at "r"
   refine⟨fun σ' H'=>∃a:YA,σ'=[some (.ref a0),some (.ref d),some (.int af),some (.ref u),some (.ref v),some (.ref e),some (.ref pl),y7,y8,some (.ref a.y),none,none,none,none,none]/\YT CY CD aL H' (y0 a af)/\i7 (bY (Ft (y0 a af)) H') d c0 u v e ns ms left/\bY (Ft (y0 a af)) H' pl=some (.lst (tl.map V.ref))/\eU (bY (Ft (y0 a af)) H') tl aj,?_,?_⟩
   ·walk_at "r"
    intro y dx hy hdx ne
    have s3:=(au (o:=.own y) hdx).trans (au (o:=.ins CY dx []) (show ab H20 dx (.own y) y=none by rw[az (Ne.symm ne)];exact hy))
    refine⟨y,dx,af,rfl,aq,sl0,sl1,fun a H4 ea h4 b4=>⟨rfl,a,by rw[<-ea];rfl,h4,?_⟩⟩
    have kl:∀{b:Addr} {xs:List V},H20 b=some (.lst xs)->bY (Ft (y0 a af)) H4 b=some (.lst xs):=fun z=>by
     have:=b4 _ _ (bh z hy) (s3 _ _ z)
     exact eV.mpr ⟨FP h4 (.inl ⟨_,this⟩),this⟩
    have kt:∀{b:Addr} {xs:List V},H20 b=some (.tup xs)->bY (Ft (y0 a af)) H4 b=some (.tup xs):=fun z=>by
     have:=b4 _ _ (bh z hy) (s3 _ _ z)
     exact eV.mpr ⟨FP h4 (.inr ⟨_,this⟩),this⟩
    obtain⟨xs,k1,k2,k3,z1,z2,z3⟩:=q1
    exact⟨⟨⟨xs,k1,k2,k3,kl z1,kl z2,z3⟩,kl q2,kl q3,kl q4⟩,kl q5,q6.1,fun i t ys e1 e2=>kt (q6.2 i t ys e1 e2)⟩
   rintro _ H21 ⟨a,rfl,h21,g21,p21,t21⟩
   clear q1 q2 q3 q4 q5 q6
   refine⟨fun σ' H'=>∃f',σ'=[some (.ref a0),some (.ref d),some (.int af),some (.ref u),some (.ref v),some (.ref e),some (.ref pl),y7,y8,some (.ref a.y),none,none,none,none,none]/\YT CY CD aL H' (gP (dz (y0 a af) 1) f' 60)/\i7 (bY (Ft (gP (dz (y0 a af) 1) f' 60)) H') d c0 u v e ns ms left/\bY (Ft (gP (dz (y0 a af) 1) f' 60)) H' pl=some (.lst (tl.map V.ref))/\eU (bY (Ft (gP (dz (y0 a af) 1) f' 60)) H') tl aj,?_,?_⟩
   ·have hy:=h21.y
    walk_at "r"
    refine⟨by show 2<=sizeLine;decide,fun p hp=>?_⟩
    have sp:=au (o:=.tup [.str "fell",.int 60]) hp
    refine⟨y0 a af,1,p,.fell 60,rfl,h21.same sp,aq,⟨by decide,by decide⟩,by decide,by decide,by show(0:Int)<1;decide,60,rfl,by show 0+60<=60;decide,by show 0<8900;decide,fun _ _=>rfl,fun f' H' h' st=>?_⟩
    have cs:=(iP (F:=Ft (y0 a af)) sp).trans (ur st)
    exact⟨f',rfl,h',g21.same cs,cs _ _ p21,t21.same cs⟩
   rintro _ H22 ⟨f',rfl,h22,g22,p22,t22⟩
   clear h21 g21 p21 t21
   generalize hS1:gP (dz (y0 a af) 1) f' 60=S1 at h22 g22 p22 t22
   have ly1:LY (dz S1 2):=by subst hS1;exact⟨rfl,fun _ _=>rfl,fun b hb=>(by cases hb),fun b hb=>(by cases hb)⟩
   have fl1:(dz S1 2).a=a/\S1.day=1/\S1.most=af/\S1.k=60/\S1.bs=[]/\S1.ob=[]:=by subst hS1;exact⟨rfl,rfl,rfl,rfl,rfl,rfl⟩
   obtain⟨f1,f2,f3,f4,f5,f6⟩:=fl1
   clear hS1
   have f1:S1.a=a:=f1
   subst f1
   refine⟨fun σ' H'=>∃S2:YP,σ'=[some (.ref a0),some (.ref d),some (.int af),some (.ref u),some (.ref v),some (.ref e),some (.ref pl),y7,y8,some (.ref S2.a.y),none,none,none,none,none]/\zC (dz S1 2) aj aj.length S2/\YT CY CD aL H' S2/\i7 (bY (Ft S2) H') d c0 u v e ns ms left,?_,?_⟩
   ·have hy:=h22.y
    walk_at "r"
    refine⟨b_ _,fun p1 hp1=>?_⟩
    have s1:=au (o:=.tup []) hp1
    have e1:ab H22 p1 (.tup []) p1=some (.tup (([]:List Int).map V.int)):=aq
    generalize ab H22 p1 (.tup [])=G1 at s1 e1⊢
    walk_at "r"
    refine qb (ai.of (s1 _ _ (fE _ _ p22))) fun p2 hp2=>?_
    have s2:=au (o:=.tup (tl.map V.ref)) hp2
    have e2:ab G1 p2 (.tup (tl.map V.ref)) p2=some (.tup (tl.map V.ref)):=aq
    generalize ab G1 p2 (.tup (tl.map V.ref))=G2 at s2 e2⊢
    walk_at "r"
    refine⟨by show 3<=sizeLine;decide,fun p3 hp3=>?_⟩
    have s3:=au (o:=.tup [.str "refit",.ref p1,.ref p2]) hp3
    walk_at "r"
    have s23:=s1.trans (s2.trans s3)
    refine⟨S1,2,p3,.refit [] aj,rfl,h22.same s23,⟨p1,p2,aq,s3 _ _ (s2 _ _ e1),tl,s3 _ _ e2,t22.same ((fE (H:=H22)).trans s23)⟩,⟨by rw[f3];exact sl1,b_ _,nofun,mZ,by rw[f3];exact q7.ok,eN (b_ _) (Qr.mp q7.h0).1⟩,by decide,by decide,by rw[f2];decide,[],_,_,rfl,Pu ly1 f5 f6 (by show S1.k<=100;omega) (q7.ok.up sl1) (PF q7),fun S' H' w' h' st=>?_⟩
    have cs:=(iP (F:=Ft S1) s23).trans (ur st)
    exact⟨S',by rw[w'.a],w',h',g22.same cs⟩
   rintro _ H23 ⟨S2,rfl,w2,h23,g23⟩
   clear h22 g22 p22 t22
   have hy:=h23.y
   walk_at "r"
   refine⟨d,c0,_,rfl,g23.dr.same fE,by decide,by decide,fun r H24 r0 r1 hD24 b24=>?_⟩
   have h24:=h23.drawn g23.dr b24
   have g24:=g23.take (PN g23.dr hD24 b24)
   have hy4:=h24.y
   clear h23 g23 hy b24 hD24
   walk_at "r"
   refine⟨by show 3<=sizeLine;decide,fun p hp=>?_⟩
   have sp:=au (o:=.tup [.str "lend",.int 20,.int (1+r)]) hp
   walk_at "r"
   obtain⟨v0,m0,o0,_⟩:=FO (co:=1+r) (cn:=S2.cn+(1+r)) (bss:=[]) w2 sg q7.ln rfl f3 (by show S1.k<=100;omega)
   have d2:S2.day=2:=w2.day
   have r6:r<1000000:=r1
   refine⟨S2,3,p,.lend 20 (1+r),rfl,h24.same sp,aq,⟨by decide,by decide,by omega,by omega⟩,by decide,by decide,by rw[d2];decide,m0,o0,0,v0,fun H25 h25 st=>?_⟩
   have pw:∀bss,fD aj ns af (1+r) bss S1.a 0 {dz S2 3 with ob:=br S2.ob (.inl 20) (.int (0+(1+r))),cn:=S2.cn+(1+r)}:=fun bss=>(FO (co:=1+r) (cn:=S2.cn+(1+r)) w2 sg q7.ln rfl f3 (by show S1.k<=100;omega)).2.2.2
   have g25:i7 (bY (Ft ({dz S2 3 with ob:=br S2.ob (.inl 20) (.int (0+(1+r))),cn:=S2.cn+(1+r)}:YP)) H25) d c0 u v e ns ms left:=g24.same ((iP (F:=Ft S2) sp).trans (ur st))
   generalize hS:({dz S2 3 with ob:=br S2.ob (.inl 20) (.int (0+(1+r))),cn:=S2.cn+(1+r)}:YP)=S at h25 pw g25
   have ea:S2.a=S.a:=by rw[<-hS]
   rw[ea]
   have ea2:S1.a=S.a:=by rw[<-ea];exact w2.a.symm
   rw[ea2]at pw
   clear h24 g24 hy4 w2 ly1 hS ea ea2 sp v0 m0 o0 d2 st
   generalize hco:1+r=co at pw⊢
   have co1:1<=co:=by omega
   refine⟨fun σ' H'=>∃(o:Addr) (rs:List Int),σ'=[some (.ref a0),some (.ref d),some (.int af),some (.ref u),some (.ref v),some (.ref e),some (.ref pl),y7,y8,some (.ref S.a.y),some (.int co),some (.ref o),none,none,none]/\YT CY CD aL H' S/\i7 (bY (Ft S) H') d c0 u v e ns ms left/\bH rs (fun x=>x∈S.nms)/\cK (bY (Ft S) H') (.ref o) (.lst (gh S rs)),?_,?_⟩
   ·have hy:=h25.y
    walk_at "r"
    refine⟨S,rfl,h25,fun l H26 rs s26 _ hl pm pw'=>?_⟩
    walk_at "r"
    refine⟨l,rfl,⟨_,ai.of hl⟩,?_⟩
    have rr:=nT pm pw' h25.nd (fun x=>eG)
    refine FR (h25.same s26) hl (by rw[pm.length_eq,ar];exact h25.b8) (fun x hx=>pm.mem_iff.mp hx) fun H27 ys s27 ry D hD=>?_
    walk_at "r"
    have sD:=au (o:=.lst ys) hD
    have s67:=s26.trans (s27.trans sD)
    exact⟨D,rs,rfl,h25.same s67,g25.same (iP s67),rr,.lst (qQ (h25.same (s26.trans s27)) hD aq) (ry.mono (iP sD))⟩
   rintro _ H26 ⟨o,rs,rfl,h26,g26,hrs,ho⟩
   have h25nd:=h25.nd
   clear h25 g25
   have fit:qy ns ms af:=⟨sl1,by rw[lA en.nd1];exact en.p1,by rw[lA en.nd1];exact en.l1,by rw[lA en.nd2];exact en.p2,by rw[lA en.nd2];exact en.l2⟩
   have z1:=en.l1
   have z2:=en.l2
   refine⟨fun σ' H'=>YT CY CD aL H' S/\i7 (bY (Ft S) H') d c0 u v e ns ms left/\cK (bY (Ft S) H') (.ref o) (.lst (gh S rs))/\(σ'=[some (.ref a0),some (.ref d),some (.int af),some (.ref u),some (.ref v),some (.ref e),some (.ref pl),y7,y8,some (.ref S.a.y),some (.int co),some (.ref o),some .non,none,none]\/∃(ap:Addr) (bM:List Addr) (bss:List (List Int)),σ'=[some (.ref a0),some (.ref d),some (.int af),some (.ref u),some (.ref v),some (.ref e),some (.ref pl),y7,y8,some (.ref S.a.y),some (.int co),some (.ref o),some (.ref ap),none,none]/\bY (Ft S) H' ap=some (.lst (bM.map V.ref))/\fz (bY (Ft S) H') bM bss/\f_ ns ms af ns bss/\(∀x,x∈gM ns bss↔x∈ms)/\bss.length<=343),?_,?_⟩
   ·walk_at "r"
    refine⟨u,v,ns,ms,af,rfl,⟨.inl (ai.of (fE _ _ g26.hu)),.inl (ai.of (fE _ _ g26.hv)),by omega,by omega⟩,fit,fun hh eh l H27 bM bss s27 fl hl lb bt fr ch la=>?_,fun _ H27 s27=>?_⟩
    ·have:=Pz fit eh
     exact⟨h26.same s27,g26.same (iP s27),ho.mono (iP s27),.inr ⟨l,bM,bss,rfl,qQ h26 fl hl,⟨bt.1,fun i b bs e1 e2=>qQ h26 (fr b (dE e1)).1 (bt.2 i b bs e1 e2)⟩,ch,la,by rw[<-bt.1];omega⟩⟩
    ·exact⟨h26.same s27,g26.same (iP s27),ho.mono (iP s27),.inl rfl⟩
   rintro σ' H27 ⟨h27,g27,o27,rfl|⟨ap,bM,bss,rfl,p27,b27,ch,la,l343⟩⟩
   ·walk_at "r"
    refine ba ?_
    walk_at "r"
    exact k _
   clear h26 g26 ho
   walk_at "r"
   refine bj ?_
   walk_at "r"
   refine⟨fun σ' H'=>∃(S':YP) (y7 y13:Option V),σ'=[some (.ref a0),some (.ref d),some (.int af),some (.ref u),some (.ref v),some (.ref e),some (.ref pl),y7,y8,some (.ref S'.a.y),some (.int co),some (.ref o),some (.ref ap),y13,none]/\fD aj ns af co bss S.a bss.length S'/\YT CY CD aL H' S'/\i7 (bY (Ft S') H') d c0 u v e ns ms left/\cK (bY (Ft S') H') (.ref o) (.lst (gh S rs))/\bY (Ft S') H' ap=some (.lst (bM.map V.ref))/\fz (bY (Ft S') H') bM bss,?_,?_⟩
   ·walk_at "r"
    refine⟨ap,rfl,⟨_,ai.of (fE _ _ p27)⟩,?_⟩
    refine h_ (fun i σ' H'=>∃(S':YP) (y7 y13:Option V),σ'=[some (.ref a0),some (.ref d),some (.int af),some (.ref u),some (.ref v),some (.ref e),some (.ref pl),y7,y8,some (.ref S'.a.y),some (.int co),some (.ref o),some (.ref ap),y13,none]/\fD aj ns af co bss S.a i S'/\YT CY CD aL H' S'/\i7 (bY (Ft S') H') d c0 u v e ns ms left/\cK (bY (Ft S') H') (.ref o) (.lst (gh S rs))/\bY (Ft S') H' ap=some (.lst (bM.map V.ref))/\fz (bY (Ft S') H') bM bss) bss.length ⟨S,y7,none,rfl,pw bss,h27,g27,o27,p27,b27⟩ ?_ ?_
    ·rintro σ' H' ⟨S',y7,y13,rfl,w,h',g',o',p',b'⟩
     exact⟨⟨_,ai.of (fE _ _ p'),by rw[ar,b'.1];exact aG _⟩,S',y7,y13,rfl,w,h',g',o',p',b'⟩
    ·rintro i σ' H' hi ⟨S',y7,y13,rfl,w,h',g',o',p',b'⟩
     have hi':i<bM.length:=by rw[b'.1];exact hi
     have e1:bM[i]?=some bM[i]:=aN hi'
     have e2:bss[i]?=some bss[i]:=aN hi
     refine⟨⟨_,.ref bM[i],ai.of (fE _ _ p'),by rw[aI,e1];rfl⟩,?_⟩
     rintro x' G ⟨T',u',rfl,hn,rfl,hy⟩
     have ex:=hy _ (ai.of (fE _ _ p'))
     rw[aI,e1]at ex
     cases ex
     have hbo:=b'.2 i _ _ e1 e2
     generalize bM[i]=bo at e1 hbo hn hy⊢
     generalize bss[i]=bs at e2 hbo⊢
     have sT:=au (o:=.tup [.int i,.ref bo]) hn
     refine ig (ax.of aq) rfl ?_
     generalize ab H' T' (.tup [.int i,.ref bo])=H3 at sT⊢
     have h3:=h'.same sT
     have hy3:=h3.y
     walk_at "r"
     refine⟨by show 1<=sizeLine;decide,fun p1 hp1=>?_⟩
     have s1:=sT.trans (au (o:=.tup [.int 20]) hp1)
     have f1':ab H3 p1 (.tup [.int 20]) p1=some (.tup ([(20:Int)].map V.int)):=aq
     generalize ab H3 p1 (.tup [.int 20])=G1 at s1 f1'⊢
     walk_at "r"
     refine qb (ai.of (s1 _ _ (fE _ _ hbo))) fun p2 hp2=>?_
     have s2:=au (o:=.tup (bs.map V.int)) hp2
     have f2':ab G1 p2 (.tup (bs.map V.int)) p2=some (.tup (bs.map V.int)):=aq
     generalize ab G1 p2 (.tup (bs.map V.int))=G2 at s2 f2'⊢
     walk_at "r"
     refine⟨by show 1<=sizeLine;decide,fun p3 hp3=>?_⟩
     have s3:=au (o:=.tup [.ref p2]) hp3
     have f3':ab G2 p3 (.tup [.ref p2]) p3=some (.tup ([p2].map V.ref)):=aq
     generalize ab G2 p3 (.tup [.ref p2])=G3 at s3 f3'⊢
     walk_at "r"
     refine⟨by show 3<=sizeLine;decide,fun p4 hp4=>?_⟩
     have s4:=au (o:=.tup [.str "refit",.ref p1,.ref p3]) hp4
     have s14:=s1.trans (s2.trans (s3.trans s4))
     walk_at "r"
     obtain⟨b,hn,R,nx⟩:=w.rf sg ch e2 l343 h'.b8 h'.nd
     obtain⟨o1,o2,o3,o4,_,_⟩:=zF ch e2
     refine⟨S',4+i,p4,.refit [20] [bs],rfl,h'.same s14,⟨p1,p3,aq,s4 _ _ (s3 _ _ (s2 _ _ f1')),[p2],s4 _ _ f3',rfl,fun q t ys z1 z2=>?_⟩,⟨by rw[w.most];exact sl1,by show 1<=8;decide,fun x hx=>by cases lN.mp hx;decide,by decide,⟨by show 1<=8;decide,fun x hx=>by cases lN.mp hx;exact⟨o3,by rw[w.most];exact o4,fun t ht=>(o2 t ht).elim (sg.u1 t) (sg.u2 t)⟩,by rw[show[bs].flatten=bs by simp];exact o1.imp fun z y=>by omega,by simp;omega⟩,aG _⟩,by omega,by omega,by rw[w.day];omega,[b],_,_,by rw[<-hn];rfl,R,fun S2 H4 w4 h4 st=>?_⟩
     ·cases q with
      |zero=>cases z1;cases z2;exact s4 _ _ (s3 _ _ f2')
      |succ q=>simp at z1
     have w5:=nx S2 w4
     have cs:=(iP (F:=Ft S') s14).trans (ur (F:=Ft S') st)
     have ea:S'.a=S2.a:=by rw[w.a,w5.a]
     have h4y:=h4.y
     rw[ea]
     obtain⟨b2,hb2,hn2,hc2⟩:=w5.bt
     have nw:b2.now=bs:=by
      rw[uq hc2,gu,e2]
      exact xO _ _ _
     have g4:=g'.same cs
     have hb4:=cs _ _ hbo
     have o4':=o'.mono cs
     have p4':=cs _ _ p'
     have b4':fz (bY (Ft S2) H4) bM bss:=b'.same cs
     clear h' g' o' p' b' hbo sT s14 s1 s2 s3 s4 R nx w4
     walk_at "r"
     refine bj ?_
     walk_at "r"
     refine⟨S2,rfl,h4,fun l5 H5 r5 s5 _ hl5 pm5 _=>?_⟩
     refine mx (ai.of hl5) ?_
     rw[bZ (pm5.mem_iff.mpr (Qd.mpr ⟨b2,hb2,hn2⟩))]
     walk_at "r"
     have h5y:=s5 _ _ h4y
     refine bj ?_
     walk_at "r"
     refine⟨S2,b2,by rw[hn2];rfl,(h4.same s5).toYardR,hb2,fun l6 H6 s6 _ hl6=>?_⟩
     walk_at "r"
     refine⟨bo,bs,rfl,.inl (ai.of (s6 _ _ (s5 _ _ (fE _ _ hb4)))),by omega,fun l7 H7 r7 s7 _ hl7 ri7=>?_⟩
     refine sJ (s7 _ _ hl6) hl7 ?_
     rw[show decide (b2.now=r7)=true from bZ (by rw[nw];exact bH.eq ⟨o1,fun x=>eG⟩ ri7)]
     walk_at "r"
     refine bj ?_
     walk_at "r"
     have s57:=s5.trans (s6.trans s7)
     have c57:=iP (F:=Ft S2) s57
     exact⟨S2,_,_,rfl,w5,h4.same s57,g4.same c57,o4'.mono c57,c57 _ _ p4',b4'.same c57⟩
   rintro _ H30 ⟨S',y7',y13,rfl,w,h',g',o',p',b'⟩
   clear h27 g27 o27 p27 b27
   obtain⟨b,hb,hn,hc⟩:=w.bt
   have hh:=w.here sg ch hc
   rw[jy]at hc
   have nw:=uq hc
   have hm:∀x,x∈b.now↔x∈ms:=fun x=>by rw[nw];exact(FJ (mS sg.u1) bss x).symm.trans (la x)
   have hy:=h'.y
   refine⟨fun σ' H'=>σ'=[some (.ref a0),some (.ref d),some (.int af),some (.ref u),some (.ref v),some (.ref e),some (.ref pl),y7',y8,some (.ref S'.a.y),some (.int co),some (.ref o),some (.ref ap),y13,none]/\aw H30 H',?_,?_⟩
   ·walk_at "r"
    refine⟨S',b,by rw[hn];rfl,h'.toYardR,hb,fun l1 H1 s1 _ hl1=>?_⟩
    walk_at "r"
    refine⟨v,ms,rfl,.inl (ai.of (s1 _ _ (fE _ _ g'.hv))),by omega,fun l2 H2 r2 s2 _ hl2 ri2=>?_⟩
    refine sJ (s2 _ _ hl1) hl2 ?_
    rw[show decide (b.now=r2)=true from bZ (bH.eq ⟨hh.2.2.2,hm⟩ ri2)]
    have s12:=s1.trans s2
    have hy2:=s12 _ _ hy
    walk_at "r"
    refine bj ?_
    walk_at "r"
    refine⟨S',b,co.toNat,by rw[hn];rfl,(h'.same s12).toYardR,hb,by rw[hn,w.ob,Int.toNat_of_nonneg (by omega)],fun p3 H3 s3 hp3=>?_⟩
    walk_at "r"
    refine⟨by show 2<=sizeLine;decide,fun p5 hp5=>?_⟩
    have s5:=au (o:=.tup [.int co,.int 1]) hp5
    refine Ep (ns:=[(co.toNat:Int),1]) (ms:=[co,1]) (s5 _ _ hp3) aq ?_
    rw[show decide ([(co.toNat:Int),1]=[co,1])=true from bZ (by rw[Int.toNat_of_nonneg (by omega)])]
    walk_at "r"
    refine bj ?_
    walk_at "r"
    exact⟨rfl,s12.trans (s3.trans s5)⟩
   rintro _ H31 ⟨rfl,s31⟩
   have hy1:=s31 _ _ hy
   walk_at "r"
   refine⟨S',b,by rw[hn];rfl,(h'.same s31).toYardR,hb,fun lc H32 s32 _ hlc=>?_⟩
   walk_at "r"
   refine⟨fun σ' H'=>σ'=[some (.ref a0),some (.ref d),some (.int af),some (.ref u),some (.ref v),some (.ref e),some (.ref pl),y7',y8,some (.ref S'.a.y),some (.int co),some (.ref o),some (.ref ap),y13,some (.ref lc)]/\aw H32 H',?_,?_⟩
   ·walk_at "r"
    have gb:j2 af b.ch=true:=by
     have r:=qO sg.u1
     have lr:(fA ns).length=ns.length:=qd (r.1.imp fun h z=>by omega) en.nd1 fun x=>r.2 x
     rw[hc]
     exact FG (fun x hx=>hx.elim (sg.u1 x) (sg.u2 x)) bss 2 4 (fA ns) (by decide) (by decide) (by omega) (FE (by rw[lr];exact en.p1) (by rw[lr];exact en.l1) (fun t ht=>sg.u1 t ((r.2 t).mp ht)) r.1) (FI (mS sg.u1) ch)
    have lch:b.ch.length<=400:=by rw[hc,cM,FD];omega
    refine⟨af,lc,b.ch,rfl,hlc,lch,fun r hr=>by have:=PX gb r hr;omega,fun H1 s1=>?_⟩
    rw[gb]
    refine⟨true,rfl,bj ?_⟩
    have hlc1:=hlc.keep (H':=H1) (fun _ z=>s1 _ _ z) fun _ _ z=>s1 _ _ z
    obtain⟨_,_,hl1,_⟩:=id hlc1
    walk_at "r"
    refine⟨lc,rfl,⟨_,ai.of hl1⟩,?_⟩
    refine PQ hlc1 lch fun H2 ys s2 ry D hD=>?_
    have sD:=au (o:=.lst ys) hD
    have rD:cK (ab H2 D (.lst ys)) (.ref D) (.lst (b.ch.map fun r=>.lst (r.2.map Dt.int))):=.lst aq (ry.mono sD)
    generalize ab H2 D (.lst ys)=G at sD rD⊢
    have s3G:=s31.trans (s32.trans (s1.trans (s2.trans sD)))
    walk_at "r"
    refine⟨u,ns,rfl,.inl (ai.of (s3G _ _ (fE _ _ g'.hu))),by omega,fun l3 H3 r3 s3 _ hl3 ri3=>?_⟩
    walk_at "r"
    refine⟨by show 1<=sizeLine;decide,fun l4 hl4=>?_⟩
    have s4:=au (o:=.lst [.ref l3]) hl4
    have e4:ab H3 l4 (.lst [.ref l3]) l4=some (.lst [.ref l3]):=aq
    generalize ab H3 l4 (.lst [.ref l3])=H4 at s4 e4⊢
    have s34:=s3.trans s4
    walk_at "r"
    refine nR e4 (s34 _ _ (s3G _ _ (fE _ _ p'))) (mH (by rw[ar,b'.1];show 1+_<=1000;omega)) fun l5 hl5=>?_
    have s5:=au (o:=.lst ([.ref l3]++bM.map V.ref)) hl5
    have s35:=s34.trans s5
    have er:r3=fA ns:=bH.eq ri3 (qO sg.u1)
    have ed:(b.ch.map fun r=>Dt.lst (r.2.map Dt.int))=([r3]++bss).map fun b=>.lst (b.map Dt.int):=by
     rw[show(fun r:Int×List Int=>Dt.lst (r.2.map Dt.int))=(fun b:List Int=>Dt.lst (b.map Dt.int))∘ (·.2)from rfl,<-gX,hc,cG,zE,er]
     rfl
    rw[ed]at rD
    refine wm (rD.mono s35) (.lst aq ?_) (PU _) ?_
    ·rw[cF]
     exact bS.append (.cons (wt (s5 _ _ (s4 _ _ hl3))) .nil) ((FS b').mono ((fE (H:=H30)).trans (s3G.trans s35)))
    walk_at "r"
    refine bj ?_
    walk_at "r"
    exact⟨rfl,s1.trans (s2.trans (sD.trans s35))⟩
   rintro _ H33 ⟨rfl,s33⟩
   have s03:=s31.trans (s32.trans s33)
   have h3:=h'.same s03
   have hy3:=h3.y
   refine⟨fun σ' H'=>σ'=[some (.ref a0),some (.ref d),some (.int af),some (.ref u),some (.ref v),some (.ref e),some (.ref pl),y7',y8,some (.ref S'.a.y),some (.int co),some (.ref o),some (.ref ap),y13,some (.ref lc)]/\aw H33 H',?_,?_⟩
   ·walk_at "r"
    refine⟨S',rfl,h3,fun l1 H1 r1 s1 _ hl1 pm pw'=>?_⟩
    walk_at "r"
    refine⟨l1,rfl,⟨_,ai.of hl1⟩,?_⟩
    refine FR (h3.same s1) hl1 (by rw[pm.length_eq,ar];exact h3.b8) (fun x hx=>pm.mem_iff.mp hx) fun H2 ys s2 ry D hD=>?_
    have sD:=au (o:=.lst ys) hD
    have e1:r1=rs:=bH.eq (nT pm pw' h3.nd (fun x=>eG)) (by rw[w.nm,<-(pw bss).nm];exact hrs)
    subst e1
    walk_at "r"
    refine wm (d:=.lst (gh S' r1)) (.lst aq (ry.mono (fE.trans sD))) ?_ (PV _ _) ?_
    ·rw[<-(pw bss).oth_eq w h25nd h3.nd fun x hx=>(hrs.2 x).mp hx]
     exact o'.mono (fE.trans (s03.trans (s1.trans (s2.trans sD))))
    walk_at "r"
    refine bj ?_
    walk_at "r"
    exact⟨rfl,s1.trans (s2.trans sD)⟩
   rintro _ H34 ⟨rfl,s34⟩
   have h4:=h3.same s34
   have hy4:=h4.y
   have g4:=(g'.same fE).same (s03.trans s34)
   walk_at "r"
   refine⟨S',rfl,h4,fun l1 H1 r1 s1 _ hl1 ri1=>?_⟩
   have g1:=g4.same s1
   have hy1':=s1 _ _ hy4
   walk_at "r"
   refine nR g1.hu g1.hv (mH (by rw[ar,ar];omega)) fun p2 hp2=>?_
   rw[<-cF]
   have s2:=au (o:=.lst ((ns++ms).map V.int)) hp2
   have e2:ab H1 p2 (.lst ((ns++ms).map V.int)) p2=some (.lst ((ns++ms).map V.int)):=aq
   generalize ab H1 p2 (.lst ((ns++ms).map V.int))=H2 at s2 e2⊢
   refine⟨p2,rfl,⟨_,ai.of e2⟩,?_⟩
   refine PR (h4.same (s1.trans s2)) e2 hb hn (by rw[bF];omega) fun H3 s3 D hD=>?_
   have s4:=au (o:=.lst (((ns++ms).filter fun t=>!decide (t∈b.now)).map V.int)) hD
   have e4:ab H3 D (.lst (((ns++ms).filter fun t=>!decide (t∈b.now)).map V.int)) D=_:=aq
   generalize ab H3 D (.lst (((ns++ms).filter fun t=>!decide (t∈b.now)).map V.int))=H4 at s4 e4⊢
   have s24:=s2.trans (s3.trans s4)
   have ll:=w.left_len sg q7 hb hn hm h4.nd
   have ll':=ll
   rw[bF]at ll'
   walk_at "r"
   refine nR (s24 _ _ g1.he) e4 (mH (by rw[ar,ar];omega)) fun p5 hp5=>?_
   rw[<-cF]
   walk_at "r"
   refine⟨p5,_,rfl,.inl (ai.of aq),by omega,fun l6 H6 r6 s6 _ hl6 ri6=>?_⟩
   refine sJ (s6 _ _ (au hp5 _ _ (s24 _ _ hl1))) hl6 ?_
   have e6:r1=r6:=bH.eq ri1 ⟨ri6.1,fun x=>(ri6.2 x).trans (w.left sg q7 hb hn hm h4.nd x)⟩
   rw[show decide (r1=r6)=true from bZ e6]
   exact k _
noncomputable def LkAt(K:W.Frag)(n x:Str)(st:Stmt)(f:Addr):Prop:=∃(oc:Value) (od an:Option Addr) (sl:Array (Option Value)) (kV dc pm cd ct:Value),K.lookup f=some ⟨oc,od,.func (W.fnOf n x (kO st) (jP st) (aC st) .none kV dc pm an cd ct),sl⟩/\W.codeIn K cd x=true
structure bC(K:W.Frag)(x:Str)(st:Stmt)(f:Addr):Prop where
 a:W.nsIn K mainGlobals x=some (some (.ref f))
 l:LkAt K x x st f
 k:W.keepIn K (.ref f)=true
structure dP(K:W.Frag)(C:Addr)(n x:Str)(st:Stmt)(f:Addr):Prop where
 a:W.findIn K (.ref C) n=some (some (.ref f))
 i:W.isFn K (.ref f)=true
 l:LkAt K n x st f
 k:W.keepIn K (.ref f)=true
theorem LkAt.of{K:W.Frag}{n x:Str}{st:Stmt}{f:Addr}{oc:Value}{od an:Option Addr}{sl:Array (Option Value)}{kV dc pm cd ct:Value}(l:K.lookup f=some ⟨oc,od,.func (W.fnOf n x (kO st) (jP st) (aC st) .none kV dc pm an cd ct),sl⟩)(c:W.codeIn K cd x=true):LkAt K n x st f:=⟨_,_,_,_,_,_,_,_,_,l,c⟩
abbrev Bd(n x:Str)(st:Stmt)(ps:List Str):Prop:=∀(kV dc pm:Value) (an:Option Addr) (cd ct:Value) (us:List Value),us.length=ps.length->bindArgs (W.fnOf n x (kO st) (jP st) (aC st) .none kV dc pm an cd ct) {pos:=us}=pure (ps.zip us)
section
variable{P:Program}{w:World}{base:Heap}{K:W.Frag}{h:Heap}{mg:Str->Option Value}{n x:Str}{st:Stmt}{f C:Addr}{ps:List Str}{j:Nat}{sp:Sp}
theorem bC.cal(X:K.In h)(G:h.Ns mainGlobals mg)(t:bC K x st f)(ok:∀{fd},aX K x x st f fd->mg x=some (.ref f)->fS K fd ps []->aK P w K mg base aV j f fd ps sp)(b:Bd x x st ps):aY P w K mg base x j ps sp:=by
 obtain⟨a,⟨_,_,_,_,_,_,_,_,_,l,c⟩,k⟩:=t
 have F:=rQ (st:=st) l c k
 have m:=W.mg_of X G a
 have B:=F.binds (ps:=ps) b
 exact⟨_,_,ok F m B,m,k,B⟩
theorem dP.cal(c:dA K C)(t:dP K C n x st f)(ok:∀{fd},aX K n x st f fd->aK P w K mg base aV j f fd ps sp)(b:Bd n x st ps):cW P w K mg base C n j ps sp:=by
 obtain⟨a,i,⟨_,_,_,_,_,_,_,_,_,l,cd⟩,k⟩:=t
 have F:=rQ (st:=st) l cd k
 exact⟨c,_,_,ok F,⟨a,i,k⟩,F.binds (ps:=ps) b⟩
theorem dP.make(hm:mg n=some (.ref C))(m1:W.makesIn K C=true)(m2:W.keepIn K (.ref C)=true)(t:dP K C "__init__" x st f)(ok:∀{fd},aX K "__init__" x st f fd->aK P w K mg base aV j f fd ps sp)(b:Bd "__init__" x st ps):nX P w K mg base n C j ps sp:=by
 obtain⟨a,i,⟨_,_,_,_,_,_,_,_,_,l,cd⟩,k⟩:=t
 have F:=rQ (st:=st) l cd k
 exact⟨hm,_,_,ok F,⟨m1,a,i,m2⟩,F.binds (ps:=ps) b⟩
theorem oq{j':Nat}(c:aY P w K mg base x j ps sp)(m:mg x=some (.ref f))(le:j<=j'):jW P w K mg base f j' ps sp:=by
 obtain⟨f',fd,F,hm,hk,hb⟩:=c
 rw[m]at hm
 cases hm
 exact⟨fd,F.mono le,hk,hb⟩
end
theorem eM{F:Value->Value->Value->Option Addr->Value->Value->FuncData}{ps:List Str}(h:∀a b c d e f a0,bindArgs (F a b c d e f) {pos:=[a0]}=pure (ps.zip [a0]))(a b c:Value)(d:Option Addr)(e f:Value):∀us:List Value,us.length=1->bindArgs (F a b c d e f) {pos:=us}=pure (ps.zip us)
 |[a0],_=>h a b c d e f a0
theorem cD{F:Value->Value->Value->Option Addr->Value->Value->FuncData}{ps:List Str}(h:∀a b c d e f a0 a1,bindArgs (F a b c d e f) {pos:=[a0,a1]}=pure (ps.zip [a0,a1]))(a b c:Value)(d:Option Addr)(e f:Value):∀us:List Value,us.length=2->bindArgs (F a b c d e f) {pos:=us}=pure (ps.zip us)
 |[a0,a1],_=>h a b c d e f a0 a1
theorem ir{F:Value->Value->Value->Option Addr->Value->Value->FuncData}{ps:List Str}(h:∀a b c d e f a0 a1 a2,bindArgs (F a b c d e f) {pos:=[a0,a1,a2]}=pure (ps.zip [a0,a1,a2]))(a b c:Value)(d:Option Addr)(e f:Value):∀us:List Value,us.length=3->bindArgs (F a b c d e f) {pos:=us}=pure (ps.zip us)
 |[a0,a1,a2],_=>h a b c d e f a0 a1 a2
theorem Qc{F:Value->Value->Value->Option Addr->Value->Value->FuncData}{ps:List Str}(h:∀a b c d e f a0 a1 a2 a3,bindArgs (F a b c d e f) {pos:=[a0,a1,a2,a3]}=pure (ps.zip [a0,a1,a2,a3]))(a b c:Value)(d:Option Addr)(e f:Value):∀us:List Value,us.length=4->bindArgs (F a b c d e f) {pos:=us}=pure (ps.zip us)
 |[a0,a1,a2,a3],_=>h a b c d e f a0 a1 a2 a3
theorem all_mk{l:W.OpenLaw}{w:World}{K:W.Frag}{h:Heap}{mg:Str->Option Value}{fa f0 f1 f2 f3 f4 f5 f6 f7 f8 f9 f10 f11 f12 f13 f14 f15 f16 f17 f18 f19 f20 f21 f22 f23 f24 f25 f26 f27 f28 f29 f30 f31 f32 f33 f34 f35 f36 f37 f38 f39 f40 f41 f42 f43 f44 f45 f46 f47 f48 f49 f50 f51 f52 f53 f54 f55 f56 f57 f58 f59 f60 f61 f62 f63 f64 f65 f66 f67 f68 bN cb Gn Gp eQ cmoving_is_sound cclear_is_sound center_storm center_find center_pay center_clear:Addr}(X:K.In h)(G:h.Ns mainGlobals mg)(hfa:mg "law"=some (.ref fa))
  (Qf:W.nsIn K mainGlobals "Yard"=some (some (.ref bN)))
  (Qg:W.nsIn K mainGlobals "Debts"=some (some (.ref cb)))
  (Qh:W.nsIn K mainGlobals "SOUND"=some (some (.ref Gn)))
  (Qi:W.nsIn K mainGlobals "ENTER"=some (some (.ref Gp)))
  (AL:W.nsIn K mainGlobals "LOOSE"=some (some (.ref eQ)))
  (xmoving_is_sound:W.nsIn K mainGlobals "moving_is_sound"=some (some (.ref cmoving_is_sound)))
  (xclear_is_sound:W.nsIn K mainGlobals "clear_is_sound"=some (some (.ref cclear_is_sound)))
  (xenter_storm:W.nsIn K mainGlobals "enter_storm"=some (some (.ref center_storm)))
  (xenter_find:W.nsIn K mainGlobals "enter_find"=some (some (.ref center_find)))
  (xenter_pay:W.nsIn K mainGlobals "enter_pay"=some (some (.ref center_pay)))
  (xenter_clear:W.nsIn K mainGlobals "enter_clear"=some (some (.ref center_clear)))
  (t0:bC K "_law_begin" wZ f0)
  (t1:bC K "_law_take" w_ f1)
  (t2:bC K "_law_some" xa f2)
  (t3:bC K "_law_set" xb f3)
  (t4:bC K "rising" xc f4)
  (t5:bC K "common" xh f5)
  (t6:bC K "apart" xi f6)
  (t7:bC K "is_slip" xj f7)
  (t8:bC K "need_slip" xk f8)
  (t9:bC K "need_boat" xm f9)
  (t10:bC K "need_carrying" xo f10)
  (t11:bC K "timbers_by_kind" xp f11)
  (t12:bC K "near" tD f12)
  (t13:bC K "stages" qv f13)
  (t14:bC K "_law_slip" xv f14)
  (t15:bC K "_law_ends" tG f15)
  (t16:bC K "stage_of" tI f16)
  (t17:bC K "first_near" xB f17)
  (t18:bC K "height_of" xD f18)
  (t19:bC K "rings" qz f19)
  (t20:bC K "refitted" xN f20)
  (t21:bC K "carried" xQ f21)
  (t22:bC K "many_common" xS f22)
  (t23:bC K "same" xT f23)
  (t24:bC K "is_fleet" xW f24)
  (t25:bC K "paired" tO f25)
  (t26:bC K "divisor" y3 f26)
  (t27:bC K "lowest" y6 f27)
  (t28:bC K "is_day" ya f28)
  (t29:bC K "is_timber" yb f29)
  (t30:bC K "rises" tR f30)
  (t31:bC K "is_boat" tT f31)
  (t32:bC K "judged" lE f32)
  (t33:bC K "is_number" yf f33)
  (t34:bC K "are_numbers" tW f34)
  (t35:bC K "are_unlike" yg f35)
  (t36:bC K "are_timbers" tY f36)
  (t37:bC K "name_of" yi f37)
  (t38:bC K "is_name" yj f38)
  (t39:bC K "are_names" t_ f39)
  (t40:bC K "are_sets" qD f40)
  (t41:bC K "fell_is_sound" yn f41)
  (t42:bC K "money_is_sound" yp f42)
  (t43:bC K "refit_is_sound" yr f43)
  (t44:bC K "sound" yx f44)
  (t45:dP K cb "__init__" "Debts.__init__" yz f45)
  (t46:dP K cb "owed" "Debts.owed" yB f46)
  (t47:dP K cb "lend" "Debts.lend" yD f47)
  (t48:dP K cb "take_over" "Debts.take_over" yG f48)
  (t49:dP K bN "felled" "Yard.felled" yM f49)
  (t50:dP K bN "lies" "Yard.lies" yN f50)
  (t51:dP K bN "is_afloat" "Yard.is_afloat" yO f51)
  (t52:dP K bN "boat" "Yard.boat" yP f52)
  (t53:dP K bN "chain" "Yard.chain" yR f53)
  (t54:dP K bN "owed" "Yard.owed" yT f54)
  (t55:dP K bN "boats" "Yard.boats" ue f55)
  (t56:dP K bN "lying" "Yard.lying" uf f56)
  (t57:dP K bN "loose" "Yard.loose" yW f57)
  (t58:dP K bN "move" "Yard.move" yZ f58)
  (t59:dP K bN "launch" "Yard.launch" zc f59)
  (t60:dP K bN "__init__" "Yard.__init__" zf f60)
  (t61:bC K "need_day" zh f61)
  (t62:bC K "enter_fell" zl f62)
  (t63:bC K "enter_lend" zp f63)
  (t64:bC K "refit_word" oi f64)
  (t65:bC K "names_behind" mR f65)
  (t66:bC K "enter_refit" qM f66)
  (t67:dP K bN "enter" "Yard.enter" zz f67)
  (t68:bC K "law" iq f68)
  {gMOST_TIMBERS:Tok} (AM:W.nsIn K mainGlobals "MOST_TIMBERS"=some (some (.int 60 gMOST_TIMBERS)))
  {gLAST_DAY:Tok} (Gq:W.nsIn K mainGlobals "LAST_DAY"=some (some (.int 400 gLAST_DAY)))
  {gMOST_SLIP:Tok} (Qj:W.nsIn K mainGlobals "MOST_SLIP"=some (some (.int 12 gMOST_SLIP)))
  {gMOST_BOATS:Tok} (uV:W.nsIn K mainGlobals "MOST_BOATS"=some (some (.int 8 gMOST_BOATS)))
  {gMOST_COINS:Tok} (Qk:W.nsIn K mainGlobals "MOST_COINS"=some (some (.int 1000000 gMOST_COINS)))
  (oYard:W.plainGet K bN Str.empty=true/\W.hasDictIn K bN=true/\W.plainOver K bN=true/\W.findIn K (.ref bN) "__setattr__"=some (some (.builtin "object.__setattr__"))/\W.makesIn K bN=true/\W.keepIn K (.ref bN)=true)
  (pYard:W.findIn K (.ref bN) "most"=some none/\W.findIn K (.ref bN) "day"=some none/\W.findIn K (.ref bN) "lines"=some none/\W.findIn K (.ref bN) "chains"=some none/\W.findIn K (.ref bN) "ends"=some none/\W.findIn K (.ref bN) "debts"=some none)
  (oDebts:W.plainGet K cb Str.empty=true/\W.hasDictIn K cb=true/\W.plainOver K cb=true/\W.findIn K (.ref cb) "__setattr__"=some (some (.builtin "object.__setattr__"))/\W.makesIn K cb=true/\W.keepIn K (.ref cb)=true)
  (pDebts:W.findIn K (.ref cb) "shares"=some none/\W.findIn K (.ref cb) "by_name"=some none/\W.findIn K (.ref cb) "by_timber"=some none/\W.findIn K (.ref cb) "coins"=some none/\W.findIn K (.ref cb) "settled"=some none)
  (wL0:wdLook K eQ "loose"=true)
  (tS:jV K Gn (qE f41 f43 cmoving_is_sound f42 cclear_is_sound))
  (tE:jV K Gp (qN f62 f66 center_storm center_find f63 center_pay center_clear))
  (z0:W.nsIn K mainGlobals "len"=some none) (z1:W.nsIn K mainGlobals "abs"=some none) (z2:W.nsIn K mainGlobals "all"=some none) (z3:W.nsIn K mainGlobals "isinstance"=some none) (z4:W.nsIn K mainGlobals "zip"=some none) (z5:W.nsIn K mainGlobals "list"=some none) (z6:W.nsIn K mainGlobals "tuple"=some none) (z7:W.nsIn K mainGlobals "bool"=some none) (z8:W.nsIn K mainGlobals "int"=some none) (z9:W.nsIn K mainGlobals "str"=some none) (z10:W.nsIn K mainGlobals "range"=some none) (z11:W.nsIn K mainGlobals "sorted"=some none) (z12:W.nsIn K mainGlobals "set"=some none) (z13:W.nsIn K mainGlobals "min"=some none) (z14:W.nsIn K mainGlobals "max"=some none) (z15:W.nsIn K mainGlobals "sum"=some none) (z16:W.nsIn K mainGlobals "enumerate"=some none) (z17:W.nsIn K mainGlobals "reversed"=some none):
  ∃fd:FuncData,(∀(s:Shared) (v:Value),BindsTo s fd ⟨[v],[]⟩ [("_law_script",v)])/\∀base:Heap,K.In base->base.Ns mainGlobals mg->aK l.prog w K mg base aV 11 fa fd ["_law_script"] (ux K):=by
 obtain⟨a,⟨_,_,an,_,kV,dc,pm,cv,ct,lk,cd⟩,kp⟩:=t68
 have M:∀{x v},W.nsIn K mainGlobals x=some (some v)->mg x=some v:=fun z=>W.mg_of X G z
 have e:=hfa.symm.trans (M a)
 cases e
 have Z:∀{x},W.nsIn K mainGlobals x=some none->mg x=none:=fun z=>W.mg_none_of X G z
 have T:bG mg:={toBlt:=⟨Z z0,Z z1,Z z2,Z z3,Z z4,Z z5,Z z6,Z z7,Z z8,Z z9,Z z10,Z z11,Z z12⟩,z_min:=Z z13,z_max:=Z z14,z_sum:=Z z15,z_enumerate:=Z z16}
 have Y:gO K bN:=by obtain⟨a,b,c,d,_⟩:=oYard;obtain⟨e0,e1,e2,e3,e4,e5⟩:=pYard;exact⟨⟨a,b,c,d⟩,e0,e1,e2,e3,e4,e5⟩
 have D:qG K cb:=by obtain⟨a,b,c,d,_⟩:=oDebts;obtain⟨e0,e1,e2,e3,e4⟩:=pDebts;exact⟨⟨a,b,c,d⟩,e0,e1,e2,e3,e4⟩
 have wL:∀H,ax K H eQ [.str (kZ true)]:=PY wL0
 refine⟨W.fnOf "law" "law" (kO iq) (jP iq) (aC iq) .none kV dc pm an cv ct,fun s v=>.of_eq rfl,fun base _ _=>?_⟩
 have U:∀{x st f ps j sp},bC K x st f->(∀{fd},aX K x x st f fd->mg x=some (.ref f)->fS K fd ps []->aK l.prog w K mg base aV j f fd ps sp)->Bd x x st ps->aY l.prog w K mg base x j ps sp:=fun t ok b=>t.cal X G ok b
 have V:∀{C n x st f ps j sp},dA K C->dP K C n x st f->(∀{fd},aX K n x st f fd->aK l.prog w K mg base aV j f fd ps sp)->Bd n x st ps->cW l.prog w K mg base C n j ps sp:=fun c t ok b=>t.cal c ok b
 have N:∀{C n x st f ps j sp},mg n=some (.ref C)->W.makesIn K C=true->W.keepIn K (.ref C)=true->dP K C "__init__" x st f->(∀{fd},aX K "__init__" x st f fd->aK l.prog w K mg base aV j f fd ps sp)->Bd "__init__" x st ps->nX l.prog w K mg base n C j ps sp:=fun a b c t ok d=>t.make a b c ok d
 have AD:=U (sp:=(wY K)) t0 (fun F _ _=>LP F T.toBlt) (eM fun _ _ _ _ _ _ _=>rfl)
 have fu:=U (sp:=nY) t1 (fun F _ _=>LQ F T.toBlt) (cD fun _ _ _ _ _ _ _ _=>rfl)
 have lX:=U (sp:=(tj K)) t2 (fun F _ _=>LR F T fu) (ir fun _ _ _ _ _ _ _ _ _=>rfl)
 have oY:=U (sp:=(iL K)) t3 (fun F _ _=>LU F T) (eM fun _ _ _ _ _ _ _=>rfl)
 have dU:=U (sp:=(iL K)) t4 (fun F _ _=>LW F T) (eM fun _ _ _ _ _ _ _=>rfl)
 have kB:=U (sp:=(jm K fJ)) t5 (fun F _ _=>M6 F T) (cD fun _ _ _ _ _ _ _ _=>rfl)
 have jE:=U (sp:=(jm K dN)) t6 (fun F _ _=>M8 F T) (cD fun _ _ _ _ _ _ _ _=>rfl)
 have Ad:=U (sp:=(gJ 1 12)) t7 (fun F _ _=>Ma F T (M Qj)) (eM fun _ _ _ _ _ _ _=>rfl)
 have oK:=U (sp:=tu) t8 (fun F _ _=>Mc F T Ad) (eM fun _ _ _ _ _ _ _=>rfl)
 have uS:=U (sp:=(xl K)) t9 (fun F _ _=>Me F T dU) (cD fun _ _ _ _ _ _ _ _=>rfl)
 have Ae:=U (sp:=(xn K)) t10 (fun F _ _=>Mg F T oK uS) (ir fun _ _ _ _ _ _ _ _ _=>rfl)
 have kC:=U (sp:=(qt K)) t11 (fun F _ _=>Mi F T kB jE) (cD fun _ _ _ _ _ _ _ _=>rfl)
 have Af:=U (sp:=(xg K)) t12 (fun F _ _=>Ml F T) (cD fun _ _ _ _ _ _ _ _=>rfl)
 have Ag:=U (sp:=(xq K)) t13 (fun F _ _=>Mp F T Ae kC) (ir fun _ _ _ _ _ _ _ _ _=>rfl)
 have AE:=U (sp:=xu) t14 (fun F _ _=>Mr F T fu) (eM fun _ _ _ _ _ _ _=>rfl)
 have AF:=U (sp:=xw) t15 (fun F _ _=>Mv F T fu lX) (cD fun _ _ _ _ _ _ _ _=>rfl)
 have n8:=U (sp:=(tH K)) t16 (fun F _ _=>MB F T kB kC) (ir fun _ _ _ _ _ _ _ _ _=>rfl)
 have oM:=U (sp:=tK) t17 (fun F _ _=>MC F T Af) (cD fun _ _ _ _ _ _ _ _=>rfl)
 have Ai:=U (sp:=xC) t18 (fun F _ _=>MD F T) (cD fun _ _ _ _ _ _ _ _=>rfl)
 have Ah:=U (sp:=(xF K)) t19 (fun F _ _=>ML F T Ag n8 oM) (ir fun _ _ _ _ _ _ _ _ _=>rfl)
 have Aj:=U (sp:=(xM K)) t20 (fun F _ _=>MY F T dU kB jE kC) (Qc fun _ _ _ _ _ _ _ _ _ _=>rfl)
 have AG:=U (sp:=(xP K)) t21 (fun F _ _=>M_ F T (Z z17) Ah n8 Ai dU oM Aj) (ir fun _ _ _ _ _ _ _ _ _=>rfl)
 have Ak:=U (sp:=(xR K)) t22 (fun F _ _=>N0 F T) (cD fun _ _ _ _ _ _ _ _=>rfl)
 have oN:=U (sp:=(tN K)) t23 (fun F _ _=>N1 F T Ak dU) (cD fun _ _ _ _ _ _ _ _=>rfl)
 have uT:=U (sp:=xV) t24 (fun F _ _=>N3 F T dU) (eM fun _ _ _ _ _ _ _=>rfl)
 have Ax:=U (sp:=xY) t25 (fun F _ _=>N7 F T uT oN) (cD fun _ _ _ _ _ _ _ _=>rfl)
 have Al:=U (sp:=x_) t26 (fun F _ _=>Na F) (cD fun _ _ _ _ _ _ _ _=>rfl)
 have Aq:=U (sp:=y4) t27 (fun F _ _=>Nb F T Al) (cD fun _ _ _ _ _ _ _ _=>rfl)
 have oQ:=U (sp:=(gJ 1 400)) t28 (fun F _ _=>Nd F T (M Gq)) (eM fun _ _ _ _ _ _ _=>rfl)
 have oO:=U (sp:=(gJ 1 60)) t29 (fun F _ _=>Ng F T (M AM)) (eM fun _ _ _ _ _ _ _=>rfl)
 have oP:=U (sp:=(tQ K)) t30 (fun F _ _=>Nl F T) (eM fun _ _ _ _ _ _ _=>rfl)
 have Am:=U (sp:=(yc K)) t31 (fun F _ _=>Nq F T oO oP) (cD fun _ _ _ _ _ _ _ _=>rfl)
 have AH:=U (sp:=(yd K)) t32 (fun F _ _=>Nz F T oQ oP Am oN) (cD fun _ _ _ _ _ _ _ _=>rfl)
 have jF:=U (sp:=qC) t33 (fun F _ _=>NB F T) (eM fun _ _ _ _ _ _ _=>rfl)
 have oS:=U (sp:=tV) t34 (fun F _ _=>NG F T jF) (eM fun _ _ _ _ _ _ _=>rfl)
 have oU:=U (sp:=(tX K)) t35 (fun F _ _=>NI F T) (eM fun _ _ _ _ _ _ _=>rfl)
 have An:=U (sp:=yh) t36 (fun F _ _=>NM F T oS oO) (eM fun _ _ _ _ _ _ _=>rfl)
 have n9:=U (sp:=tZ) t37 (fun F _ _=>NO F) (cD fun _ _ _ _ _ _ _ _=>rfl)
 have oT:=U (sp:=(gJ 10 4007)) t38 (fun F _ _=>NQ F (M Gq) (M uV) n9) (eM fun _ _ _ _ _ _ _=>rfl)
 have Ao:=U (sp:=yk) t39 (fun F _ _=>NU F T (M uV) oS oT oU) (eM fun _ _ _ _ _ _ _=>rfl)
 have Ap:=U (sp:=yl) t40 (fun F _ _=>NZ F T (M uV) An oU) (cD fun _ _ _ _ _ _ _ _=>rfl)
 have Ql:=U (sp:=ym) t41 (fun F _ _=>O0 F T (M AM) jF) (cD fun _ _ _ _ _ _ _ _=>rfl)
 have Qm:=U (sp:=yo) t42 (fun F _ _=>O2 F T (M Qk) jF oT) (cD fun _ _ _ _ _ _ _ _=>rfl)
 have Qn:=U (sp:=yq) t43 (fun F _ _=>O4 F T Ao Ap) (cD fun _ _ _ _ _ _ _ _=>rfl)
 have AC:=U (sp:=yw) t44 (fun F _ _=>O5 F T (M Qh) tS (oq Ql (M t41.a) (by decide)) (oq Qn (M t43.a) (by decide)) (oq Qm (M t42.a) (by decide))) (cD fun _ _ _ _ _ _ _ _=>rfl)
 have Av:=N (sp:=(yy cb)) (M Qg) oDebts.2.2.2.2.1 oDebts.2.2.2.2.2 t45 (fun F=>O7 F D) (eM fun _ _ _ _ _ _ _=>rfl)
 have Ar:=V (sp:=(yA cb)) D.c t46 (fun F=>Oa F D Aq) (cD fun _ _ _ _ _ _ _ _=>rfl)
 have Aw:=V (sp:=(yC cb)) D.c t47 (fun F=>Oc F D) (ir fun _ _ _ _ _ _ _ _ _=>rfl)
 have Au:=V (sp:=(yE cb)) D.c t48 (fun F=>Od F D) (ir fun _ _ _ _ _ _ _ _ _=>rfl)
 have uU:=V (sp:=(yL bN cb eQ)) Y.c t49 (fun F=>Oj F Y T) (eM fun _ _ _ _ _ _ _=>rfl)
 have oW:=V (sp:=(ub bN cb eQ)) Y.c t50 (fun F=>Om F Y) (cD fun _ _ _ _ _ _ _ _=>rfl)
 have oV:=V (sp:=(uc bN cb eQ)) Y.c t51 (fun F=>Oo F Y) (cD fun _ _ _ _ _ _ _ _=>rfl)
 have gx:=V (sp:=(kc bN cb eQ)) Y.c t52 (fun F=>Os F Y T oV) (cD fun _ _ _ _ _ _ _ _=>rfl)
 have AK:=V (sp:=(yQ bN cb eQ)) Y.c t53 (fun F=>Ou F Y T) (cD fun _ _ _ _ _ _ _ _=>rfl)
 have AJ:=V (sp:=(yS bN cb eQ)) Y.c t54 (fun F=>Ow F Y Ar) (cD fun _ _ _ _ _ _ _ _=>rfl)
 have lY:=V (sp:=(ud bN cb eQ)) Y.c t55 (fun F=>OA F Y T) (eM fun _ _ _ _ _ _ _=>rfl)
 have As:=V (sp:=(yV bN cb eQ)) Y.c t56 (fun F=>OF F Y wL dU oW) (cD fun _ _ _ _ _ _ _ _=>rfl)
 have oX:=V (sp:=(ug bN cb eQ)) Y.c t57 (fun F=>OH F (M AL) As) (eM fun _ _ _ _ _ _ _=>rfl)
 have kD:=V (sp:=(qH bN cb eQ)) Y.c t58 (fun F=>OO F Y wL oW) (ir fun _ _ _ _ _ _ _ _ _=>rfl)
 have AA:=V (sp:=(zb K bN cb eQ)) Y.c t59 (fun F=>OS F Y T dU kD Au) (ir fun _ _ _ _ _ _ _ _ _=>rfl)
 have AI:=N (sp:=(ze bN cb eQ)) (M Qf) oYard.2.2.2.2.1 oYard.2.2.2.2.2 t60 (fun F=>OU F Y oK Av) (cD fun _ _ _ _ _ _ _ _=>rfl)
 have AB:=U (sp:=(zg 1 400)) t61 (fun F _ _=>OW F oQ) (eM fun _ _ _ _ _ _ _=>rfl)
 have Qo:=U (sp:=(zk bN cb eQ)) t62 (fun F _ _=>OY F T (M AM) (M AL) uU kD) (cD fun _ _ _ _ _ _ _ _=>rfl)
 have Qp:=U (sp:=(zo bN cb eQ)) t63 (fun F _ _=>OZ F Y oV Aw) (cD fun _ _ _ _ _ _ _ _=>rfl)
 have Ay:=U (sp:=(zq bN cb eQ)) t64 (fun F _ _=>P4 F T (M uV) lY oX gx) (ir fun _ _ _ _ _ _ _ _ _=>rfl)
 have Az:=U (sp:=(zt bN cb eQ)) t65 (fun F _ _=>Pe F T Y gx Ax n9) (ir fun _ _ _ _ _ _ _ _ _=>rfl)
 have Qq:=U (sp:=(zw bN cb eQ)) t66 (fun F _ _=>Pi F T (M AL) Ay Az gx kD AA jE) (cD fun _ _ _ _ _ _ _ _=>rfl)
 have oZ:=V (sp:=(zy bN cb eQ)) Y.c t67 (fun F=>Pn F Y (M Qi) tE (oq Qo (M t62.a) (by decide)) (oq Qq (M t66.a) (by decide)) (oq Qp (M t63.a) (by decide)) AB AC) (ir fun _ _ _ _ _ _ _ _ _=>rfl)
 exact Qb (rQ (st:=iq) lk cd kp) T AD fu lX AE AF oY AG AH AI oZ lY gx AJ AK oX
theorem walk{l:W.OpenLaw}{q:Program}{loose:List Str}{XP:(Str->Option Value)->Heap->Prop}{YP:World->Heap->Prop}{d:DefRec}{K:Params->W.Frag}(hn:l.most=some 63)(hdf:d.params.defaults=[])
  (hY:∀(w:World) (h:Heap),YP w h->(K w.params).In h)
  (F:∀(w:World) (mg:Str->Option Value) (fa:Addr) (h:Heap),(K w.params).In h->h.Ns mainGlobals mg->mg d.name=some (.ref fa)->
   ∃fd:FuncData,(∀(s:Shared) (u:Value),BindsTo s fd ⟨[u],[]⟩ [("_law_script",u)])/\∀base:Heap,(K w.params).In base->base.Ns mainGlobals mg->aK l.prog w (K w.params) mg base aV 11 fa fd ["_law_script"] (ux (K w.params))):
  W.WalkO q loose XP YP l.row.toRowW d [] (fun f vs=>PySem.call f vs):=
 L2.walk_of (n:=63) (k:=11) (x:="_law_script") (CX:=fun _=>aV) (sp:=fun w=>ux (K w.params)) hn (by decide) hdf ⟨rfl,by decide,by decide⟩ hY F (fun _ _ a ns hl _ hS=>⟨a,ns,rfl,hS,hl,fun _=>rfl⟩) fun _ _ _ _ _ z=>z
end K37
namespace PySem.W.Fast
def tw10630577419525728941:=0
def tw5123723927980833384:=0
def tw17299028209974631406:=0
def tw5746788466662517423:=0
def tw18180212491400684732:=0
def tw1106688167993959869:=0
def tw8295353728183101709:=0
def tw12344590086379865968:=0
def tw9351767937028302705:=0
def tw7237864586601429313:=0
def tw10591312352753000731:=0
def tw1074248303220256445:=0
def tw7964067347105251992:=0
def tw10016468137998647207:=0
def tw18340759398304972836:=0
def tw7133378783202822874:=0
def tw16714424557165797641:=0
def tw8793923354317736045:=0
def tw12112927860926294632:=0
def tw6701556801696213954:=0
def tw2546492406370966764:=0
def tw10544287703727621291:=0
def tw13500372964210392499:=0
def tw5131415821023464997:=0
def tw2796031052936443215:=0
def tw7229298792627731648:=0
def tw11525414084680524157:=0
def tw5033043924901262683:=0
def tw8168117838152694724:=0
def tw234196766002428237:=0
def tw3471560204176024105:=0
def tw101494682924459793:=0
def tw6339848791399113791:=0
def tw15112554455470104989:=0
def tw16246607101218160097:=0
def tw15838594997694564581:=0
def tw13154656954840392652:=0
def tw7938376817052302547:=0
def tw2317998082774256357:=0
def tw3381974314144323387:=0
def tw12900958558847822477:=0
def tw5271545713275459216:=0
def tw733273115624937959:=0
def tw15989477843495850555:=0
def tw9790163476308499430:=0
def tw14457747926965359610:=0
def tw6564344499314718198:=0
def tw5465423420005762517:=0
def tw10574508410500307193:=0
def tw16179976137306809322:=0
def tw2312318695612292480:=0
def tw2799862034467796574:=0
def tw17304376189357775649:=0
def tw1643593610470558210:=0
def tw16611291255045776128:=0
def tw16234337016180086803:=0
def tw3884188021259092123:=0
def tw9136339950853014120:=0
def tw1142966621220753210:=0
def tw18403562599344397390:=0
def tw3441263090156818392:=0
def tw16080847109268446146:=0
def tw1898094151458258047:=0
def tw14071318630792078129:=0
def tw2967088730734289796:=0
def tw789060275643332874:=0
def tw10410856497358873683:=0
def tw5877967538792464759:=0
def tw17120140040925562636:=0
def tw12147338039402741386:=0
def tw4638555385454172652:=0
def tw17901480233024153957:=0
def tw16385489692817557949:=0
def tw7069721489529685485:=0
def tw7917730517321580338:=0
def tw8348335786043153248:=0
def tw5783029857603261182:=0
def tw7084845181418527235:=0
def tw3358965837471515473:=0
def tw6826788274513694889:=0
def tw7958294514458114461:=0
def tw17142232876720349298:=0
def tw2967639037672066191:=0
def tw2778849645732659486:=0
def tw9064286794004521593:=0
def tw3805935160863365449:=0
def tw3862320414187398043:=0
def tw13949606658363727711:=0
def tw12797501745469709535:=0
def tw18263545925983675968:=0
def tw14726394598196650395:=0
def tw1287979341703365740:=0
def tw3219845680435731945:=0
def tw14196894412324196832:=0
def tw14910632081660188470:=0
def tw17589099833744828375:=0
def tw9585126976340824478:=0
def tw15725464345174090715:=0
def tw2496858475410345556:=0
def tw2947798745668841925:=0
def tw2386368341785695929:=0
def tw696614993132461129:=0
def tw16862027811537078493:=0
def tw11015857004485414775:=0
def tw9911829716496783028:=0
def tw6814826926793487594:=0
def tw4078169415343838190:=0
def tw2332437344436532531:=0
def tw11772023989647826157:=0
def tw5975082348469080004:=0
def tw1240529283509122515:=0
def tw10855757297186568020:=0
def tw14653236550486281339:=0
def tw3370984289489430531:=0
def tw15451063467998911911:=0
def tw16843249957232472457:=0
def tw11337612695342098113:=0
def tw13583958051952038185:=0
def tw1377194684170319272:=0
def tw8989764144935058582:=0
def tw13458275770830572224:=0
def tw1494494064004228522:=0
def tw14399217979872473391:=0
def tw5369837279301071660:=0
def tw17766598178002965663:=0
def tw16840162247815429239:=0
def tw12455914162688728330:=0
def tw8721654034042809916:=0
def tw8703248836634558931:=0
def tw6426664962872520860:=0
def tw14448035865830692579:=0
def tw604545075329250853:=0
def tw4925939895222600:=0
def tw16245156348498775969:=0
def tw2001091922159374504:=0
def tw1137275350121699778:=0
def tw16939711579200714739:=0
def tw18136596408585736184:=0
def tw5891539222564346991:=0
def tw4887101181457098255:=0
def tw987749726178862691:=0
def tw3852070489946643518:=0
def tw714505731971647003:=0
def tw2108921770588176561:=0
def tw3008401984504598620:=0
def tw8749416220054254897:=0
def tw4311755609865650414:=0
def tw4329245212262247402:=0
def tw14590733596827460393:=0
def tw10834094487010853370:=0
def tw13132946108809223934:=0
def tw3102717254594326129:=0
def tw5182654469009784938:=0
def tw3693648964731302827:=0
def tw5358741911374149457:=0
def tw10194791613965972388:=0
def tw13704789958578276978:=0
def tw7867330478439868097:=0
def tw6308020756436970535:=0
def tw18292995821568886593:=0
def tw1502751815746696206:=0
def tw5737504864630294517:=0
def tw18211431834222135367:=0
def tw2457125591194741829:=0
def tw12905585357260656076:=0
def tw1375404592173740861:=0
def tw11321056201347184565:=0
def tw16366019457317229192:=0
def tw3705704905174047323:=0
def tw2563768790469032133:=0
def tw5956347235156131012:=0
def tw5233844831762804154:=0
def tw7991128289430578744:=0
def tw8663953627105445304:=0
def tw15868720091039745424:=0
def tw12593487000832890276:=0
def tw16888199441685589915:=0
def tw2034556356315863808:=0
def tw11810658612815509553:=0
def tw14669853029991247904:=0
def tw11787556401853507204:=0
def tw4259729045708593063:=0
def tw3967707237011252967:=0
def tw10608087929188665253:=0
def tw4869482635542749806:=0
def tw1428818162007021310:=0
def tw8486065458407334216:=0
def tw4999378455008833109:=0
def tw2552129653738807816:=0
def tw9376565466772088606:=0
def tw14595836451889074438:=0
def tw8027772649441256446:=0
def tw13995026264986695864:=0
def tw5320735455552637753:=0
def tw7435999904300920118:=0
def tw918363855949028491:=0
def tw5091486194061673307:=0
def tw6047210627982455272:=0
end PySem.W.Fast
open PySem PySem.W PyProof.Rows
set_option maxRecDepth 100000 in
set_option maxHeartbeats 0 in
theorem PySem.Challenge.cw_argosy_k37_whole_a_plan_done_in_a_yard_holds : PySem.Challenge.rw_argosy_k37_whole_a_plan_done_in_a_yard.Holds := by
 w_on;o_law;k_head;(case hw=>w_witness2)
 k_fill
 refine K37.walk (l:=PySem.Challenge.rw_argosy_k37_whole_a_plan_done_in_a_yard) rfl rfl (fun w h Y=>PySem.W.kIn_of Y) ?F
 case F=>
  intro w mg fa h KX G hmg
  refine' K37.all_mk KX G hmg ?xYard ?xDebts ?xSOUND ?xENTER ?xLOOSE ?xmoving_is_sound ?xclear_is_sound ?xenter_storm ?xenter_find ?xenter_pay ?xenter_clear ?t0 ?t1 ?t2 ?t3 ?t4 ?t5 ?t6 ?t7 ?t8 ?t9 ?t10 ?t11 ?t12 ?t13 ?t14 ?t15 ?t16 ?t17 ?t18 ?t19 ?t20 ?t21 ?t22 ?t23 ?t24 ?t25 ?t26 ?t27 ?t28 ?t29 ?t30 ?t31 ?t32 ?t33 ?t34 ?t35 ?t36 ?t37 ?t38 ?t39 ?t40 ?t41 ?t42 ?t43 ?t44 ?t45 ?t46 ?t47 ?t48 ?t49 ?t50 ?t51 ?t52 ?t53 ?t54 ?t55 ?t56 ?t57 ?t58 ?t59 ?t60 ?t61 ?t62 ?t63 ?t64 ?t65 ?t66 ?t67 ?t68 ?kMOST_TIMBERS ?kLAST_DAY ?kMOST_SLIP ?kMOST_BOATS ?kMOST_COINS ?oYard ?pYard ?oDebts ?pDebts ?wL0 ?tS ?tE ?z0 ?z1 ?z2 ?z3 ?z4 ?z5 ?z6 ?z7 ?z8 ?z9 ?z10 ?z11 ?z12 ?z13 ?z14 ?z15 ?z16 ?z17
  all_goals first|(refine'⟨?qa,K37.LkAt.of ?ql ?qc,?qk⟩;(case qa=>k_is);(case ql=>k_is);(case qc=>k_is);(case qk=>k_is))|(refine'⟨?qa,?qi,K37.LkAt.of ?ql ?qc,?qk⟩;(case qa=>k_is);(case qi=>k_is);(case ql=>k_is);(case qc=>k_is);(case qk=>k_is))|(show K37.wdLook _ _ _=true;kernel_rfl)|(show PyProof.Rows.KTD.tabLook _ _ _ _=true;kernel_rfl)|(refine⟨?_,?_,?_,?_,?_,?_⟩<;>k_is)|(refine⟨?_,?_,?_,?_,?_⟩<;>k_is)|k_is|skip
end
